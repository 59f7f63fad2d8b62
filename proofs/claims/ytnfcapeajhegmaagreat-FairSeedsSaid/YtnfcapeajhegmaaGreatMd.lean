/- The reference's queue: Enter, of one that is let in. -/
import Derived.Test.YtnfcapeajhegmaaGreatMu
namespace Go.Proofs.YtnfcapeajhegmaaGreat
open Go.RowKit

theorem info_ti : (Tryz.prog.info? 73).map (fun i => (i.zero, i.size, i.bytes)) = some (some (.agg #[.int .i64 0, .int .i64 0, .int .i64 0, .int .i64 0]), 4, 32) := by kernel_rfl
theorem info_partsT {P : Program} {e : TypeId} {z : Value} {s b : Nat} (h : (P.info? e).map (fun i => (i.zero, i.size, i.bytes)) = some (some z, s, b)) : ∃ i, P.info? e = some i ∧ i.zero = some z ∧ i.size = s ∧ i.bytes = b := by
  cases hq : P.info? e with
  | none => rw [hq] at h; simp at h
  | some i =>
    rw [hq] at h
    simp at h
    exact ⟨i, rfl, h.1, h.2.1, h.2.2⟩

/-- append in a region that draws its order, to a slice that is not nil: the new value written out. -/
theorem stept_where {P : Program} {w : World} {ops : Array Oper} {o : Oper} {a : Act} {K : Act → World → Prop} {Q : Exit → Act → World → Prop} {E : Prop}
    (hg : o.guard = none) (s x : Operand) (t : TypeId) (hop : o.op = Op.call { callee := Callee.builtin Builtin.append, args := #[s, x], argTypes := #[t, t] })
    (base : Nat) (e : TypeId) (i : TypeInfo) (z : Value) (size bytes : Nat) (h1 : P.underlying t = some (.slice e)) (h2 : P.info? e = some i) (h3 : i.zero = some z) (h4 : i.size = size) (h5 : i.bytes = bytes) (h6 : z.cells.size = size) (h7 : 0 < size)
    (g0 cap0 k : Nat) (xs : List Value) (hs : a.eval s = .slice (some ⟨g0, 0, none⟩) k cap0) (hown : w.ownsRow base e size (.slice (some ⟨g0, 0, none⟩) k cap0) k xs) (ad : Addr) (m c : Nat) (news : List Value) (hx : a.eval x = .slice (some ad) m c) (hn : news.length = m * size)
    (hc : ∀ j u, news[j]? = some u → w.cell? (ad.add j) = some u) (h1c : ∀ u ∈ news, u.oneCell' = true) (b1 : k + m ≤ maxLen) (b2 : (k + m) * bytes ≤ 140737488355328) (b3 : base ≤ w.heap.size)
    (hK : ∀ g1 c1 w', w'.ownsRow base e size (.slice (some ⟨g1, 0, none⟩) (k + m) c1) (k + m) (xs ++ news) → w.grownBy w' (some g0) → (g1 = g0 ∨ w.heap.size ≤ g1) → K (a.put o.dst (.slice (some ⟨g1, 0, none⟩) (k + m) c1)) w') :
    if Region.wanted o (yielded ops a.tmps) = true then Oper.wp P o a w K Q else E := by
  have hw : Region.wanted o (yielded ops a.tmps) = true := by simp [Region.wanted, hg]
  rw [if_pos hw]
  obtain ⟨v', w', hrun, r1, r2, r3⟩ := run_append_where (P := P) w base t o.type e i z size bytes h1 h2 h3 h4 h5 h6 h7 _ k xs hown ad m c news hn hc h1c b1 b2 b3
  obtain ⟨v2, w2, hrun2, _, _, r4⟩ := run_append_own (P := P) w base t o.type e i z size bytes h1 h2 h3 h4 h5 h6 h7 _ k xs hown ad m c news hn hc h1c b1 b2 b3
  have e1 := hrun.symm.trans hrun2
  injection e1 with e2 e3
  subst e2 e3
  have hnn : v' ≠ .slice none 0 0 := fun h => by have := (r4.1 h).1; cases this
  rcases r1.2 with ⟨h, _⟩ | ⟨g1, c1, cur, rfl, _⟩
  · exact absurd h hnn
  unfold Oper.wp execOp
  simp only [hop, resolve, invoke, builtin, Sem.run_bind, Sem.run_pure, Result.andThen_ok, List.map_toArray, List.map_cons, List.map_nil, hs, hx, hrun]
  refine hK g1 c1 w' r1 r2 ?_
  rcases r3 g1 rfl with h | h
  · simp [Value.ownBlock] at h; exact .inl h.symm
  · exact .inr h
/-- What is appended: nil, or cells that lie somewhere. -/
def TSrc (w : World) (X : Option Addr) (m c : Nat) (news : List Value) : Prop :=
  (X = none ∧ m = 0 ∧ c = 0 ∧ news = []) ∨ ∃ ad, X = some ad ∧ ∀ j u, news[j]? = some u → w.cell? (ad.add j) = some u
theorem stept_src {P : Program} {w : World} {ops : Array Oper} {o : Oper} {a : Act} {K : Act → World → Prop} {Q : Exit → Act → World → Prop} {E : Prop}
    (hg : o.guard = none) (s x : Operand) (t : TypeId) (hop : o.op = Op.call { callee := Callee.builtin Builtin.append, args := #[s, x], argTypes := #[t, t] })
    (base : Nat) (e : TypeId) (i : TypeInfo) (z : Value) (size bytes : Nat) (h1 : P.underlying t = some (.slice e)) (h2 : P.info? e = some i) (h3 : i.zero = some z) (h4 : i.size = size) (h5 : i.bytes = bytes) (h6 : z.cells.size = size) (h7 : 0 < size)
    (g0 cap0 k : Nat) (xs : List Value) (hs : a.eval s = .slice (some ⟨g0, 0, none⟩) k cap0) (hown : w.ownsRow base e size (.slice (some ⟨g0, 0, none⟩) k cap0) k xs) (X : Option Addr) (m c : Nat) (news : List Value) (hx : a.eval x = .slice X m c) (hn : news.length = m * size)
    (hc : TSrc w X m c news) (h1c : ∀ u ∈ news, u.oneCell' = true) (b1 : k + m ≤ maxLen) (b2 : (k + m) * bytes ≤ 140737488355328) (b3 : base ≤ w.heap.size)
    (hK : ∀ g1 c1 w', w'.ownsRow base e size (.slice (some ⟨g1, 0, none⟩) (k + m) c1) (k + m) (xs ++ news) → w.grownBy w' (some g0) → (g1 = g0 ∨ w.heap.size ≤ g1) → K (a.put o.dst (.slice (some ⟨g1, 0, none⟩) (k + m) c1)) w') :
    if Region.wanted o (yielded ops a.tmps) = true then Oper.wp P o a w K Q else E := by
  rcases hc with ⟨rfl, rfl, rfl, rfl⟩ | ⟨ad, rfl, hc⟩
  · have hw : Region.wanted o (yielded ops a.tmps) = true := by simp [Region.wanted, hg]
    rw [if_pos hw]
    have hrun := run_append_owned_none (P := P) (w := w) base t o.type e i size h1 h2 _ k xs hown
    unfold Oper.wp execOp
    simp only [hop, resolve, invoke, builtin, Sem.run_bind, Sem.run_pure, Result.andThen_ok, List.map_toArray, List.map_cons, List.map_nil, hs, hx, hrun]
    exact hK g0 cap0 w (by simpa using hown) ⟨rfl, rfl, rfl, Nat.le_refl _, fun _ _ _ => rfl⟩ (.inl rfl)
  · exact stept_where hg s x t hop base e i z size bytes h1 h2 h3 h4 h5 h6 h7 g0 cap0 k xs hs hown ad m c news hx hn hc h1c b1 b2 b3 hK
theorem grownT_other {w w' : World} {g k : Nat} (h : w.grownBy w' (some g)) (hk : k < w.heap.size) (hne : k ≠ g) : w'.heap[k]? = w.heap[k]? := h.block k hk (fun e => hne (Option.some.inj e))
theorem grownT_below {B : Nat} {a w w' : World} {g : Nat} (hb : Below B a w) (h : w.grownBy w' (some g)) (hg : B ≤ g) (hB : B ≤ w.heap.size) : Below B a w' := hb.grown h hB (fun k e => by cases e; exact hg)
theorem allocT_at {w : World} (o : Obj) {k : Nat} (hk : k = w.heap.size) : (w.alloc o).heap[k]? = some o := by rw [hk]; exact World.alloc_heap_new w o
theorem ownT_empty (w : World) (e : TypeId) : (w.alloc (.cells #[] e)).drew.ownsRow w.heap.size e 4 (.slice (some ⟨w.heap.size, 0, none⟩) 0 0) 0 [] :=
  ⟨rfl, .inr ⟨w.heap.size, 0, #[], rfl, Nat.le_refl _, World.alloc_heap_new w _, Nat.le_refl _, Nat.zero_le _, rfl, rfl⟩⟩
theorem ownT_empty' {w : World} {e : TypeId} {k base : Nat} (hk : k = w.heap.size) (hb : base ≤ k) : (w.alloc (.cells #[] e)).ownsRow base e 4 (.slice (some ⟨k, 0, none⟩) 0 0) 0 [] :=
  ⟨rfl, .inr ⟨k, 0, #[], rfl, hb, allocT_at _ hk, Nat.le_refl _, Nat.zero_le _, rfl, rfl⟩⟩
theorem encT_at {w : World} {g : Nat} {t : TypeId} {x : TI} (h : w.heap[g]? = some (.cells #[.int .i64 x.1, .int .i64 x.2.1, .int .i64 x.2.2.1, .int .i64 x.2.2.2] t (0, 0))) : ∀ j u, (encT x)[j]? = some u → w.cell? ((⟨g, 0, none⟩ : Addr).add j) = some u := by
  intro j u hu
  have ha : (⟨g, 0, none⟩ : Addr).add j = ⟨g, j, none⟩ := by unfold Addr.add; split <;> simp_all
  rw [ha]
  simp [World.cell?, h]
  exact hu
theorem encT_one (x : TI) : ∀ u ∈ encT x, u.oneCell' = true := by
  intro u hu
  simp [encT] at hu
  rcases hu with rfl | rfl | rfl | rfl <;> rfl
/-- A part of a row's cells. -/
theorem TV.part {w : World} {g n c : Nat} {l : List TI} (h : TV w (.slice (some ⟨g, 0, none⟩) n c) l) (k : Nat) {t : List TI} (ht : t <+: l.drop k) : ∀ j u, (flatT t)[j]? = some u → w.cell? ⟨g, k * 4 + j, none⟩ = some u := by
  intro j u hu
  have hc := World.ownsRow.cells h (g := g) rfl
  have ha : ∀ i, (⟨g, 0, none⟩ : Addr).add i = ⟨g, i, none⟩ := fun i => by unfold Addr.add; split <;> simp_all
  have hb : (flatT l)[k * 4 + j]? = some u := by
    by_cases hk : k ≤ l.length
    · obtain ⟨r, hr⟩ := ht
      have e : l = l.take k ++ (t ++ r) := by rw [hr, List.take_append_drop]
      have e2 : (flatT (l.take k)).length = k * 4 := by rw [flatT_length, List.length_take]; omega
      rw [e, flatT_append, flatT_append, List.getElem?_append_right (by rw [e2]; omega), e2]
      have hj : j < (flatT t).length := (List.getElem?_eq_some_iff.1 hu).1
      have e3 : k * 4 + j - k * 4 = j := by omega
      rw [e3, List.getElem?_append_left hj, hu]
    · have : t = [] := by
        have h1 : l.drop k = [] := List.drop_eq_nil_of_le (by omega)
        rw [h1] at ht
        exact List.prefix_nil.1 ht
      subst this
      simp [flatT] at hu
  have := hc _ _ hb
  rwa [ha] at this
/-- Behind the store of a new list. -/
theorem list_post {w w6 : World} {p g6 c6 N : Nat} {tag base cur : Int} {v : Value} {l l' : List TI} (h0 : IsT w p tag base cur v l) (hB : Below w.heap.size w w6) (ho : w6.ownsRow w.heap.size 73 4 (.slice (some ⟨g6, 0, none⟩) N c6) N (flatT l')) (hN : l'.length = N) :
    IsT (w6.setCell ⟨p, 3, none⟩ (.slice (some ⟨g6, 0, none⟩) N c6)) p tag base cur (.slice (some ⟨g6, 0, none⟩) N c6) l' ∧ Trip (TOf p v) w (TOf p (.slice (some ⟨g6, 0, none⟩) N c6)) (w6.setCell ⟨p, 3, none⟩ (.slice (some ⟨g6, 0, none⟩) N c6)) := by
  subst hN
  have hp := h0.ltp
  have hlt := World.ownsRow.lt ho g6 rfl
  have hs := hB.size
  have hsz : (w6.setCell ⟨p, 3, none⟩ (.slice (some ⟨g6, 0, none⟩) l'.length c6)).heap.size = w6.heap.size := by simp [World.setCell]
  have ho2 : TV w6 (.slice (some ⟨g6, 0, none⟩) l'.length c6) l' := by
    refine ⟨ho.1, ?_⟩
    rcases ho.2 with h | ⟨g, cap, cur', h1, h2, h3⟩
    · exact .inl h
    · exact .inr ⟨g, cap, cur', h1, Nat.zero_le _, h3⟩
  have hne : (Value.slice (some ⟨g6, 0, none⟩) l'.length c6).ownBlock ≠ some p := fun e => by simp [Value.ownBlock] at e; omega
  refine ⟨⟨set_heap ((hB.block p hp).trans h0.1) _, ho2.keep (fun g hg => Below.heap_setCell w6 _ _ g (fun e => hne (by rw [hg, show g = p from e]))), hne⟩, hB.os, hB.tape, hB.output, by omega, fun k hk hn => (Below.heap_setCell w6 _ _ k (fun e => hn (.inl e))).trans (hB.block k hk), ?_, ?_⟩
  · rintro k (rfl | hk)
    · exact .inl (.inl rfl)
    · simp [Value.ownBlock] at hk; exact .inr (by omega)
  · rintro k (rfl | hk)
    · omega
    · simp [Value.ownBlock] at hk; omega
theorem lagE_bd {tag x2 : Int} {ex : Bool} (h1 : -1125899906842624 ≤ x2) (h2 : x2 ≤ 1125899906842624) : -1125899906842624 ≤ lagE tag ex x2 ∧ lagE tag ex x2 ≤ 1125899906842624 := by
  unfold lagE heldT
  split
  · omega
  · split
    · split <;> omega
    · split
      · omega
      · split <;> omega

set_option linter.unusedSimpArgs false in
set_option maxRecDepth 100000 in
set_option maxHeartbeats 16000000 in
theorem rent_new (p g c : Nat) (tag base cur : Int) (l : List TI) (x0 x1 x2 : Int) (ex : Bool) (w : World) (h : IsT w p tag base cur (.slice (some ⟨g, 0, none⟩) l.length c) l) (ht : tag = 0 ∨ tag = 1 ∨ tag = 2) (hl : l.length < 64) (hI : itemB (x0, x1, x2) = true) (hat : atT x0 l 0 = -1) (hb1 : -4000000000000000000 ≤ base) (hb2 : base ≤ 4000000000000000000) :
    Calls Tryz.prog 30 #[.pointer (some ⟨p, 0, none⟩), .int .i64 x0, .int .i64 x1, .int .i64 x2, .bool ex] w fun e w' => e = .returned (.int .i64 0) ∧ RPost p tag (.slice (some ⟨g, 0, none⟩) l.length c) (growT base (insTT l (newT tag base (x0, x1, x2) ex))) cur (insTT l (newT tag base (x0, x1, x2) ex)) w w' := by
  obtain ⟨h1, h2, h3, h4, h5⟩ := item_parts hI
  have k1 := fun w => rgoodw_c x1 w
  rw [h3] at k1
  have K1 := Lib.hid k1
  have ka := rat_c p tag base cur x0 _ _ w h (by omega)
  rw [hat] at ka
  have KA := Lib.hid ka
  have KH := Lib.hid (rheld_c tag x2 w ht h4)
  have KD := Lib.hid (fun w => rday_c x1 w)
  obtain ⟨hd1, hd2⟩ := tickV_bd x1
  obtain ⟨hg1, hg2⟩ := lagE_bd (tag := tag) (ex := ex) h4 h5
  obtain ⟨X, hX⟩ : ∃ X, newT tag base (x0, x1, x2) ex = X := ⟨_, rfl⟩
  have hx := hX
  unfold newT at hx
  rw [hX]
  simp only at hx
  obtain ⟨lg, hlg⟩ : ∃ lg, lagE tag ex x2 = lg := ⟨_, rfl⟩
  rw [hlg] at hx hg1 hg2
  obtain ⟨dv, hdv⟩ : ∃ dv, 4 * tickV x1 = dv := ⟨_, rfl⟩
  simp only [hdv] at KD hx
  obtain ⟨nv, hnv⟩ : ∃ nv, base - lg = nv := ⟨_, rfl⟩
  rw [hnv] at hx
  have hv1 : -4100000000000000000 ≤ nv := by omega
  have hv2 : nv ≤ 4100000000000000000 := by omega
  have hdd : 0 ≤ dv ∧ dv ≤ 931170240 := by omega
  obtain ⟨hdd1, hdd2⟩ := hdd
  have hw1 : IntKind.i64.wrap (base - lg) = base - lg := by rw [IntKind.wrap_i64]; omega
  have hw2 : IntKind.i64.wrap (nv + dv) = nv + dv := by rw [IntKind.wrap_i64]; omega
  have HX := Lib.hid hx
  have HH := Lib.hid h
  have HNV := Lib.hid hnv
  have HL := Lib.hid hlg
  have F0 : Hid (∀ w', Below w.heap.size w w' → w'.frozen? ⟨p, 3, none⟩ = false) := Lib.hid (fun w' hb => (h.below hb).free 3)
  obtain ⟨n, hn⟩ : ∃ n, l.length = n := ⟨_, rfl⟩
  obtain ⟨c0, c1, -, c3⟩ := h.cells
  rw [hn] at c3 hl
  have HN := Lib.hid hn
  clear h k1 ka hI h3 hd1 hd2 hdv hX hx hnv hlg hat hn ht
  go_enter Tryz.func30, Tryz.ntmps30
  go_wp2_with fail
  refine (K1.out _).mono ?_; rintro e w' ⟨rfl, rfl⟩
  clear K1
  go_wp2_with fail
  refine KA.out.mono ?_; rintro e w' ⟨rfl, rfl⟩
  clear KA
  cases ex
  case' false =>
    have hh : heldT tag x2 = lg := HL.out
    go_wp2_with fail
    refine KH.out.mono ?_; rintro e w' ⟨rfl, rfl⟩
    rw [hh]
    clear hh KH HL h4 h5
    go_wp2_with fail
  case' true =>
    obtain rfl : x2 = lg := HL.out
    clear KH HL h4 h5
    go_wp2_with fail
  all_goals
   go_loop [11] (fun i => ∃ k : Nat, i = .int .i64 k ∧ k ≤ n ∧ Hid (∀ z ∈ l.take k, z.1 < x0)) (fun i => n - (intOf i).toNat)
   case atStart => exact ⟨0, rfl, Nat.zero_le _, Lib.hid (by simp)⟩
   case round =>
    obtain ⟨k, rfl, hk, HK⟩ := hrel
    by_cases hgo : ∃ y, l[k]? = some y ∧ y.1 < x0
    · obtain ⟨y, hy, hbef⟩ := hgo
      have hlt : k < n := by rw [← HN.out]; exact (List.getElem?_eq_some_iff.1 hy).1
      obtain ⟨g', cc, hv, _, _, d0, -, -, -⟩ := HH.out.2.1.get hy
      obtain rfl : g = g' := by injection hv with hv1; injection hv1 with hv1; injection hv1 with hv1
      have htk : ∀ z ∈ l.take (k + 1), z.1 < x0 := by
        rw [List.take_add_one, hy]
        intro z hz
        rcases List.mem_append.1 hz with h | h
        · exact HK.out z h
        · simp at h; subst h; exact hbef
      have HTK := Lib.hid htk
      obtain ⟨y0, y1, y2, y3⟩ := y
      simp only at d0 hbef
      have hkm : (k : Int) < (n : Int) := by omega
      clear hv hy htk HK
      go_wp2_with fail
      go_round
      case rel => exact ⟨k + 1, by go_num, by omega, HTK⟩
      case measure => simp [intOf]; omega
    · have hex : (k < n ∧ ∃ y, l[k]? = some y ∧ ¬ y.1 < x0) ∨ k = n := by
        by_cases hlt : k < n
        · have hkl : k < l.length := by rw [HN.out]; exact hlt
          exact .inl ⟨hlt, l[k], List.getElem?_eq_getElem hkl, fun hb => hgo ⟨_, List.getElem?_eq_getElem hkl, hb⟩⟩
        · exact .inr (by omega)
      have hins : insTT l X = l.take k ++ [X] ++ l.drop k := insTT_here (by rw [HN.out]; exact hk) (by rw [← HX.out]; exact HK.out) (fun y hy hb => hgo ⟨y, hy, by rw [← HX.out] at hb; exact hb⟩)
      have HINS := Lib.hid hins
      clear hgo hins HK
      have hkn' : k ≤ n := hk
      rcases hex with ⟨hlt, y, hy, hbef⟩ | hkn
      case' inl =>
        obtain ⟨g', cc, hv, _, _, d0, -, -, -⟩ := HH.out.2.1.get hy
        obtain rfl : g = g' := by injection hv with hv1; injection hv1 with hv1; injection hv1 with hv1
        obtain ⟨y0, y1, y2, y3⟩ := y
        simp only at d0 hbef
        have hkm : (k : Int) < (n : Int) := by omega
        clear hv hy
        go_wp2_with fail
        clear d0 hkm hbef hlt
      case' inr =>
        have hkf : decide (k < n) = false := decide_eq_false (by omega)
        have hkf' : decide ((k : Int) < (n : Int)) = false := decide_eq_false (by omega)
        have hkn2 : ¬ (k : Int) < (n : Int) := by omega
        clear hkn
        go_wp2_with fail
        clear hkf hkf' hkn2
      all_goals
       rw [HNV.out]
       have hcc : n ≤ c := by
         rcases HH.out.2.1.2 with ⟨h1, _⟩ | ⟨g1, cap, cur, h1, _, _, h4, _⟩
         · cases h1
         · injection h1 with _ _ h3; rw [HN.out] at h4; omega
       have hgw : g < w.heap.size := (World.ownsRow.lt HH.out.2.1 g rfl).2
       have hk0 : (0 : Int) ≤ (k : Int) := by omega
       have hkc : (k : Int) ≤ (c : Int) := by omega
       have hknI : (k : Int) ≤ (n : Int) := by omega
       have hncI : (n : Int) ≤ (c : Int) := by omega
       obtain ⟨AD, hAD⟩ : ∃ AD, (if c = k then some (⟨g, 0, none⟩ : Addr) else some ⟨g, k * 4, none⟩) = some AD := by split <;> exact ⟨_, rfl⟩
       have hrw : ∀ w', Below w.heap.size w w' → TV w' (.slice (some ⟨g, 0, none⟩) l.length c) l := fun w' hb => (HH.out.below hb).2.1
       have hP1 : Hid (∀ w', Below w.heap.size w w' → TSrc w' (some ⟨g, 0, none⟩) k c (flatT (l.take k))) := Lib.hid (fun w' hb => .inr ⟨_, rfl, fun j u hu => by
         have ha : ∀ i, (⟨g, 0, none⟩ : Addr).add i = ⟨g, i, none⟩ := fun i => by unfold Addr.add; split <;> simp_all
         rw [ha]
         have := (hrw w' hb).part 0 (t := l.take k) (by rw [List.drop_zero]; exact List.take_prefix _ _) j u hu
         simpa using this⟩)
       have hP2 : Hid (∀ w', Below w.heap.size w w' → TSrc w' (some AD) (n - k) (c - k) (flatT (l.drop k))) := Lib.hid (fun w' hb => .inr ⟨_, rfl, fun j u hu => by
         by_cases hcc' : c = k
         · have h1 : l.drop k = [] := List.drop_eq_nil_of_le (by rw [HN.out]; omega)
           rw [h1] at hu
           simp [flatT] at hu
         · rw [if_neg hcc'] at hAD
           injection hAD with hAD
           subst hAD
           have ha : ∀ o i, (⟨g, o, none⟩ : Addr).add i = ⟨g, o + i, none⟩ := fun o i => by unfold Addr.add; split <;> simp_all
           rw [ha]
           exact (hrw w' hb).part k (t := l.drop k) (List.prefix_refl _) j u hu⟩)
       have HL1 : Hid ((flatT (l.take k)).length = k * 4) := Lib.hid (by rw [flatT_length, List.length_take, HN.out]; omega)
       have HL2 : Hid ((flatT (l.drop k)).length = (n - k) * 4) := Lib.hid (by rw [flatT_length, List.length_drop, HN.out])
       clear hrw
       have SS : Hid (∀ w', Below w.heap.size w w' → w'.cell? ⟨p, 3, none⟩ = some (.slice (some ⟨g, 0, none⟩) n c)) := Lib.hid (fun w' hb => by have := (HH.out.below hb).cells.2.2.2; rwa [HN.out] at this)
       have HB0 : Hid (Below w.heap.size w w.drew) := Lib.hid (Below.refl _ w).drew
       obtain ⟨i0, hi, hz0, hz1, hz2⟩ := info_partsT info_ti
       clear c0 c1 c3
       refine wp_region_phase 26 (by kernel_rfl) (by kernel_rfl) (fun w' => w'.cell? ⟨p, 3, none⟩ = some (.slice (some ⟨g, 0, none⟩) n c)) ?_
       refine wpAnyH_take (i := 0) (v := .pointer (some ⟨p, 0, none⟩)) rfl (by kernel_rfl) (by kernel_rfl) (by kernel_rfl) (fun _ _ _ h => h) (Or.inl ⟨by rfl, ?_⟩) (SS.out _ HB0.out) ?_
       · intro w' s1; go_simp
       simp only [Act.put, List.setIfInBounds_toArray, List.set_cons_zero, List.set_cons_succ]
       refine wpAnyH_take (i := 2) (v := .pointer (some ⟨p, 0, none⟩)) rfl (by kernel_rfl) (by kernel_rfl) (by kernel_rfl) (fun _ _ _ h => h) (Or.inl ⟨by rfl, ?_⟩) (SS.out _ HB0.out) ?_
       · intro w' s1; go_simp
       simp only [Act.put, List.setIfInBounds_toArray, List.set_cons_zero, List.set_cons_succ]
       refine wpAnyH_take (i := 3) (v := .pointer (some ⟨p, 0, none⟩)) rfl (by kernel_rfl) (by kernel_rfl) (by kernel_rfl) (fun _ _ _ h => h) (Or.inl ⟨by rfl, ?_⟩) (SS.out _ HB0.out) ?_
       · intro w' s1; go_simp
       simp only [Act.put, List.setIfInBounds_toArray, List.set_cons_zero, List.set_cons_succ]
       refine wpAnyH_take (i := 4) (v := .pointer (some ⟨p, 3, none⟩)) rfl (by kernel_rfl) (by kernel_rfl) (by kernel_rfl) (fun _ _ _ h => h) (Or.inl ⟨by rfl, ?_⟩) (SS.out _ HB0.out) ?_
       · intro w' s1; go_simp
       simp only [Act.put, List.setIfInBounds_toArray, List.set_cons_zero, List.set_cons_succ]
       refine wpAnyH_take (i := 5) (v := .slice (some ⟨g, 0, none⟩) n c) rfl (by kernel_rfl) (by kernel_rfl) (by kernel_rfl) (fun _ _ _ h => h) (Or.inl ⟨by rfl, ?_⟩) (SS.out _ HB0.out) ?_
       · intro w' s1; go_simp
       simp only [Act.put, List.setIfInBounds_toArray, List.set_cons_zero, List.set_cons_succ]
       refine wpAnyH_take (i := 6) (v := .int .i64 k) rfl (by kernel_rfl) (by kernel_rfl) (by kernel_rfl) (fun _ _ _ h => h) (Or.inl ⟨by rfl, ?_⟩) (SS.out _ HB0.out) ?_
       · intro w' s1; go_simp
       simp only [Act.put, List.setIfInBounds_toArray, List.set_cons_zero, List.set_cons_succ]
       refine wpAnyH_take (i := 7) (v := .slice (some ⟨g, 0, none⟩) k c) rfl (by kernel_rfl) (by kernel_rfl) (by kernel_rfl) (fun _ _ _ h => h) (Or.inl ⟨by rfl, ?_⟩) (SS.out _ HB0.out) ?_
       · intro w' s1; go_simp
       simp only [Act.put, List.setIfInBounds_toArray, List.set_cons_zero, List.set_cons_succ]
       refine wpAnyH_take (i := 9) (v := .int .i64 x0) rfl (by kernel_rfl) (by kernel_rfl) (by kernel_rfl) (fun _ _ _ h => h) (Or.inl ⟨by rfl, ?_⟩) (SS.out _ HB0.out) ?_
       · intro w' s1; go_simp
       simp only [Act.put, List.setIfInBounds_toArray, List.set_cons_zero, List.set_cons_succ]
       refine wpAnyH_take (i := 10) (v := .int .i64 x1) rfl (by kernel_rfl) (by kernel_rfl) (by kernel_rfl) (fun _ _ _ h => h) (Or.inl ⟨by rfl, ?_⟩) (SS.out _ HB0.out) ?_
       · intro w' s1; go_simp
       simp only [Act.put, List.setIfInBounds_toArray, List.set_cons_zero, List.set_cons_succ]
       refine wpAnyH_take (i := 11) (v := .int .i64 nv) rfl (by kernel_rfl) (by kernel_rfl) (by kernel_rfl) (fun _ _ _ h => h) (Or.inl ⟨by rfl, ?_⟩) (SS.out _ HB0.out) ?_
       · intro w' s1; go_simp
       simp only [Act.put, List.setIfInBounds_toArray, List.set_cons_zero, List.set_cons_succ]
       refine wpAnyH_take (i := 12) (v := .int .i64 nv) rfl (by kernel_rfl) (by kernel_rfl) (by kernel_rfl) (fun _ _ _ h => h) (Or.inl ⟨by rfl, ?_⟩) (SS.out _ HB0.out) ?_
       · intro w' s1; go_simp
       simp only [Act.put, List.setIfInBounds_toArray, List.set_cons_zero, List.set_cons_succ]
       refine wpAnyH_take (i := 13) (v := .int .i64 x1) rfl (by kernel_rfl) (by kernel_rfl) (by kernel_rfl) (fun _ _ _ h => h) (Or.inl ⟨by rfl, ?_⟩) (SS.out _ HB0.out) ?_
       · intro w' s1; go_simp
       simp only [Act.put, List.setIfInBounds_toArray, List.set_cons_zero, List.set_cons_succ]
       refine wpAnyH_take (i := 19) (v := .pointer (some ⟨p, 0, none⟩)) rfl (by kernel_rfl) (by kernel_rfl) (by kernel_rfl) (fun _ _ _ h => h) (Or.inl ⟨by rfl, ?_⟩) (SS.out _ HB0.out) ?_
       · intro w' s1; go_simp
       simp only [Act.put, List.setIfInBounds_toArray, List.set_cons_zero, List.set_cons_succ]
       refine wpAnyH_take (i := 20) (v := .pointer (some ⟨p, 0, none⟩)) rfl (by kernel_rfl) (by kernel_rfl) (by kernel_rfl) (fun _ _ _ h => h) (Or.inl ⟨by rfl, ?_⟩) (SS.out _ HB0.out) ?_
       · intro w' s1; go_simp
       simp only [Act.put, List.setIfInBounds_toArray, List.set_cons_zero, List.set_cons_succ]
       refine wpAnyH_take (i := 21) (v := .pointer (some ⟨p, 3, none⟩)) rfl (by kernel_rfl) (by kernel_rfl) (by kernel_rfl) (fun _ _ _ h => h) (Or.inl ⟨by rfl, ?_⟩) (SS.out _ HB0.out) ?_
       · intro w' s1; go_simp
       simp only [Act.put, List.setIfInBounds_toArray, List.set_cons_zero, List.set_cons_succ]
       refine wpAnyH_take (i := 22) (v := .slice (some ⟨g, 0, none⟩) n c) rfl (by kernel_rfl) (by kernel_rfl) (by kernel_rfl) (fun _ _ _ h => h) (Or.inl ⟨by rfl, ?_⟩) (SS.out _ HB0.out) ?_
       · intro w' s1; go_simp
       simp only [Act.put, List.setIfInBounds_toArray, List.set_cons_zero, List.set_cons_succ]
       refine wpAnyH_take (i := 23) (v := .int .i64 k) rfl (by kernel_rfl) (by kernel_rfl) (by kernel_rfl) (fun _ _ _ h => h) (Or.inl ⟨by rfl, ?_⟩) (SS.out _ HB0.out) ?_
       · intro w' s1; go_simp
       simp only [Act.put, List.setIfInBounds_toArray, List.set_cons_zero, List.set_cons_succ]
       refine wpAnyH_take (i := 24) (v := .slice (some AD) (n - k) (c - k)) rfl (by kernel_rfl) (by kernel_rfl) (by kernel_rfl) (fun _ _ _ h => h) (Or.inl ⟨by rfl, ?_⟩) (SS.out _ HB0.out) ?_
       · intro w' s1; go_simp
       simp only [Act.put, List.setIfInBounds_toArray, List.set_cons_zero, List.set_cons_succ]
       refine wpAnyH_ready (rs := [1]) (by kernel_rfl) (by simp) ?_
       refine AllReadyH.cons rfl (fun K hK => ?_) AllReadyH.nil
       go_simp
       have hBe : Below w.heap.size w (w.alloc (.cells #[] 73)).drew := ((Below.refl _ w).alloc (Nat.le_refl _) _).drew
       refine hK.out _ _ (SS.out _ hBe) (fun _ => ?_)
       clear hK
       refine wpAnyH_ready (rs := [8]) (by kernel_rfl) (by simp) ?_
       refine AllReadyH.cons rfl (fun K hK => ?_) AllReadyH.nil
       refine stept_src (by rfl) _ _ 68 (by rfl) w.heap.size 73 i0 (.agg #[.int .i64 0, .int .i64 0, .int .i64 0, .int .i64 0]) 4 32 Tryz.underlying68 hi hz0 hz1 hz2 (by rfl) (by omega) w.heap.size 0 0 _ (by rfl) (ownT_empty w _) (some ⟨g, 0, none⟩) k c (flatT (l.take k)) (by rfl) HL1.out (hP1.out _ hBe) (flatT_one _) (by unfold maxLen; omega) (by omega) (hBe).size ?_
       intro g3 c3 w3 ho3 hg3 hw3
       rw [Nat.zero_add] at ho3 ⊢
       have hB3 : Below w.heap.size w w3 := grownT_below hBe hg3 (Nat.le_refl _) (hBe).size
       refine hK.out _ _ (SS.out _ hB3) (fun _ => ?_)
       clear hK
       refine wpAnyH_ready (rs := [14]) (by kernel_rfl) (by simp) ?_
       refine AllReadyH.cons rfl (fun K hK => ?_) AllReadyH.nil
       go_simp
       refine (KD.out _).mono ?_
       rintro e w4 ⟨rfl, rfl⟩
       refine hK.out _ _ (SS.out _ hB3) (fun _ => ?_)
       clear hK
       refine wpAnyH_take (i := 15) (v := .int .i64 (nv + dv)) rfl (by kernel_rfl) (by kernel_rfl) (by kernel_rfl) (fun _ _ _ h => h) (Or.inl ⟨by rfl, ?_⟩) (SS.out _ hB3) ?_
       · intro w' s1; go_simp
       simp only [Act.put, List.setIfInBounds_toArray, List.set_cons_zero, List.set_cons_succ]
       refine wpAnyH_take (i := 16) (v := .agg #[.int .i64 x0, .int .i64 x1, .int .i64 nv, .int .i64 (nv + dv)]) rfl (by kernel_rfl) (by kernel_rfl) (by kernel_rfl) (fun _ _ _ h => h) (Or.inl ⟨by rfl, ?_⟩) (SS.out _ hB3) ?_
       · intro w' s1; go_simp
       simp only [Act.put, List.setIfInBounds_toArray, List.set_cons_zero, List.set_cons_succ]
       refine wpAnyH_ready (rs := [17]) (by kernel_rfl) (by simp) ?_
       refine AllReadyH.cons rfl (fun K hK => ?_) AllReadyH.nil
       go_simp
       have hBx : Below w.heap.size w (w3.alloc (.cells #[.int .i64 x0, .int .i64 x1, .int .i64 nv, .int .i64 (nv + dv)] 73)) := (hB3).alloc (hB3).size _
       refine hK.out _ _ (SS.out _ hBx) (fun _ => ?_)
       clear hK
       refine wpAnyH_ready (rs := [18]) (by kernel_rfl) (by simp) ?_
       refine AllReadyH.cons rfl (fun K hK => ?_) AllReadyH.nil
       refine stept_src (by rfl) _ _ 68 (by rfl) w.heap.size 73 i0 (.agg #[.int .i64 0, .int .i64 0, .int .i64 0, .int .i64 0]) 4 32 Tryz.underlying68 hi hz0 hz1 hz2 (by rfl) (by omega) g3 c3 k _ (by rfl) (ho3.alloc _) (some ⟨w3.heap.size, 0, none⟩) 1 1 (encT (x0, x1, nv, nv + dv)) (by rfl) rfl (.inr ⟨_, rfl, encT_at (World.alloc_heap_new w3 _)⟩) (encT_one _) (by unfold maxLen; omega) (by omega) (hBx).size ?_
       intro g5 c5 w5 ho5 hg5 hw5
       have hB5 : Below w.heap.size w w5 := grownT_below hBx hg5 (World.ownsRow.lt ho3 _ rfl).1 (hBx).size
       refine hK.out _ _ (SS.out _ hB5) (fun _ => ?_)
       clear hK
       refine wpAnyH_ready (rs := [25]) (by kernel_rfl) (by simp) ?_
       refine AllReadyH.cons rfl (fun K hK => ?_) AllReadyH.nil
       refine stept_src (by rfl) _ _ 68 (by rfl) w.heap.size 73 i0 (.agg #[.int .i64 0, .int .i64 0, .int .i64 0, .int .i64 0]) 4 32 Tryz.underlying68 hi hz0 hz1 hz2 (by rfl) (by omega) g5 c5 (k + 1) _ (by rfl) ho5 (some AD) (n - k) (c - k) (flatT (l.drop k)) (by rfl) HL2.out (hP2.out _ hB5) (flatT_one _) (by unfold maxLen; omega) (by omega) (hB5).size ?_
       intro g6 c6 w6 ho6 hg6 hw6
       have hB6 : Below w.heap.size w w6 := grownT_below hB5 hg6 (World.ownsRow.lt ho5 _ rfl).1 (hB5).size
       refine hK.out _ _ (SS.out _ hB6) (fun _ => ?_)
       clear hK
       refine wpAnyH_done (by kernel_rfl) ?_ _
       refine phase_tail (by kernel_rfl) ?_
       have e : flatT (insTT l X) = [] ++ flatT (l.take k) ++ encT (x0, x1, nv, nv + dv) ++ flatT (l.drop k) := by rw [HINS.out, ← HX.out, flatT_append, flatT_append]; simp [flatT]
       have f6 := F0.out w6 hB6
       have s6 := SS.out _ hB6
       have pst := list_post HH.out hB6 (by rw [e]; exact ho6) (by rw [length_insTT, HN.out]; omega)
       have POST := Lib.hid pst
       have KG := Lib.hid (rgrow_c _ _ _ _ _ _ _ pst.1 (by rw [length_insTT]; have := HN.out; omega))
       clear pst hB6 hB5 ho6 ho5 hg6 hg5 hw6 hw5 e
       simp only [List.drop_succ_cons, List.drop_zero]
       go_wp2_with fail
       refine KG.out.mono ?_
       rintro e w8 ⟨rfl, hq, ht⟩
       have HQ := Lib.hid (And.intro hq ht)
       clear hq ht KG
       go_wp2_with fail
       go_ret
       exact ⟨rfl, _, HQ.out.1, POST.out.2.trans HQ.out.2⟩

set_option linter.unusedSimpArgs false in
set_option maxRecDepth 100000 in
set_option maxHeartbeats 16000000 in
theorem rent_nil (p : Nat) (tag base cur : Int) (x0 x1 x2 : Int) (ex : Bool) (w : World) (h : IsT w p tag base cur (.slice none 0 0) ([] : List TI)) (ht : tag = 0 ∨ tag = 1 ∨ tag = 2) (hI : itemB (x0, x1, x2) = true) (hb1 : -4000000000000000000 ≤ base) (hb2 : base ≤ 4000000000000000000) :
    Calls Tryz.prog 30 #[.pointer (some ⟨p, 0, none⟩), .int .i64 x0, .int .i64 x1, .int .i64 x2, .bool ex] w fun e w' => e = .returned (.int .i64 0) ∧ RPost p tag (.slice none 0 0) (growT base (insTT ([] : List TI) (newT tag base (x0, x1, x2) ex))) cur (insTT ([] : List TI) (newT tag base (x0, x1, x2) ex)) w w' := by
  obtain ⟨h1, h2, h3, h4, h5⟩ := item_parts hI
  have k1 := fun w => rgoodw_c x1 w
  rw [h3] at k1
  have K1 := Lib.hid k1
  have ka := rat_c p tag base cur x0 _ _ w h (by decide)
  simp only [atT] at ka
  have KA := Lib.hid ka
  have KH := Lib.hid (rheld_c tag x2 w ht h4)
  have KD := Lib.hid (fun w => rday_c x1 w)
  obtain ⟨hd1, hd2⟩ := tickV_bd x1
  obtain ⟨hg1, hg2⟩ := lagE_bd (tag := tag) (ex := ex) h4 h5
  obtain ⟨X, hX⟩ : ∃ X, newT tag base (x0, x1, x2) ex = X := ⟨_, rfl⟩
  have hx := hX
  unfold newT at hx
  rw [hX]
  simp only at hx
  obtain ⟨lg, hlg⟩ : ∃ lg, lagE tag ex x2 = lg := ⟨_, rfl⟩
  rw [hlg] at hx hg1 hg2
  obtain ⟨dv, hdv⟩ : ∃ dv, 4 * tickV x1 = dv := ⟨_, rfl⟩
  simp only [hdv] at KD hx
  obtain ⟨nv, hnv⟩ : ∃ nv, base - lg = nv := ⟨_, rfl⟩
  rw [hnv] at hx
  have hv1 : -4100000000000000000 ≤ nv := by omega
  have hv2 : nv ≤ 4100000000000000000 := by omega
  have hdd : 0 ≤ dv ∧ dv ≤ 931170240 := by omega
  obtain ⟨hdd1, hdd2⟩ := hdd
  have hw1 : IntKind.i64.wrap (base - lg) = base - lg := by rw [IntKind.wrap_i64]; omega
  have hw2 : IntKind.i64.wrap (nv + dv) = nv + dv := by rw [IntKind.wrap_i64]; omega
  have HX := Lib.hid hx
  have HH := Lib.hid h
  have HNV := Lib.hid hnv
  have HL := Lib.hid hlg
  have F0 : Hid (∀ w', Below w.heap.size w w' → w'.frozen? ⟨p, 3, none⟩ = false) := Lib.hid (fun w' hb => (h.below hb).free 3)
  obtain ⟨c0, c1, -, c3⟩ := h.cells
  clear h k1 ka hI h3 hd1 hd2 hdv hX hx hnv hlg ht
  go_enter Tryz.func30, Tryz.ntmps30
  go_wp2_with fail
  refine (K1.out _).mono ?_; rintro e w' ⟨rfl, rfl⟩
  clear K1
  go_wp2_with fail
  refine KA.out.mono ?_; rintro e w' ⟨rfl, rfl⟩
  clear KA
  cases ex
  case' false =>
    have hh : heldT tag x2 = lg := HL.out
    go_wp2_with fail
    refine KH.out.mono ?_; rintro e w' ⟨rfl, rfl⟩
    rw [hh]
    clear hh KH HL h4 h5
    go_wp2_with fail
  case' true =>
    obtain rfl : x2 = lg := HL.out
    clear KH HL h4 h5
    go_wp2_with fail
  all_goals
   go_loop [11] (fun i => i = .int .i64 0) (fun _ => 0)
   case atStart => rfl
   case round =>
    obtain rfl := hrel
    go_wp2_with fail
    rw [HNV.out]
    have SS : Hid (∀ w', Below w.heap.size w w' → w'.cell? ⟨p, 3, none⟩ = some (.slice none 0 0)) := Lib.hid (fun w' hb => (HH.out.below hb).cells.2.2.2)
    have HB0 : Hid (Below w.heap.size w w.drew) := Lib.hid (Below.refl _ w).drew
    obtain ⟨i0, hi, hz0, hz1, hz2⟩ := info_partsT info_ti
    clear c0 c1 c3
    refine wp_region_phase 26 (by kernel_rfl) (by kernel_rfl) (fun w' => w'.cell? ⟨p, 3, none⟩ = some (.slice none 0 0)) ?_
    refine wpAnyH_take (i := 0) (v := .pointer (some ⟨p, 0, none⟩)) rfl (by kernel_rfl) (by kernel_rfl) (by kernel_rfl) (fun _ _ _ h => h) (Or.inl ⟨by rfl, ?_⟩) (SS.out _ HB0.out) ?_
    · intro w' s1; go_simp
    simp only [Act.put, List.setIfInBounds_toArray, List.set_cons_zero, List.set_cons_succ]
    refine wpAnyH_take (i := 2) (v := .pointer (some ⟨p, 0, none⟩)) rfl (by kernel_rfl) (by kernel_rfl) (by kernel_rfl) (fun _ _ _ h => h) (Or.inl ⟨by rfl, ?_⟩) (SS.out _ HB0.out) ?_
    · intro w' s1; go_simp
    simp only [Act.put, List.setIfInBounds_toArray, List.set_cons_zero, List.set_cons_succ]
    refine wpAnyH_take (i := 3) (v := .pointer (some ⟨p, 0, none⟩)) rfl (by kernel_rfl) (by kernel_rfl) (by kernel_rfl) (fun _ _ _ h => h) (Or.inl ⟨by rfl, ?_⟩) (SS.out _ HB0.out) ?_
    · intro w' s1; go_simp
    simp only [Act.put, List.setIfInBounds_toArray, List.set_cons_zero, List.set_cons_succ]
    refine wpAnyH_take (i := 4) (v := .pointer (some ⟨p, 3, none⟩)) rfl (by kernel_rfl) (by kernel_rfl) (by kernel_rfl) (fun _ _ _ h => h) (Or.inl ⟨by rfl, ?_⟩) (SS.out _ HB0.out) ?_
    · intro w' s1; go_simp
    simp only [Act.put, List.setIfInBounds_toArray, List.set_cons_zero, List.set_cons_succ]
    refine wpAnyH_take (i := 5) (v := .slice none 0 0) rfl (by kernel_rfl) (by kernel_rfl) (by kernel_rfl) (fun _ _ _ h => h) (Or.inl ⟨by rfl, ?_⟩) (SS.out _ HB0.out) ?_
    · intro w' s1; go_simp
    simp only [Act.put, List.setIfInBounds_toArray, List.set_cons_zero, List.set_cons_succ]
    refine wpAnyH_take (i := 6) (v := .int .i64 0) rfl (by kernel_rfl) (by kernel_rfl) (by kernel_rfl) (fun _ _ _ h => h) (Or.inl ⟨by rfl, ?_⟩) (SS.out _ HB0.out) ?_
    · intro w' s1; go_simp
    simp only [Act.put, List.setIfInBounds_toArray, List.set_cons_zero, List.set_cons_succ]
    refine wpAnyH_take (i := 7) (v := .slice none 0 0) rfl (by kernel_rfl) (by kernel_rfl) (by kernel_rfl) (fun _ _ _ h => h) (Or.inl ⟨by rfl, ?_⟩) (SS.out _ HB0.out) ?_
    · intro w' s1; go_simp
    simp only [Act.put, List.setIfInBounds_toArray, List.set_cons_zero, List.set_cons_succ]
    refine wpAnyH_take (i := 9) (v := .int .i64 x0) rfl (by kernel_rfl) (by kernel_rfl) (by kernel_rfl) (fun _ _ _ h => h) (Or.inl ⟨by rfl, ?_⟩) (SS.out _ HB0.out) ?_
    · intro w' s1; go_simp
    simp only [Act.put, List.setIfInBounds_toArray, List.set_cons_zero, List.set_cons_succ]
    refine wpAnyH_take (i := 10) (v := .int .i64 x1) rfl (by kernel_rfl) (by kernel_rfl) (by kernel_rfl) (fun _ _ _ h => h) (Or.inl ⟨by rfl, ?_⟩) (SS.out _ HB0.out) ?_
    · intro w' s1; go_simp
    simp only [Act.put, List.setIfInBounds_toArray, List.set_cons_zero, List.set_cons_succ]
    refine wpAnyH_take (i := 11) (v := .int .i64 nv) rfl (by kernel_rfl) (by kernel_rfl) (by kernel_rfl) (fun _ _ _ h => h) (Or.inl ⟨by rfl, ?_⟩) (SS.out _ HB0.out) ?_
    · intro w' s1; go_simp
    simp only [Act.put, List.setIfInBounds_toArray, List.set_cons_zero, List.set_cons_succ]
    refine wpAnyH_take (i := 12) (v := .int .i64 nv) rfl (by kernel_rfl) (by kernel_rfl) (by kernel_rfl) (fun _ _ _ h => h) (Or.inl ⟨by rfl, ?_⟩) (SS.out _ HB0.out) ?_
    · intro w' s1; go_simp
    simp only [Act.put, List.setIfInBounds_toArray, List.set_cons_zero, List.set_cons_succ]
    refine wpAnyH_take (i := 13) (v := .int .i64 x1) rfl (by kernel_rfl) (by kernel_rfl) (by kernel_rfl) (fun _ _ _ h => h) (Or.inl ⟨by rfl, ?_⟩) (SS.out _ HB0.out) ?_
    · intro w' s1; go_simp
    simp only [Act.put, List.setIfInBounds_toArray, List.set_cons_zero, List.set_cons_succ]
    refine wpAnyH_take (i := 19) (v := .pointer (some ⟨p, 0, none⟩)) rfl (by kernel_rfl) (by kernel_rfl) (by kernel_rfl) (fun _ _ _ h => h) (Or.inl ⟨by rfl, ?_⟩) (SS.out _ HB0.out) ?_
    · intro w' s1; go_simp
    simp only [Act.put, List.setIfInBounds_toArray, List.set_cons_zero, List.set_cons_succ]
    refine wpAnyH_take (i := 20) (v := .pointer (some ⟨p, 0, none⟩)) rfl (by kernel_rfl) (by kernel_rfl) (by kernel_rfl) (fun _ _ _ h => h) (Or.inl ⟨by rfl, ?_⟩) (SS.out _ HB0.out) ?_
    · intro w' s1; go_simp
    simp only [Act.put, List.setIfInBounds_toArray, List.set_cons_zero, List.set_cons_succ]
    refine wpAnyH_take (i := 21) (v := .pointer (some ⟨p, 3, none⟩)) rfl (by kernel_rfl) (by kernel_rfl) (by kernel_rfl) (fun _ _ _ h => h) (Or.inl ⟨by rfl, ?_⟩) (SS.out _ HB0.out) ?_
    · intro w' s1; go_simp
    simp only [Act.put, List.setIfInBounds_toArray, List.set_cons_zero, List.set_cons_succ]
    refine wpAnyH_take (i := 22) (v := .slice none 0 0) rfl (by kernel_rfl) (by kernel_rfl) (by kernel_rfl) (fun _ _ _ h => h) (Or.inl ⟨by rfl, ?_⟩) (SS.out _ HB0.out) ?_
    · intro w' s1; go_simp
    simp only [Act.put, List.setIfInBounds_toArray, List.set_cons_zero, List.set_cons_succ]
    refine wpAnyH_take (i := 23) (v := .int .i64 0) rfl (by kernel_rfl) (by kernel_rfl) (by kernel_rfl) (fun _ _ _ h => h) (Or.inl ⟨by rfl, ?_⟩) (SS.out _ HB0.out) ?_
    · intro w' s1; go_simp
    simp only [Act.put, List.setIfInBounds_toArray, List.set_cons_zero, List.set_cons_succ]
    refine wpAnyH_take (i := 24) (v := .slice none 0 0) rfl (by kernel_rfl) (by kernel_rfl) (by kernel_rfl) (fun _ _ _ h => h) (Or.inl ⟨by rfl, ?_⟩) (SS.out _ HB0.out) ?_
    · intro w' s1; go_simp
    simp only [Act.put, List.setIfInBounds_toArray, List.set_cons_zero, List.set_cons_succ]
    refine wpAnyH_ready (rs := [1]) (by kernel_rfl) (by simp) ?_
    refine AllReadyH.cons rfl (fun K hK => ?_) AllReadyH.nil
    go_simp
    have hBe : Below w.heap.size w (w.alloc (.cells #[] 73)).drew := ((Below.refl _ w).alloc (Nat.le_refl _) _).drew
    refine hK.out _ _ (SS.out _ hBe) (fun _ => ?_)
    clear hK
    refine wpAnyH_ready (rs := [8]) (by kernel_rfl) (by simp) ?_
    refine AllReadyH.cons rfl (fun K hK => ?_) AllReadyH.nil
    refine stept_src (by rfl) _ _ 68 (by rfl) w.heap.size 73 i0 (.agg #[.int .i64 0, .int .i64 0, .int .i64 0, .int .i64 0]) 4 32 Tryz.underlying68 hi hz0 hz1 hz2 (by rfl) (by omega) w.heap.size 0 0 _ (by rfl) (ownT_empty w _) none 0 0 [] (by rfl) rfl (.inl ⟨rfl, rfl, rfl, rfl⟩) (by simp) (by unfold maxLen; omega) (by omega) (hBe).size ?_
    intro g3 c3 w3 ho3 hg3 hw3
    skip
    have hB3 : Below w.heap.size w w3 := grownT_below hBe hg3 (Nat.le_refl _) (hBe).size
    refine hK.out _ _ (SS.out _ hB3) (fun _ => ?_)
    clear hK
    refine wpAnyH_ready (rs := [14]) (by kernel_rfl) (by simp) ?_
    refine AllReadyH.cons rfl (fun K hK => ?_) AllReadyH.nil
    go_simp
    refine (KD.out _).mono ?_
    rintro e w4 ⟨rfl, rfl⟩
    refine hK.out _ _ (SS.out _ hB3) (fun _ => ?_)
    clear hK
    refine wpAnyH_take (i := 15) (v := .int .i64 (nv + dv)) rfl (by kernel_rfl) (by kernel_rfl) (by kernel_rfl) (fun _ _ _ h => h) (Or.inl ⟨by rfl, ?_⟩) (SS.out _ hB3) ?_
    · intro w' s1; go_simp
    simp only [Act.put, List.setIfInBounds_toArray, List.set_cons_zero, List.set_cons_succ]
    refine wpAnyH_take (i := 16) (v := .agg #[.int .i64 x0, .int .i64 x1, .int .i64 nv, .int .i64 (nv + dv)]) rfl (by kernel_rfl) (by kernel_rfl) (by kernel_rfl) (fun _ _ _ h => h) (Or.inl ⟨by rfl, ?_⟩) (SS.out _ hB3) ?_
    · intro w' s1; go_simp
    simp only [Act.put, List.setIfInBounds_toArray, List.set_cons_zero, List.set_cons_succ]
    refine wpAnyH_ready (rs := [17]) (by kernel_rfl) (by simp) ?_
    refine AllReadyH.cons rfl (fun K hK => ?_) AllReadyH.nil
    go_simp
    have hBx : Below w.heap.size w (w3.alloc (.cells #[.int .i64 x0, .int .i64 x1, .int .i64 nv, .int .i64 (nv + dv)] 73)) := (hB3).alloc (hB3).size _
    refine hK.out _ _ (SS.out _ hBx) (fun _ => ?_)
    clear hK
    refine wpAnyH_ready (rs := [18]) (by kernel_rfl) (by simp) ?_
    refine AllReadyH.cons rfl (fun K hK => ?_) AllReadyH.nil
    refine stept_src (by rfl) _ _ 68 (by rfl) w.heap.size 73 i0 (.agg #[.int .i64 0, .int .i64 0, .int .i64 0, .int .i64 0]) 4 32 Tryz.underlying68 hi hz0 hz1 hz2 (by rfl) (by omega) g3 c3 (0 + 0) _ (by rfl) (ho3.alloc _) (some ⟨w3.heap.size, 0, none⟩) 1 1 (encT (x0, x1, nv, nv + dv)) (by rfl) rfl (.inr ⟨_, rfl, encT_at (World.alloc_heap_new w3 _)⟩) (encT_one _) (by unfold maxLen; omega) (by omega) (hBx).size ?_
    intro g5 c5 w5 ho5 hg5 hw5
    have hB5 : Below w.heap.size w w5 := grownT_below hBx hg5 (World.ownsRow.lt ho3 _ rfl).1 (hBx).size
    refine hK.out _ _ (SS.out _ hB5) (fun _ => ?_)
    clear hK
    refine wpAnyH_ready (rs := [25]) (by kernel_rfl) (by simp) ?_
    refine AllReadyH.cons rfl (fun K hK => ?_) AllReadyH.nil
    refine stept_src (by rfl) _ _ 68 (by rfl) w.heap.size 73 i0 (.agg #[.int .i64 0, .int .i64 0, .int .i64 0, .int .i64 0]) 4 32 Tryz.underlying68 hi hz0 hz1 hz2 (by rfl) (by omega) g5 c5 (0 + 1) _ (by rfl) ho5 none 0 0 [] (by rfl) rfl (.inl ⟨rfl, rfl, rfl, rfl⟩) (by simp) (by unfold maxLen; omega) (by omega) (hB5).size ?_
    intro g6 c6 w6 ho6 hg6 hw6
    have hB6 : Below w.heap.size w w6 := grownT_below hB5 hg6 (World.ownsRow.lt ho5 _ rfl).1 (hB5).size
    refine hK.out _ _ (SS.out _ hB6) (fun _ => ?_)
    clear hK
    refine wpAnyH_done (by kernel_rfl) ?_ _
    refine phase_tail (by kernel_rfl) ?_
    have e : flatT (insTT [] X) = [] ++ [] ++ encT (x0, x1, nv, nv + dv) ++ [] := by rw [← HX.out]; simp [insTT, flatT]
    have f6 := F0.out w6 hB6
    have s6 := SS.out _ hB6
    have pst := list_post HH.out hB6 (by rw [e]; exact ho6) rfl
    have POST := Lib.hid pst
    have KG := Lib.hid (rgrow_c _ _ _ _ _ _ _ pst.1 (by rw [length_insTT]; decide))
    clear pst hB6 hB5 ho6 ho5 hg6 hg5 hw6 hw5 e
    simp only [List.drop_succ_cons, List.drop_zero]
    go_wp2_with fail
    refine KG.out.mono ?_
    rintro e w8 ⟨rfl, hq, ht⟩
    have HQ := Lib.hid (And.intro hq ht)
    clear hq ht KG
    go_wp2_with fail
    go_ret
    exact ⟨rfl, _, HQ.out.1, POST.out.2.trans HQ.out.2⟩

end Go.Proofs.YtnfcapeajhegmaaGreat
