/- The reference's queue: Enter, of one that is let in. The reference's queue: Leave. The reference's queue: Weigh, Charge. The reference's Pick of the second policy: Cur goes on until it is too far ahead. The reference's queue: Form; a form in the reference's words. The law's own: a form in the reference's words. The reference's New; two of its forms that are the same. The reference's Pick of the third policy: of those that are not ahead of the average, the one with the earliest day. -/
import Derived.Test.YtandmngfajoinaaGreatMu
import Derived.Test.YtandmngfajoinaaGreatYc
import Derived.Test.YtandmngfajoinaaGreatOl
namespace Go.Proofs.YtandmngfajoinaaGreat
open Go.RowKit

theorem info_ti : (Tryz.prog.info? 59).map (fun i => (i.zero, i.size, i.bytes)) = some (some (.agg #[.int .i64 0, .int .i64 0, .int .i64 0, .int .i64 0]), 4, 32) := by kernel_rfl
theorem info_partsT {P : Program} {e : TypeId} {z : Value} {s b : Nat} (h : (P.info? e).map (fun i => (i.zero, i.size, i.bytes)) = some (some z, s, b)) : ∃ i, P.info? e = some i ∧ i.zero = some z ∧ i.size = s ∧ i.bytes = b := by
  cases hq : P.info? e with
  | none => rw [hq] at h; simp at h
  | some i =>
    rw [hq] at h
    simp at h
    exact ⟨i, rfl, h.1, h.2.1, h.2.2⟩

/-- append in a region that draws its order, to a slice that is not nil: the new value written out. -/
theorem stept_where {P : Program} {w : World} {ops : Array Oper} {o : Oper} {a : Act} {K : Act → World → Prop} {Q : Exit → Act → World → Prop} {E : Prop}
    (hg : o.guard = none) (s x : Operand) (t : TypeId) (hop : o.op = Op.call { callee := Callee.builtin Builtin.append, args := #[s, x], argTypes := #[t, t] })
    (base : Nat) (e : TypeId) (i : TypeInfo) (z : Value) (size bytes : Nat) (h1 : P.underlying t = some (.slice e)) (h2 : P.info? e = some i) (h3 : i.zero = some z) (h4 : i.size = size) (h5 : i.bytes = bytes) (h6 : z.cells.size = size) (h7 : 0 < size)
    (g0 cap0 k : Nat) (xs : List Value) (hs : a.eval s = .slice (some ⟨g0, 0, none⟩) k cap0) (hown : w.ownsRow base e size (.slice (some ⟨g0, 0, none⟩) k cap0) k xs) (ad : Addr) (m c : Nat) (news : List Value) (hx : a.eval x = .slice (some ad) m c) (hn : news.length = m * size)
    (hc : ∀ j u, news[j]? = some u → w.cell? (ad.add j) = some u) (h1c : ∀ u ∈ news, u.oneCell' = true) (b1 : k + m ≤ maxLen) (b2 : (k + m) * bytes ≤ 140737488355328) (b3 : base ≤ w.heap.size)
    (hK : ∀ g1 c1 w', w'.ownsRow base e size (.slice (some ⟨g1, 0, none⟩) (k + m) c1) (k + m) (xs ++ news) → w.grownBy w' (some g0) → (g1 = g0 ∨ w.heap.size ≤ g1) → K (a.put o.dst (.slice (some ⟨g1, 0, none⟩) (k + m) c1)) w') :
    if Region.wanted o (yielded ops a.tmps) = true then Oper.wp P o a w K Q else E := by
  have hw : Region.wanted o (yielded ops a.tmps) = true := by simp [Region.wanted, hg]
  rw [if_pos hw]
  obtain ⟨v', w', hrun, r1, r2, r3⟩ := run_append_where (P := P) w base t o.type e i z size bytes h1 h2 h3 h4 h5 h6 h7 _ k xs hown ad m c news hn hc h1c b1 b2 b3
  obtain ⟨v2, w2, hrun2, _, _, r4⟩ := run_append_own (P := P) w base t o.type e i z size bytes h1 h2 h3 h4 h5 h6 h7 _ k xs hown ad m c news hn hc h1c b1 b2 b3
  have e1 := hrun.symm.trans hrun2
  injection e1 with e2 e3
  subst e2 e3
  have hnn : v' ≠ .slice none 0 0 := fun h => by have := (r4.1 h).1; cases this
  rcases r1.2 with ⟨h, _⟩ | ⟨g1, c1, cur, rfl, _⟩
  · exact absurd h hnn
  unfold Oper.wp execOp
  simp only [hop, resolve, invoke, builtin, Sem.run_bind, Sem.run_pure, Result.andThen_ok, List.map_toArray, List.map_cons, List.map_nil, hs, hx, hrun]
  refine hK g1 c1 w' r1 r2 ?_
  rcases r3 g1 rfl with h | h
  · simp [Value.ownBlock] at h; exact .inl h.symm
  · exact .inr h
/-- What is appended: nil, or cells that lie somewhere. -/
def TSrc (w : World) (X : Option Addr) (m c : Nat) (news : List Value) : Prop :=
  (X = none ∧ m = 0 ∧ c = 0 ∧ news = []) ∨ ∃ ad, X = some ad ∧ ∀ j u, news[j]? = some u → w.cell? (ad.add j) = some u
theorem stept_src {P : Program} {w : World} {ops : Array Oper} {o : Oper} {a : Act} {K : Act → World → Prop} {Q : Exit → Act → World → Prop} {E : Prop}
    (hg : o.guard = none) (s x : Operand) (t : TypeId) (hop : o.op = Op.call { callee := Callee.builtin Builtin.append, args := #[s, x], argTypes := #[t, t] })
    (base : Nat) (e : TypeId) (i : TypeInfo) (z : Value) (size bytes : Nat) (h1 : P.underlying t = some (.slice e)) (h2 : P.info? e = some i) (h3 : i.zero = some z) (h4 : i.size = size) (h5 : i.bytes = bytes) (h6 : z.cells.size = size) (h7 : 0 < size)
    (g0 cap0 k : Nat) (xs : List Value) (hs : a.eval s = .slice (some ⟨g0, 0, none⟩) k cap0) (hown : w.ownsRow base e size (.slice (some ⟨g0, 0, none⟩) k cap0) k xs) (X : Option Addr) (m c : Nat) (news : List Value) (hx : a.eval x = .slice X m c) (hn : news.length = m * size)
    (hc : TSrc w X m c news) (h1c : ∀ u ∈ news, u.oneCell' = true) (b1 : k + m ≤ maxLen) (b2 : (k + m) * bytes ≤ 140737488355328) (b3 : base ≤ w.heap.size)
    (hK : ∀ g1 c1 w', w'.ownsRow base e size (.slice (some ⟨g1, 0, none⟩) (k + m) c1) (k + m) (xs ++ news) → w.grownBy w' (some g0) → (g1 = g0 ∨ w.heap.size ≤ g1) → K (a.put o.dst (.slice (some ⟨g1, 0, none⟩) (k + m) c1)) w') :
    if Region.wanted o (yielded ops a.tmps) = true then Oper.wp P o a w K Q else E := by
  rcases hc with ⟨rfl, rfl, rfl, rfl⟩ | ⟨ad, rfl, hc⟩
  · have hw : Region.wanted o (yielded ops a.tmps) = true := by simp [Region.wanted, hg]
    rw [if_pos hw]
    have hrun := run_append_owned_none (P := P) (w := w) base t o.type e i size h1 h2 _ k xs hown
    unfold Oper.wp execOp
    simp only [hop, resolve, invoke, builtin, Sem.run_bind, Sem.run_pure, Result.andThen_ok, List.map_toArray, List.map_cons, List.map_nil, hs, hx, hrun]
    exact hK g0 cap0 w (by simpa using hown) ⟨rfl, rfl, rfl, Nat.le_refl _, fun _ _ _ => rfl⟩ (.inl rfl)
  · exact stept_where hg s x t hop base e i z size bytes h1 h2 h3 h4 h5 h6 h7 g0 cap0 k xs hs hown ad m c news hx hn hc h1c b1 b2 b3 hK
theorem grownT_other {w w' : World} {g k : Nat} (h : w.grownBy w' (some g)) (hk : k < w.heap.size) (hne : k ≠ g) : w'.heap[k]? = w.heap[k]? := h.block k hk (fun e => hne (Option.some.inj e))
theorem grownT_below {B : Nat} {a w w' : World} {g : Nat} (hb : Below B a w) (h : w.grownBy w' (some g)) (hg : B ≤ g) (hB : B ≤ w.heap.size) : Below B a w' := hb.grown h hB (fun k e => by cases e; exact hg)
theorem allocT_at {w : World} (o : Obj) {k : Nat} (hk : k = w.heap.size) : (w.alloc o).heap[k]? = some o := by rw [hk]; exact World.alloc_heap_new w o
theorem ownT_empty (w : World) (e : TypeId) : (w.alloc (.cells #[] e)).drew.ownsRow w.heap.size e 4 (.slice (some ⟨w.heap.size, 0, none⟩) 0 0) 0 [] :=
  ⟨rfl, .inr ⟨w.heap.size, 0, #[], rfl, Nat.le_refl _, World.alloc_heap_new w _, Nat.le_refl _, Nat.zero_le _, rfl, rfl⟩⟩
theorem ownT_empty' {w : World} {e : TypeId} {k base : Nat} (hk : k = w.heap.size) (hb : base ≤ k) : (w.alloc (.cells #[] e)).ownsRow base e 4 (.slice (some ⟨k, 0, none⟩) 0 0) 0 [] :=
  ⟨rfl, .inr ⟨k, 0, #[], rfl, hb, allocT_at _ hk, Nat.le_refl _, Nat.zero_le _, rfl, rfl⟩⟩
theorem encT_at {w : World} {g : Nat} {t : TypeId} {x : TI} (h : w.heap[g]? = some (.cells #[.int .i64 x.1, .int .i64 x.2.1, .int .i64 x.2.2.1, .int .i64 x.2.2.2] t (0, 0))) : ∀ j u, (encT x)[j]? = some u → w.cell? ((⟨g, 0, none⟩ : Addr).add j) = some u := by
  intro j u hu
  have ha : (⟨g, 0, none⟩ : Addr).add j = ⟨g, j, none⟩ := by unfold Addr.add; split <;> simp_all
  rw [ha]
  simp [World.cell?, h]
  exact hu
theorem encT_one (x : TI) : ∀ u ∈ encT x, u.oneCell' = true := by
  intro u hu
  simp [encT] at hu
  rcases hu with rfl | rfl | rfl | rfl <;> rfl
/-- A part of a row's cells. -/
theorem TV.part {w : World} {g n c : Nat} {l : List TI} (h : TV w (.slice (some ⟨g, 0, none⟩) n c) l) (k : Nat) {t : List TI} (ht : t <+: l.drop k) : ∀ j u, (flatT t)[j]? = some u → w.cell? ⟨g, k * 4 + j, none⟩ = some u := by
  intro j u hu
  have hc := World.ownsRow.cells h (g := g) rfl
  have ha : ∀ i, (⟨g, 0, none⟩ : Addr).add i = ⟨g, i, none⟩ := fun i => by unfold Addr.add; split <;> simp_all
  have hb : (flatT l)[k * 4 + j]? = some u := by
    by_cases hk : k ≤ l.length
    · obtain ⟨r, hr⟩ := ht
      have e : l = l.take k ++ (t ++ r) := by rw [hr, List.take_append_drop]
      have e2 : (flatT (l.take k)).length = k * 4 := by rw [flatT_length, List.length_take]; omega
      rw [e, flatT_append, flatT_append, List.getElem?_append_right (by rw [e2]; omega), e2]
      have hj : j < (flatT t).length := (List.getElem?_eq_some_iff.1 hu).1
      have e3 : k * 4 + j - k * 4 = j := by omega
      rw [e3, List.getElem?_append_left hj, hu]
    · have : t = [] := by
        have h1 : l.drop k = [] := List.drop_eq_nil_of_le (by omega)
        rw [h1] at ht
        exact List.prefix_nil.1 ht
      subst this
      simp [flatT] at hu
  have := hc _ _ hb
  rwa [ha] at this
/-- Behind the store of a new list. -/
theorem list_post {w w6 : World} {p g6 c6 N : Nat} {tag base cur : Int} {v : Value} {l l' : List TI} (h0 : IsT w p tag base cur v l) (hB : Below w.heap.size w w6) (ho : w6.ownsRow w.heap.size 59 4 (.slice (some ⟨g6, 0, none⟩) N c6) N (flatT l')) (hN : l'.length = N) :
    IsT (w6.setCell ⟨p, 3, none⟩ (.slice (some ⟨g6, 0, none⟩) N c6)) p tag base cur (.slice (some ⟨g6, 0, none⟩) N c6) l' ∧ Trip (TOf p v) w (TOf p (.slice (some ⟨g6, 0, none⟩) N c6)) (w6.setCell ⟨p, 3, none⟩ (.slice (some ⟨g6, 0, none⟩) N c6)) := by
  subst hN
  have hp := h0.ltp
  have hlt := World.ownsRow.lt ho g6 rfl
  have hs := hB.size
  have hsz : (w6.setCell ⟨p, 3, none⟩ (.slice (some ⟨g6, 0, none⟩) l'.length c6)).heap.size = w6.heap.size := by simp [World.setCell]
  have ho2 : TV w6 (.slice (some ⟨g6, 0, none⟩) l'.length c6) l' := by
    refine ⟨ho.1, ?_⟩
    rcases ho.2 with h | ⟨g, cap, cur', h1, h2, h3⟩
    · exact .inl h
    · exact .inr ⟨g, cap, cur', h1, Nat.zero_le _, h3⟩
  have hne : (Value.slice (some ⟨g6, 0, none⟩) l'.length c6).ownBlock ≠ some p := fun e => by simp [Value.ownBlock] at e; omega
  refine ⟨⟨set_heap ((hB.block p hp).trans h0.1) _, ho2.keep (fun g hg => Below.heap_setCell w6 _ _ g (fun e => hne (by rw [hg, show g = p from e]))), hne⟩, hB.os, hB.tape, hB.output, by omega, fun k hk hn => (Below.heap_setCell w6 _ _ k (fun e => hn (.inl e))).trans (hB.block k hk), ?_, ?_⟩
  · rintro k (rfl | hk)
    · exact .inl (.inl rfl)
    · simp [Value.ownBlock] at hk; exact .inr (by omega)
  · rintro k (rfl | hk)
    · omega
    · simp [Value.ownBlock] at hk; omega
theorem lagE_bd {tag x2 : Int} {ex : Bool} (h1 : -1125899906842624 ≤ x2) (h2 : x2 ≤ 1125899906842624) : -1125899906842624 ≤ lagE tag ex x2 ∧ lagE tag ex x2 ≤ 1125899906842624 := by
  unfold lagE heldT
  split
  · omega
  · split
    · split <;> omega
    · split
      · omega
      · split <;> omega

set_option linter.unusedSimpArgs false in
set_option maxRecDepth 100000 in
set_option maxHeartbeats 16000000 in
theorem rent_new (p g c : Nat) (tag base cur : Int) (l : List TI) (x0 x1 x2 : Int) (ex : Bool) (w : World) (h : IsT w p tag base cur (.slice (some ⟨g, 0, none⟩) l.length c) l) (ht : tag = 0 ∨ tag = 1 ∨ tag = 2) (hl : l.length < 64) (hI : itemB (x0, x1, x2) = true) (hat : atT x0 l 0 = -1) (hb1 : -4000000000000000000 ≤ base) (hb2 : base ≤ 4000000000000000000) :
    Calls Tryz.prog 12 #[.pointer (some ⟨p, 0, none⟩), .int .i64 x0, .int .i64 x1, .int .i64 x2, .bool ex] w fun e w' => e = .returned (.int .i64 0) ∧ RPost p tag (.slice (some ⟨g, 0, none⟩) l.length c) (growT base (insTT l (newT tag base (x0, x1, x2) ex))) cur (insTT l (newT tag base (x0, x1, x2) ex)) w w' := by
  obtain ⟨h1, h2, h3, h4, h5⟩ := item_parts hI
  have k1 := fun w => rgoodw_c x1 w
  rw [h3] at k1
  have K1 := Lib.hid k1
  have ka := rat_c p tag base cur x0 _ _ w h (by omega)
  rw [hat] at ka
  have KA := Lib.hid ka
  have KH := Lib.hid (rheld_c tag x2 w ht h4)
  have KD := Lib.hid (fun w => rday_c x1 w)
  obtain ⟨hd1, hd2⟩ := tickV_bd x1
  obtain ⟨hg1, hg2⟩ := lagE_bd (tag := tag) (ex := ex) h4 h5
  obtain ⟨X, hX⟩ : ∃ X, newT tag base (x0, x1, x2) ex = X := ⟨_, rfl⟩
  have hx := hX
  unfold newT at hx
  rw [hX]
  simp only at hx
  obtain ⟨lg, hlg⟩ : ∃ lg, lagE tag ex x2 = lg := ⟨_, rfl⟩
  rw [hlg] at hx hg1 hg2
  obtain ⟨dv, hdv⟩ : ∃ dv, 4 * tickV x1 = dv := ⟨_, rfl⟩
  simp only [hdv] at KD hx
  obtain ⟨nv, hnv⟩ : ∃ nv, base - lg = nv := ⟨_, rfl⟩
  rw [hnv] at hx
  have hv1 : -4100000000000000000 ≤ nv := by omega
  have hv2 : nv ≤ 4100000000000000000 := by omega
  have hdd : 0 ≤ dv ∧ dv ≤ 931170240 := by omega
  obtain ⟨hdd1, hdd2⟩ := hdd
  have hw1 : IntKind.i64.wrap (base - lg) = base - lg := by rw [IntKind.wrap_i64]; omega
  have hw2 : IntKind.i64.wrap (nv + dv) = nv + dv := by rw [IntKind.wrap_i64]; omega
  have HX := Lib.hid hx
  have HH := Lib.hid h
  have HNV := Lib.hid hnv
  have HL := Lib.hid hlg
  have F0 : Hid (∀ w', Below w.heap.size w w' → w'.frozen? ⟨p, 3, none⟩ = false) := Lib.hid (fun w' hb => (h.below hb).free 3)
  obtain ⟨n, hn⟩ : ∃ n, l.length = n := ⟨_, rfl⟩
  obtain ⟨c0, c1, -, c3⟩ := h.cells
  rw [hn] at c3 hl
  have HN := Lib.hid hn
  clear h k1 ka hI h3 hd1 hd2 hdv hX hx hnv hlg hat hn ht
  go_enter Tryz.func12, Tryz.ntmps12
  go_wp2_with fail
  refine (K1.out _).mono ?_; rintro e w' ⟨rfl, rfl⟩
  clear K1
  go_wp2_with fail
  refine KA.out.mono ?_; rintro e w' ⟨rfl, rfl⟩
  clear KA
  cases ex
  case' false =>
    have hh : heldT tag x2 = lg := HL.out
    go_wp2_with fail
    refine KH.out.mono ?_; rintro e w' ⟨rfl, rfl⟩
    rw [hh]
    clear hh KH HL h4 h5
    go_wp2_with fail
  case' true =>
    obtain rfl : x2 = lg := HL.out
    clear KH HL h4 h5
    go_wp2_with fail
  all_goals
   go_loop [11] (fun i => ∃ k : Nat, i = .int .i64 k ∧ k ≤ n ∧ Hid (∀ z ∈ l.take k, z.1 < x0)) (fun i => n - (intOf i).toNat)
   case atStart => exact ⟨0, rfl, Nat.zero_le _, Lib.hid (by simp)⟩
   case round =>
    obtain ⟨k, rfl, hk, HK⟩ := hrel
    by_cases hgo : ∃ y, l[k]? = some y ∧ y.1 < x0
    · obtain ⟨y, hy, hbef⟩ := hgo
      have hlt : k < n := by rw [← HN.out]; exact (List.getElem?_eq_some_iff.1 hy).1
      obtain ⟨g', cc, hv, _, _, d0, -, -, -⟩ := HH.out.2.1.get hy
      obtain rfl : g = g' := by injection hv with hv1; injection hv1 with hv1; injection hv1 with hv1
      have htk : ∀ z ∈ l.take (k + 1), z.1 < x0 := by
        rw [List.take_add_one, hy]
        intro z hz
        rcases List.mem_append.1 hz with h | h
        · exact HK.out z h
        · simp at h; subst h; exact hbef
      have HTK := Lib.hid htk
      obtain ⟨y0, y1, y2, y3⟩ := y
      simp only at d0 hbef
      have hkm : (k : Int) < (n : Int) := by omega
      clear hv hy htk HK
      go_wp2_with fail
      go_round
      case rel => exact ⟨k + 1, by go_num, by omega, HTK⟩
      case measure => simp [intOf]; omega
    · have hex : (k < n ∧ ∃ y, l[k]? = some y ∧ ¬ y.1 < x0) ∨ k = n := by
        by_cases hlt : k < n
        · have hkl : k < l.length := by rw [HN.out]; exact hlt
          exact .inl ⟨hlt, l[k], List.getElem?_eq_getElem hkl, fun hb => hgo ⟨_, List.getElem?_eq_getElem hkl, hb⟩⟩
        · exact .inr (by omega)
      have hins : insTT l X = l.take k ++ [X] ++ l.drop k := insTT_here (by rw [HN.out]; exact hk) (by rw [← HX.out]; exact HK.out) (fun y hy hb => hgo ⟨y, hy, by rw [← HX.out] at hb; exact hb⟩)
      have HINS := Lib.hid hins
      clear hgo hins HK
      have hkn' : k ≤ n := hk
      rcases hex with ⟨hlt, y, hy, hbef⟩ | hkn
      case' inl =>
        obtain ⟨g', cc, hv, _, _, d0, -, -, -⟩ := HH.out.2.1.get hy
        obtain rfl : g = g' := by injection hv with hv1; injection hv1 with hv1; injection hv1 with hv1
        obtain ⟨y0, y1, y2, y3⟩ := y
        simp only at d0 hbef
        have hkm : (k : Int) < (n : Int) := by omega
        clear hv hy
        go_wp2_with fail
        clear d0 hkm hbef hlt
      case' inr =>
        have hkf : decide (k < n) = false := decide_eq_false (by omega)
        have hkf' : decide ((k : Int) < (n : Int)) = false := decide_eq_false (by omega)
        have hkn2 : ¬ (k : Int) < (n : Int) := by omega
        clear hkn
        go_wp2_with fail
        clear hkf hkf' hkn2
      all_goals
       rw [HNV.out]
       have hcc : n ≤ c := by
         rcases HH.out.2.1.2 with ⟨h1, _⟩ | ⟨g1, cap, cur, h1, _, _, h4, _⟩
         · cases h1
         · injection h1 with _ _ h3; rw [HN.out] at h4; omega
       have hgw : g < w.heap.size := (World.ownsRow.lt HH.out.2.1 g rfl).2
       have hk0 : (0 : Int) ≤ (k : Int) := by omega
       have hkc : (k : Int) ≤ (c : Int) := by omega
       have hknI : (k : Int) ≤ (n : Int) := by omega
       have hncI : (n : Int) ≤ (c : Int) := by omega
       obtain ⟨AD, hAD⟩ : ∃ AD, (if c = k then some (⟨g, 0, none⟩ : Addr) else some ⟨g, k * 4, none⟩) = some AD := by split <;> exact ⟨_, rfl⟩
       have hrw : ∀ w', Below w.heap.size w w' → TV w' (.slice (some ⟨g, 0, none⟩) l.length c) l := fun w' hb => (HH.out.below hb).2.1
       have hP1 : Hid (∀ w', Below w.heap.size w w' → TSrc w' (some ⟨g, 0, none⟩) k c (flatT (l.take k))) := Lib.hid (fun w' hb => .inr ⟨_, rfl, fun j u hu => by
         have ha : ∀ i, (⟨g, 0, none⟩ : Addr).add i = ⟨g, i, none⟩ := fun i => by unfold Addr.add; split <;> simp_all
         rw [ha]
         have := (hrw w' hb).part 0 (t := l.take k) (by rw [List.drop_zero]; exact List.take_prefix _ _) j u hu
         simpa using this⟩)
       have hP2 : Hid (∀ w', Below w.heap.size w w' → TSrc w' (some AD) (n - k) (c - k) (flatT (l.drop k))) := Lib.hid (fun w' hb => .inr ⟨_, rfl, fun j u hu => by
         by_cases hcc' : c = k
         · have h1 : l.drop k = [] := List.drop_eq_nil_of_le (by rw [HN.out]; omega)
           rw [h1] at hu
           simp [flatT] at hu
         · rw [if_neg hcc'] at hAD
           injection hAD with hAD
           subst hAD
           have ha : ∀ o i, (⟨g, o, none⟩ : Addr).add i = ⟨g, o + i, none⟩ := fun o i => by unfold Addr.add; split <;> simp_all
           rw [ha]
           exact (hrw w' hb).part k (t := l.drop k) (List.prefix_refl _) j u hu⟩)
       have HL1 : Hid ((flatT (l.take k)).length = k * 4) := Lib.hid (by rw [flatT_length, List.length_take, HN.out]; omega)
       have HL2 : Hid ((flatT (l.drop k)).length = (n - k) * 4) := Lib.hid (by rw [flatT_length, List.length_drop, HN.out])
       clear hrw
       have SS : Hid (∀ w', Below w.heap.size w w' → w'.cell? ⟨p, 3, none⟩ = some (.slice (some ⟨g, 0, none⟩) n c)) := Lib.hid (fun w' hb => by have := (HH.out.below hb).cells.2.2.2; rwa [HN.out] at this)
       have HB0 : Hid (Below w.heap.size w w.drew) := Lib.hid (Below.refl _ w).drew
       obtain ⟨i0, hi, hz0, hz1, hz2⟩ := info_partsT info_ti
       clear c0 c1 c3
       refine wp_region_phase 26 (by kernel_rfl) (by kernel_rfl) (fun w' => w'.cell? ⟨p, 3, none⟩ = some (.slice (some ⟨g, 0, none⟩) n c)) ?_
       refine wpAnyH_take (i := 0) (v := .pointer (some ⟨p, 0, none⟩)) rfl (by kernel_rfl) (by kernel_rfl) (by kernel_rfl) (fun _ _ _ h => h) (Or.inl ⟨by rfl, ?_⟩) (SS.out _ HB0.out) ?_
       · intro w' s1; go_simp
       simp only [Act.put, List.setIfInBounds_toArray, List.set_cons_zero, List.set_cons_succ]
       refine wpAnyH_take (i := 2) (v := .pointer (some ⟨p, 0, none⟩)) rfl (by kernel_rfl) (by kernel_rfl) (by kernel_rfl) (fun _ _ _ h => h) (Or.inl ⟨by rfl, ?_⟩) (SS.out _ HB0.out) ?_
       · intro w' s1; go_simp
       simp only [Act.put, List.setIfInBounds_toArray, List.set_cons_zero, List.set_cons_succ]
       refine wpAnyH_take (i := 3) (v := .pointer (some ⟨p, 0, none⟩)) rfl (by kernel_rfl) (by kernel_rfl) (by kernel_rfl) (fun _ _ _ h => h) (Or.inl ⟨by rfl, ?_⟩) (SS.out _ HB0.out) ?_
       · intro w' s1; go_simp
       simp only [Act.put, List.setIfInBounds_toArray, List.set_cons_zero, List.set_cons_succ]
       refine wpAnyH_take (i := 4) (v := .pointer (some ⟨p, 3, none⟩)) rfl (by kernel_rfl) (by kernel_rfl) (by kernel_rfl) (fun _ _ _ h => h) (Or.inl ⟨by rfl, ?_⟩) (SS.out _ HB0.out) ?_
       · intro w' s1; go_simp
       simp only [Act.put, List.setIfInBounds_toArray, List.set_cons_zero, List.set_cons_succ]
       refine wpAnyH_take (i := 5) (v := .slice (some ⟨g, 0, none⟩) n c) rfl (by kernel_rfl) (by kernel_rfl) (by kernel_rfl) (fun _ _ _ h => h) (Or.inl ⟨by rfl, ?_⟩) (SS.out _ HB0.out) ?_
       · intro w' s1; go_simp
       simp only [Act.put, List.setIfInBounds_toArray, List.set_cons_zero, List.set_cons_succ]
       refine wpAnyH_take (i := 6) (v := .int .i64 k) rfl (by kernel_rfl) (by kernel_rfl) (by kernel_rfl) (fun _ _ _ h => h) (Or.inl ⟨by rfl, ?_⟩) (SS.out _ HB0.out) ?_
       · intro w' s1; go_simp
       simp only [Act.put, List.setIfInBounds_toArray, List.set_cons_zero, List.set_cons_succ]
       refine wpAnyH_take (i := 7) (v := .slice (some ⟨g, 0, none⟩) k c) rfl (by kernel_rfl) (by kernel_rfl) (by kernel_rfl) (fun _ _ _ h => h) (Or.inl ⟨by rfl, ?_⟩) (SS.out _ HB0.out) ?_
       · intro w' s1; go_simp
       simp only [Act.put, List.setIfInBounds_toArray, List.set_cons_zero, List.set_cons_succ]
       refine wpAnyH_take (i := 9) (v := .int .i64 x0) rfl (by kernel_rfl) (by kernel_rfl) (by kernel_rfl) (fun _ _ _ h => h) (Or.inl ⟨by rfl, ?_⟩) (SS.out _ HB0.out) ?_
       · intro w' s1; go_simp
       simp only [Act.put, List.setIfInBounds_toArray, List.set_cons_zero, List.set_cons_succ]
       refine wpAnyH_take (i := 10) (v := .int .i64 x1) rfl (by kernel_rfl) (by kernel_rfl) (by kernel_rfl) (fun _ _ _ h => h) (Or.inl ⟨by rfl, ?_⟩) (SS.out _ HB0.out) ?_
       · intro w' s1; go_simp
       simp only [Act.put, List.setIfInBounds_toArray, List.set_cons_zero, List.set_cons_succ]
       refine wpAnyH_take (i := 11) (v := .int .i64 nv) rfl (by kernel_rfl) (by kernel_rfl) (by kernel_rfl) (fun _ _ _ h => h) (Or.inl ⟨by rfl, ?_⟩) (SS.out _ HB0.out) ?_
       · intro w' s1; go_simp
       simp only [Act.put, List.setIfInBounds_toArray, List.set_cons_zero, List.set_cons_succ]
       refine wpAnyH_take (i := 12) (v := .int .i64 nv) rfl (by kernel_rfl) (by kernel_rfl) (by kernel_rfl) (fun _ _ _ h => h) (Or.inl ⟨by rfl, ?_⟩) (SS.out _ HB0.out) ?_
       · intro w' s1; go_simp
       simp only [Act.put, List.setIfInBounds_toArray, List.set_cons_zero, List.set_cons_succ]
       refine wpAnyH_take (i := 13) (v := .int .i64 x1) rfl (by kernel_rfl) (by kernel_rfl) (by kernel_rfl) (fun _ _ _ h => h) (Or.inl ⟨by rfl, ?_⟩) (SS.out _ HB0.out) ?_
       · intro w' s1; go_simp
       simp only [Act.put, List.setIfInBounds_toArray, List.set_cons_zero, List.set_cons_succ]
       refine wpAnyH_take (i := 19) (v := .pointer (some ⟨p, 0, none⟩)) rfl (by kernel_rfl) (by kernel_rfl) (by kernel_rfl) (fun _ _ _ h => h) (Or.inl ⟨by rfl, ?_⟩) (SS.out _ HB0.out) ?_
       · intro w' s1; go_simp
       simp only [Act.put, List.setIfInBounds_toArray, List.set_cons_zero, List.set_cons_succ]
       refine wpAnyH_take (i := 20) (v := .pointer (some ⟨p, 0, none⟩)) rfl (by kernel_rfl) (by kernel_rfl) (by kernel_rfl) (fun _ _ _ h => h) (Or.inl ⟨by rfl, ?_⟩) (SS.out _ HB0.out) ?_
       · intro w' s1; go_simp
       simp only [Act.put, List.setIfInBounds_toArray, List.set_cons_zero, List.set_cons_succ]
       refine wpAnyH_take (i := 21) (v := .pointer (some ⟨p, 3, none⟩)) rfl (by kernel_rfl) (by kernel_rfl) (by kernel_rfl) (fun _ _ _ h => h) (Or.inl ⟨by rfl, ?_⟩) (SS.out _ HB0.out) ?_
       · intro w' s1; go_simp
       simp only [Act.put, List.setIfInBounds_toArray, List.set_cons_zero, List.set_cons_succ]
       refine wpAnyH_take (i := 22) (v := .slice (some ⟨g, 0, none⟩) n c) rfl (by kernel_rfl) (by kernel_rfl) (by kernel_rfl) (fun _ _ _ h => h) (Or.inl ⟨by rfl, ?_⟩) (SS.out _ HB0.out) ?_
       · intro w' s1; go_simp
       simp only [Act.put, List.setIfInBounds_toArray, List.set_cons_zero, List.set_cons_succ]
       refine wpAnyH_take (i := 23) (v := .int .i64 k) rfl (by kernel_rfl) (by kernel_rfl) (by kernel_rfl) (fun _ _ _ h => h) (Or.inl ⟨by rfl, ?_⟩) (SS.out _ HB0.out) ?_
       · intro w' s1; go_simp
       simp only [Act.put, List.setIfInBounds_toArray, List.set_cons_zero, List.set_cons_succ]
       refine wpAnyH_take (i := 24) (v := .slice (some AD) (n - k) (c - k)) rfl (by kernel_rfl) (by kernel_rfl) (by kernel_rfl) (fun _ _ _ h => h) (Or.inl ⟨by rfl, ?_⟩) (SS.out _ HB0.out) ?_
       · intro w' s1; go_simp
       simp only [Act.put, List.setIfInBounds_toArray, List.set_cons_zero, List.set_cons_succ]
       refine wpAnyH_ready (rs := [1]) (by kernel_rfl) (by simp) ?_
       refine AllReadyH.cons rfl (fun K hK => ?_) AllReadyH.nil
       go_simp
       have hBe : Below w.heap.size w (w.alloc (.cells #[] 59)).drew := ((Below.refl _ w).alloc (Nat.le_refl _) _).drew
       refine hK.out _ _ (SS.out _ hBe) (fun _ => ?_)
       clear hK
       refine wpAnyH_ready (rs := [8]) (by kernel_rfl) (by simp) ?_
       refine AllReadyH.cons rfl (fun K hK => ?_) AllReadyH.nil
       refine stept_src (by rfl) _ _ 55 (by rfl) w.heap.size 59 i0 (.agg #[.int .i64 0, .int .i64 0, .int .i64 0, .int .i64 0]) 4 32 Tryz.underlying55 hi hz0 hz1 hz2 (by rfl) (by omega) w.heap.size 0 0 _ (by rfl) (ownT_empty w _) (some ⟨g, 0, none⟩) k c (flatT (l.take k)) (by rfl) HL1.out (hP1.out _ hBe) (flatT_one _) (by unfold maxLen; omega) (by omega) (hBe).size ?_
       intro g3 c3 w3 ho3 hg3 hw3
       rw [Nat.zero_add] at ho3 ⊢
       have hB3 : Below w.heap.size w w3 := grownT_below hBe hg3 (Nat.le_refl _) (hBe).size
       refine hK.out _ _ (SS.out _ hB3) (fun _ => ?_)
       clear hK
       refine wpAnyH_ready (rs := [14]) (by kernel_rfl) (by simp) ?_
       refine AllReadyH.cons rfl (fun K hK => ?_) AllReadyH.nil
       go_simp
       refine (KD.out _).mono ?_
       rintro e w4 ⟨rfl, rfl⟩
       refine hK.out _ _ (SS.out _ hB3) (fun _ => ?_)
       clear hK
       refine wpAnyH_take (i := 15) (v := .int .i64 (nv + dv)) rfl (by kernel_rfl) (by kernel_rfl) (by kernel_rfl) (fun _ _ _ h => h) (Or.inl ⟨by rfl, ?_⟩) (SS.out _ hB3) ?_
       · intro w' s1; go_simp
       simp only [Act.put, List.setIfInBounds_toArray, List.set_cons_zero, List.set_cons_succ]
       refine wpAnyH_take (i := 16) (v := .agg #[.int .i64 x0, .int .i64 x1, .int .i64 nv, .int .i64 (nv + dv)]) rfl (by kernel_rfl) (by kernel_rfl) (by kernel_rfl) (fun _ _ _ h => h) (Or.inl ⟨by rfl, ?_⟩) (SS.out _ hB3) ?_
       · intro w' s1; go_simp
       simp only [Act.put, List.setIfInBounds_toArray, List.set_cons_zero, List.set_cons_succ]
       refine wpAnyH_ready (rs := [17]) (by kernel_rfl) (by simp) ?_
       refine AllReadyH.cons rfl (fun K hK => ?_) AllReadyH.nil
       go_simp
       have hBx : Below w.heap.size w (w3.alloc (.cells #[.int .i64 x0, .int .i64 x1, .int .i64 nv, .int .i64 (nv + dv)] 59)) := (hB3).alloc (hB3).size _
       refine hK.out _ _ (SS.out _ hBx) (fun _ => ?_)
       clear hK
       refine wpAnyH_ready (rs := [18]) (by kernel_rfl) (by simp) ?_
       refine AllReadyH.cons rfl (fun K hK => ?_) AllReadyH.nil
       refine stept_src (by rfl) _ _ 55 (by rfl) w.heap.size 59 i0 (.agg #[.int .i64 0, .int .i64 0, .int .i64 0, .int .i64 0]) 4 32 Tryz.underlying55 hi hz0 hz1 hz2 (by rfl) (by omega) g3 c3 k _ (by rfl) (ho3.alloc _) (some ⟨w3.heap.size, 0, none⟩) 1 1 (encT (x0, x1, nv, nv + dv)) (by rfl) rfl (.inr ⟨_, rfl, encT_at (World.alloc_heap_new w3 _)⟩) (encT_one _) (by unfold maxLen; omega) (by omega) (hBx).size ?_
       intro g5 c5 w5 ho5 hg5 hw5
       have hB5 : Below w.heap.size w w5 := grownT_below hBx hg5 (World.ownsRow.lt ho3 _ rfl).1 (hBx).size
       refine hK.out _ _ (SS.out _ hB5) (fun _ => ?_)
       clear hK
       refine wpAnyH_ready (rs := [25]) (by kernel_rfl) (by simp) ?_
       refine AllReadyH.cons rfl (fun K hK => ?_) AllReadyH.nil
       refine stept_src (by rfl) _ _ 55 (by rfl) w.heap.size 59 i0 (.agg #[.int .i64 0, .int .i64 0, .int .i64 0, .int .i64 0]) 4 32 Tryz.underlying55 hi hz0 hz1 hz2 (by rfl) (by omega) g5 c5 (k + 1) _ (by rfl) ho5 (some AD) (n - k) (c - k) (flatT (l.drop k)) (by rfl) HL2.out (hP2.out _ hB5) (flatT_one _) (by unfold maxLen; omega) (by omega) (hB5).size ?_
       intro g6 c6 w6 ho6 hg6 hw6
       have hB6 : Below w.heap.size w w6 := grownT_below hB5 hg6 (World.ownsRow.lt ho5 _ rfl).1 (hB5).size
       refine hK.out _ _ (SS.out _ hB6) (fun _ => ?_)
       clear hK
       refine wpAnyH_done (by kernel_rfl) ?_ _
       refine phase_tail (by kernel_rfl) ?_
       have e : flatT (insTT l X) = [] ++ flatT (l.take k) ++ encT (x0, x1, nv, nv + dv) ++ flatT (l.drop k) := by rw [HINS.out, ← HX.out, flatT_append, flatT_append]; simp [flatT]
       have f6 := F0.out w6 hB6
       have s6 := SS.out _ hB6
       have pst := list_post HH.out hB6 (by rw [e]; exact ho6) (by rw [length_insTT, HN.out]; omega)
       have POST := Lib.hid pst
       have KG := Lib.hid (rgrow_c _ _ _ _ _ _ _ pst.1 (by rw [length_insTT]; have := HN.out; omega))
       clear pst hB6 hB5 ho6 ho5 hg6 hg5 hw6 hw5 e
       simp only [List.drop_succ_cons, List.drop_zero]
       go_wp2_with fail
       refine KG.out.mono ?_
       rintro e w8 ⟨rfl, hq, ht⟩
       have HQ := Lib.hid (And.intro hq ht)
       clear hq ht KG
       go_wp2_with fail
       go_ret
       exact ⟨rfl, _, HQ.out.1, POST.out.2.trans HQ.out.2⟩

set_option linter.unusedSimpArgs false in
set_option maxRecDepth 100000 in
set_option maxHeartbeats 16000000 in
theorem rent_nil (p : Nat) (tag base cur : Int) (x0 x1 x2 : Int) (ex : Bool) (w : World) (h : IsT w p tag base cur (.slice none 0 0) ([] : List TI)) (ht : tag = 0 ∨ tag = 1 ∨ tag = 2) (hI : itemB (x0, x1, x2) = true) (hb1 : -4000000000000000000 ≤ base) (hb2 : base ≤ 4000000000000000000) :
    Calls Tryz.prog 12 #[.pointer (some ⟨p, 0, none⟩), .int .i64 x0, .int .i64 x1, .int .i64 x2, .bool ex] w fun e w' => e = .returned (.int .i64 0) ∧ RPost p tag (.slice none 0 0) (growT base (insTT ([] : List TI) (newT tag base (x0, x1, x2) ex))) cur (insTT ([] : List TI) (newT tag base (x0, x1, x2) ex)) w w' := by
  obtain ⟨h1, h2, h3, h4, h5⟩ := item_parts hI
  have k1 := fun w => rgoodw_c x1 w
  rw [h3] at k1
  have K1 := Lib.hid k1
  have ka := rat_c p tag base cur x0 _ _ w h (by decide)
  simp only [atT] at ka
  have KA := Lib.hid ka
  have KH := Lib.hid (rheld_c tag x2 w ht h4)
  have KD := Lib.hid (fun w => rday_c x1 w)
  obtain ⟨hd1, hd2⟩ := tickV_bd x1
  obtain ⟨hg1, hg2⟩ := lagE_bd (tag := tag) (ex := ex) h4 h5
  obtain ⟨X, hX⟩ : ∃ X, newT tag base (x0, x1, x2) ex = X := ⟨_, rfl⟩
  have hx := hX
  unfold newT at hx
  rw [hX]
  simp only at hx
  obtain ⟨lg, hlg⟩ : ∃ lg, lagE tag ex x2 = lg := ⟨_, rfl⟩
  rw [hlg] at hx hg1 hg2
  obtain ⟨dv, hdv⟩ : ∃ dv, 4 * tickV x1 = dv := ⟨_, rfl⟩
  simp only [hdv] at KD hx
  obtain ⟨nv, hnv⟩ : ∃ nv, base - lg = nv := ⟨_, rfl⟩
  rw [hnv] at hx
  have hv1 : -4100000000000000000 ≤ nv := by omega
  have hv2 : nv ≤ 4100000000000000000 := by omega
  have hdd : 0 ≤ dv ∧ dv ≤ 931170240 := by omega
  obtain ⟨hdd1, hdd2⟩ := hdd
  have hw1 : IntKind.i64.wrap (base - lg) = base - lg := by rw [IntKind.wrap_i64]; omega
  have hw2 : IntKind.i64.wrap (nv + dv) = nv + dv := by rw [IntKind.wrap_i64]; omega
  have HX := Lib.hid hx
  have HH := Lib.hid h
  have HNV := Lib.hid hnv
  have HL := Lib.hid hlg
  have F0 : Hid (∀ w', Below w.heap.size w w' → w'.frozen? ⟨p, 3, none⟩ = false) := Lib.hid (fun w' hb => (h.below hb).free 3)
  obtain ⟨c0, c1, -, c3⟩ := h.cells
  clear h k1 ka hI h3 hd1 hd2 hdv hX hx hnv hlg ht
  go_enter Tryz.func12, Tryz.ntmps12
  go_wp2_with fail
  refine (K1.out _).mono ?_; rintro e w' ⟨rfl, rfl⟩
  clear K1
  go_wp2_with fail
  refine KA.out.mono ?_; rintro e w' ⟨rfl, rfl⟩
  clear KA
  cases ex
  case' false =>
    have hh : heldT tag x2 = lg := HL.out
    go_wp2_with fail
    refine KH.out.mono ?_; rintro e w' ⟨rfl, rfl⟩
    rw [hh]
    clear hh KH HL h4 h5
    go_wp2_with fail
  case' true =>
    obtain rfl : x2 = lg := HL.out
    clear KH HL h4 h5
    go_wp2_with fail
  all_goals
   go_loop [11] (fun i => i = .int .i64 0) (fun _ => 0)
   case atStart => rfl
   case round =>
    obtain rfl := hrel
    go_wp2_with fail
    rw [HNV.out]
    have SS : Hid (∀ w', Below w.heap.size w w' → w'.cell? ⟨p, 3, none⟩ = some (.slice none 0 0)) := Lib.hid (fun w' hb => (HH.out.below hb).cells.2.2.2)
    have HB0 : Hid (Below w.heap.size w w.drew) := Lib.hid (Below.refl _ w).drew
    obtain ⟨i0, hi, hz0, hz1, hz2⟩ := info_partsT info_ti
    clear c0 c1 c3
    refine wp_region_phase 26 (by kernel_rfl) (by kernel_rfl) (fun w' => w'.cell? ⟨p, 3, none⟩ = some (.slice none 0 0)) ?_
    refine wpAnyH_take (i := 0) (v := .pointer (some ⟨p, 0, none⟩)) rfl (by kernel_rfl) (by kernel_rfl) (by kernel_rfl) (fun _ _ _ h => h) (Or.inl ⟨by rfl, ?_⟩) (SS.out _ HB0.out) ?_
    · intro w' s1; go_simp
    simp only [Act.put, List.setIfInBounds_toArray, List.set_cons_zero, List.set_cons_succ]
    refine wpAnyH_take (i := 2) (v := .pointer (some ⟨p, 0, none⟩)) rfl (by kernel_rfl) (by kernel_rfl) (by kernel_rfl) (fun _ _ _ h => h) (Or.inl ⟨by rfl, ?_⟩) (SS.out _ HB0.out) ?_
    · intro w' s1; go_simp
    simp only [Act.put, List.setIfInBounds_toArray, List.set_cons_zero, List.set_cons_succ]
    refine wpAnyH_take (i := 3) (v := .pointer (some ⟨p, 0, none⟩)) rfl (by kernel_rfl) (by kernel_rfl) (by kernel_rfl) (fun _ _ _ h => h) (Or.inl ⟨by rfl, ?_⟩) (SS.out _ HB0.out) ?_
    · intro w' s1; go_simp
    simp only [Act.put, List.setIfInBounds_toArray, List.set_cons_zero, List.set_cons_succ]
    refine wpAnyH_take (i := 4) (v := .pointer (some ⟨p, 3, none⟩)) rfl (by kernel_rfl) (by kernel_rfl) (by kernel_rfl) (fun _ _ _ h => h) (Or.inl ⟨by rfl, ?_⟩) (SS.out _ HB0.out) ?_
    · intro w' s1; go_simp
    simp only [Act.put, List.setIfInBounds_toArray, List.set_cons_zero, List.set_cons_succ]
    refine wpAnyH_take (i := 5) (v := .slice none 0 0) rfl (by kernel_rfl) (by kernel_rfl) (by kernel_rfl) (fun _ _ _ h => h) (Or.inl ⟨by rfl, ?_⟩) (SS.out _ HB0.out) ?_
    · intro w' s1; go_simp
    simp only [Act.put, List.setIfInBounds_toArray, List.set_cons_zero, List.set_cons_succ]
    refine wpAnyH_take (i := 6) (v := .int .i64 0) rfl (by kernel_rfl) (by kernel_rfl) (by kernel_rfl) (fun _ _ _ h => h) (Or.inl ⟨by rfl, ?_⟩) (SS.out _ HB0.out) ?_
    · intro w' s1; go_simp
    simp only [Act.put, List.setIfInBounds_toArray, List.set_cons_zero, List.set_cons_succ]
    refine wpAnyH_take (i := 7) (v := .slice none 0 0) rfl (by kernel_rfl) (by kernel_rfl) (by kernel_rfl) (fun _ _ _ h => h) (Or.inl ⟨by rfl, ?_⟩) (SS.out _ HB0.out) ?_
    · intro w' s1; go_simp
    simp only [Act.put, List.setIfInBounds_toArray, List.set_cons_zero, List.set_cons_succ]
    refine wpAnyH_take (i := 9) (v := .int .i64 x0) rfl (by kernel_rfl) (by kernel_rfl) (by kernel_rfl) (fun _ _ _ h => h) (Or.inl ⟨by rfl, ?_⟩) (SS.out _ HB0.out) ?_
    · intro w' s1; go_simp
    simp only [Act.put, List.setIfInBounds_toArray, List.set_cons_zero, List.set_cons_succ]
    refine wpAnyH_take (i := 10) (v := .int .i64 x1) rfl (by kernel_rfl) (by kernel_rfl) (by kernel_rfl) (fun _ _ _ h => h) (Or.inl ⟨by rfl, ?_⟩) (SS.out _ HB0.out) ?_
    · intro w' s1; go_simp
    simp only [Act.put, List.setIfInBounds_toArray, List.set_cons_zero, List.set_cons_succ]
    refine wpAnyH_take (i := 11) (v := .int .i64 nv) rfl (by kernel_rfl) (by kernel_rfl) (by kernel_rfl) (fun _ _ _ h => h) (Or.inl ⟨by rfl, ?_⟩) (SS.out _ HB0.out) ?_
    · intro w' s1; go_simp
    simp only [Act.put, List.setIfInBounds_toArray, List.set_cons_zero, List.set_cons_succ]
    refine wpAnyH_take (i := 12) (v := .int .i64 nv) rfl (by kernel_rfl) (by kernel_rfl) (by kernel_rfl) (fun _ _ _ h => h) (Or.inl ⟨by rfl, ?_⟩) (SS.out _ HB0.out) ?_
    · intro w' s1; go_simp
    simp only [Act.put, List.setIfInBounds_toArray, List.set_cons_zero, List.set_cons_succ]
    refine wpAnyH_take (i := 13) (v := .int .i64 x1) rfl (by kernel_rfl) (by kernel_rfl) (by kernel_rfl) (fun _ _ _ h => h) (Or.inl ⟨by rfl, ?_⟩) (SS.out _ HB0.out) ?_
    · intro w' s1; go_simp
    simp only [Act.put, List.setIfInBounds_toArray, List.set_cons_zero, List.set_cons_succ]
    refine wpAnyH_take (i := 19) (v := .pointer (some ⟨p, 0, none⟩)) rfl (by kernel_rfl) (by kernel_rfl) (by kernel_rfl) (fun _ _ _ h => h) (Or.inl ⟨by rfl, ?_⟩) (SS.out _ HB0.out) ?_
    · intro w' s1; go_simp
    simp only [Act.put, List.setIfInBounds_toArray, List.set_cons_zero, List.set_cons_succ]
    refine wpAnyH_take (i := 20) (v := .pointer (some ⟨p, 0, none⟩)) rfl (by kernel_rfl) (by kernel_rfl) (by kernel_rfl) (fun _ _ _ h => h) (Or.inl ⟨by rfl, ?_⟩) (SS.out _ HB0.out) ?_
    · intro w' s1; go_simp
    simp only [Act.put, List.setIfInBounds_toArray, List.set_cons_zero, List.set_cons_succ]
    refine wpAnyH_take (i := 21) (v := .pointer (some ⟨p, 3, none⟩)) rfl (by kernel_rfl) (by kernel_rfl) (by kernel_rfl) (fun _ _ _ h => h) (Or.inl ⟨by rfl, ?_⟩) (SS.out _ HB0.out) ?_
    · intro w' s1; go_simp
    simp only [Act.put, List.setIfInBounds_toArray, List.set_cons_zero, List.set_cons_succ]
    refine wpAnyH_take (i := 22) (v := .slice none 0 0) rfl (by kernel_rfl) (by kernel_rfl) (by kernel_rfl) (fun _ _ _ h => h) (Or.inl ⟨by rfl, ?_⟩) (SS.out _ HB0.out) ?_
    · intro w' s1; go_simp
    simp only [Act.put, List.setIfInBounds_toArray, List.set_cons_zero, List.set_cons_succ]
    refine wpAnyH_take (i := 23) (v := .int .i64 0) rfl (by kernel_rfl) (by kernel_rfl) (by kernel_rfl) (fun _ _ _ h => h) (Or.inl ⟨by rfl, ?_⟩) (SS.out _ HB0.out) ?_
    · intro w' s1; go_simp
    simp only [Act.put, List.setIfInBounds_toArray, List.set_cons_zero, List.set_cons_succ]
    refine wpAnyH_take (i := 24) (v := .slice none 0 0) rfl (by kernel_rfl) (by kernel_rfl) (by kernel_rfl) (fun _ _ _ h => h) (Or.inl ⟨by rfl, ?_⟩) (SS.out _ HB0.out) ?_
    · intro w' s1; go_simp
    simp only [Act.put, List.setIfInBounds_toArray, List.set_cons_zero, List.set_cons_succ]
    refine wpAnyH_ready (rs := [1]) (by kernel_rfl) (by simp) ?_
    refine AllReadyH.cons rfl (fun K hK => ?_) AllReadyH.nil
    go_simp
    have hBe : Below w.heap.size w (w.alloc (.cells #[] 59)).drew := ((Below.refl _ w).alloc (Nat.le_refl _) _).drew
    refine hK.out _ _ (SS.out _ hBe) (fun _ => ?_)
    clear hK
    refine wpAnyH_ready (rs := [8]) (by kernel_rfl) (by simp) ?_
    refine AllReadyH.cons rfl (fun K hK => ?_) AllReadyH.nil
    refine stept_src (by rfl) _ _ 55 (by rfl) w.heap.size 59 i0 (.agg #[.int .i64 0, .int .i64 0, .int .i64 0, .int .i64 0]) 4 32 Tryz.underlying55 hi hz0 hz1 hz2 (by rfl) (by omega) w.heap.size 0 0 _ (by rfl) (ownT_empty w _) none 0 0 [] (by rfl) rfl (.inl ⟨rfl, rfl, rfl, rfl⟩) (by simp) (by unfold maxLen; omega) (by omega) (hBe).size ?_
    intro g3 c3 w3 ho3 hg3 hw3
    skip
    have hB3 : Below w.heap.size w w3 := grownT_below hBe hg3 (Nat.le_refl _) (hBe).size
    refine hK.out _ _ (SS.out _ hB3) (fun _ => ?_)
    clear hK
    refine wpAnyH_ready (rs := [14]) (by kernel_rfl) (by simp) ?_
    refine AllReadyH.cons rfl (fun K hK => ?_) AllReadyH.nil
    go_simp
    refine (KD.out _).mono ?_
    rintro e w4 ⟨rfl, rfl⟩
    refine hK.out _ _ (SS.out _ hB3) (fun _ => ?_)
    clear hK
    refine wpAnyH_take (i := 15) (v := .int .i64 (nv + dv)) rfl (by kernel_rfl) (by kernel_rfl) (by kernel_rfl) (fun _ _ _ h => h) (Or.inl ⟨by rfl, ?_⟩) (SS.out _ hB3) ?_
    · intro w' s1; go_simp
    simp only [Act.put, List.setIfInBounds_toArray, List.set_cons_zero, List.set_cons_succ]
    refine wpAnyH_take (i := 16) (v := .agg #[.int .i64 x0, .int .i64 x1, .int .i64 nv, .int .i64 (nv + dv)]) rfl (by kernel_rfl) (by kernel_rfl) (by kernel_rfl) (fun _ _ _ h => h) (Or.inl ⟨by rfl, ?_⟩) (SS.out _ hB3) ?_
    · intro w' s1; go_simp
    simp only [Act.put, List.setIfInBounds_toArray, List.set_cons_zero, List.set_cons_succ]
    refine wpAnyH_ready (rs := [17]) (by kernel_rfl) (by simp) ?_
    refine AllReadyH.cons rfl (fun K hK => ?_) AllReadyH.nil
    go_simp
    have hBx : Below w.heap.size w (w3.alloc (.cells #[.int .i64 x0, .int .i64 x1, .int .i64 nv, .int .i64 (nv + dv)] 59)) := (hB3).alloc (hB3).size _
    refine hK.out _ _ (SS.out _ hBx) (fun _ => ?_)
    clear hK
    refine wpAnyH_ready (rs := [18]) (by kernel_rfl) (by simp) ?_
    refine AllReadyH.cons rfl (fun K hK => ?_) AllReadyH.nil
    refine stept_src (by rfl) _ _ 55 (by rfl) w.heap.size 59 i0 (.agg #[.int .i64 0, .int .i64 0, .int .i64 0, .int .i64 0]) 4 32 Tryz.underlying55 hi hz0 hz1 hz2 (by rfl) (by omega) g3 c3 (0 + 0) _ (by rfl) (ho3.alloc _) (some ⟨w3.heap.size, 0, none⟩) 1 1 (encT (x0, x1, nv, nv + dv)) (by rfl) rfl (.inr ⟨_, rfl, encT_at (World.alloc_heap_new w3 _)⟩) (encT_one _) (by unfold maxLen; omega) (by omega) (hBx).size ?_
    intro g5 c5 w5 ho5 hg5 hw5
    have hB5 : Below w.heap.size w w5 := grownT_below hBx hg5 (World.ownsRow.lt ho3 _ rfl).1 (hBx).size
    refine hK.out _ _ (SS.out _ hB5) (fun _ => ?_)
    clear hK
    refine wpAnyH_ready (rs := [25]) (by kernel_rfl) (by simp) ?_
    refine AllReadyH.cons rfl (fun K hK => ?_) AllReadyH.nil
    refine stept_src (by rfl) _ _ 55 (by rfl) w.heap.size 59 i0 (.agg #[.int .i64 0, .int .i64 0, .int .i64 0, .int .i64 0]) 4 32 Tryz.underlying55 hi hz0 hz1 hz2 (by rfl) (by omega) g5 c5 (0 + 1) _ (by rfl) ho5 none 0 0 [] (by rfl) rfl (.inl ⟨rfl, rfl, rfl, rfl⟩) (by simp) (by unfold maxLen; omega) (by omega) (hB5).size ?_
    intro g6 c6 w6 ho6 hg6 hw6
    have hB6 : Below w.heap.size w w6 := grownT_below hB5 hg6 (World.ownsRow.lt ho5 _ rfl).1 (hB5).size
    refine hK.out _ _ (SS.out _ hB6) (fun _ => ?_)
    clear hK
    refine wpAnyH_done (by kernel_rfl) ?_ _
    refine phase_tail (by kernel_rfl) ?_
    have e : flatT (insTT [] X) = [] ++ [] ++ encT (x0, x1, nv, nv + dv) ++ [] := by rw [← HX.out]; simp [insTT, flatT]
    have f6 := F0.out w6 hB6
    have s6 := SS.out _ hB6
    have pst := list_post HH.out hB6 (by rw [e]; exact ho6) rfl
    have POST := Lib.hid pst
    have KG := Lib.hid (rgrow_c _ _ _ _ _ _ _ pst.1 (by rw [length_insTT]; decide))
    clear pst hB6 hB5 ho6 ho5 hg6 hg5 hw6 hw5 e
    simp only [List.drop_succ_cons, List.drop_zero]
    go_wp2_with fail
    refine KG.out.mono ?_
    rintro e w8 ⟨rfl, hq, ht⟩
    have HQ := Lib.hid (And.intro hq ht)
    clear hq ht KG
    go_wp2_with fail
    go_ret
    exact ⟨rfl, _, HQ.out.1, POST.out.2.trans HQ.out.2⟩

end Go.Proofs.YtandmngfajoinaaGreat

namespace Go.Proofs.YtandmngfajoinaaGreat
open Go.RowKit

set_option maxRecDepth 100000 in
set_option maxHeartbeats 4000000 in
theorem rlea_no (p : Nat) (tag base cur id : Int) (v : Value) (l : List TI) (w : World) (h : IsT w p tag base cur v l) (hl : l.length ≤ 1000000) (hat : atT id l 0 = -1) :
    Calls Tryz.prog 14 #[.pointer (some ⟨p, 0, none⟩), .int .i64 id] w fun e w' => e = .returned (.tuple #[.int .i64 0, .int .i64 2]) ∧ w = w' := by
  have ka := rat_c p tag base cur id v l w h hl
  rw [hat] at ka
  have KA := Lib.hid ka
  clear h ka hat
  go_enter Tryz.func14, Tryz.ntmps14
  go_wp2_with fail
  refine KA.out.mono ?_; rintro e w' ⟨rfl, rfl⟩
  go_wp2_with fail
  go_ret2
  exact ⟨rfl, rfl⟩

set_option linter.unusedSimpArgs false in
set_option maxRecDepth 100000 in
set_option maxHeartbeats 16000000 in
theorem rlea_yes (p g c k : Nat) (tag base cur id : Int) (l : List TI) (x : TI) (w : World) (h : IsT w p tag base cur (.slice (some ⟨g, 0, none⟩) l.length c) l) (hl : l.length ≤ 1000000) (hat : atT id l 0 = ((k : Nat) : Int)) (hx : l[k]? = some x)
    (hb1 : -4000000000000000000 ≤ base) (hb2 : base ≤ 4000000000000000000) (hv1 : -4000000000000000000 ≤ x.2.2.1) (hv2 : x.2.2.1 ≤ 4000000000000000000) :
    Calls Tryz.prog 14 #[.pointer (some ⟨p, 0, none⟩), .int .i64 id] w fun e w' => e = .returned (.tuple #[.int .i64 (base - x.2.2.1), .int .i64 0]) ∧ RPost p tag (.slice (some ⟨g, 0, none⟩) l.length c) (growT base (l.eraseIdx k)) (if cur = id then -1 else cur) (l.eraseIdx k) w w' := by
  have ka := rat_c p tag base cur id _ l w h hl
  rw [hat] at ka
  have KA := Lib.hid ka
  obtain ⟨n, hn⟩ : ∃ n, l.length = n := ⟨_, rfl⟩
  obtain ⟨c0, c1, c2, c3⟩ := h.cells
  have hlt : k < n := by rw [← hn]; exact (List.getElem?_eq_some_iff.1 hx).1
  obtain ⟨g', cc, hv, hgw, hcc, d0, d1, d2, d3⟩ := h.2.1.get hx
  obtain rfl : g = g' := by injection hv with hv1; injection hv1 with hv1; injection hv1 with hv1
  obtain rfl : c = cc := by injection hv
  rw [hn] at c3 hl hcc
  have HN := Lib.hid hn
  have HH := Lib.hid h
  have HX := Lib.hid hx
  have hers : l.eraseIdx k = l.take k ++ l.drop (k + 1) := List.eraseIdx_eq_take_drop_succ l k
  have HE := Lib.hid hers
  obtain ⟨C, hC⟩ : ∃ C, (if cur = id then -1 else cur) = C := ⟨_, rfl⟩
  rw [hC]
  have HC := Lib.hid hC
  have hw1 : IntKind.i64.wrap (base - x.2.2.1) = base - x.2.2.1 := by rw [IntKind.wrap_i64]; omega
  obtain ⟨x0, x1, xv, x3⟩ := x
  simp only at d0 d1 d2 d3 hw1 hv1 hv2 ⊢
  have F0 : Hid (∀ w', Below w.heap.size w w' → w'.frozen? ⟨p, 3, none⟩ = false) := Lib.hid (fun w' hb => (h.below hb).free 3)
  have hk0 : (0 : Int) ≤ (k : Int) := by omega
  have hkm : (k : Int) < (n : Int) := by omega
  clear h ka hat hx hv hn hers hC d0 d1 d3 c0
  go_enter Tryz.func14, Tryz.ntmps14
  go_wp2_with fail
  refine KA.out.mono ?_; rintro e w' ⟨rfl, rfl⟩
  clear KA
  go_wp2_with fail
  go_big_quiet (fail)
  rename_i nq
  obtain ⟨wL, hwL⟩ : ∃ wL, w.drewN nq = wL := ⟨_, rfl⟩
  have HBL : Hid (Below w.heap.size w wL) := Lib.hid (by rw [← hwL]; exact below_drewN (Below.refl _ w) nq)
  have HHL := Lib.hid (HH.out.below HBL.out)
  have HT : Hid (Trip (TOf p (.slice (some ⟨g, 0, none⟩) l.length c)) w (TOf p (.slice (some ⟨g, 0, none⟩) l.length c)) wL) := Lib.hid (by rw [← hwL]; exact tripN HH.out.self nq)
  rw [hwL]
  clear hwL c1 c2 c3 d2
  go_wp2_with fail
  have hkc : ((k : Int) + 1) ≤ (c : Int) := by omega
  have hkc0 : (k : Int) ≤ (c : Int) := by omega
  have hknI : (k : Int) ≤ (n : Int) := by omega
  have hkn1 : (k : Int) + 1 ≤ (n : Int) := by omega
  have hk10 : (0 : Int) ≤ (k : Int) + 1 := by omega
  have hncI : (n : Int) ≤ (c : Int) := by omega
  have hw2 : IntKind.i64.wrap ((k : Int) + 1) = (k : Int) + 1 := by rw [IntKind.wrap_i64]; omega
  obtain ⟨AD, hAD⟩ : ∃ AD, (if c = k + 1 then some (⟨g, 0, none⟩ : Addr) else some ⟨g, (k + 1) * 4, none⟩) = some AD := by split <;> exact ⟨_, rfl⟩
  have hrw : ∀ w', Below wL.heap.size wL w' → TV w' (.slice (some ⟨g, 0, none⟩) l.length c) l := fun w' hb => (HHL.out.below hb).2.1
  have hP1 : Hid (∀ w', Below wL.heap.size wL w' → TSrc w' (some ⟨g, 0, none⟩) k c (flatT (l.take k))) := Lib.hid (fun w' hb => .inr ⟨_, rfl, fun j u hu => by
    have ha : ∀ i, (⟨g, 0, none⟩ : Addr).add i = ⟨g, i, none⟩ := fun i => by unfold Addr.add; split <;> simp_all
    rw [ha]
    have := (hrw w' hb).part 0 (t := l.take k) (by rw [List.drop_zero]; exact List.take_prefix _ _) j u hu
    simpa using this⟩)
  have hP2 : Hid (∀ w', Below wL.heap.size wL w' → TSrc w' (some AD) (n - (k + 1)) (c - (k + 1)) (flatT (l.drop (k + 1)))) := Lib.hid (fun w' hb => .inr ⟨_, rfl, fun j u hu => by
    by_cases hcc' : c = k + 1
    · have h1 : l.drop (k + 1) = [] := List.drop_eq_nil_of_le (by rw [HN.out]; omega)
      rw [h1] at hu
      simp [flatT] at hu
    · rw [if_neg hcc'] at hAD
      injection hAD with hAD
      subst hAD
      have ha : ∀ o i, (⟨g, o, none⟩ : Addr).add i = ⟨g, o + i, none⟩ := fun o i => by unfold Addr.add; split <;> simp_all
      rw [ha]
      exact (hrw w' hb).part (k + 1) (t := l.drop (k + 1)) (List.prefix_refl _) j u hu⟩)
  have HL1 : Hid ((flatT (l.take k)).length = k * 4) := Lib.hid (by rw [flatT_length, List.length_take, HN.out]; omega)
  have HL2 : Hid ((flatT (l.drop (k + 1))).length = (n - (k + 1)) * 4) := Lib.hid (by rw [flatT_length, List.length_drop, HN.out])
  clear hrw
  have SS : Hid (∀ w', Below wL.heap.size wL w' → w'.cell? ⟨p, 3, none⟩ = some (.slice (some ⟨g, 0, none⟩) n c)) := Lib.hid (fun w' hb => by have := (HHL.out.below hb).cells.2.2.2; rwa [HN.out] at this)
  have HB0 : Hid (Below wL.heap.size wL wL.drew) := Lib.hid (Below.refl _ wL).drew
  obtain ⟨i0, hi, hz0, hz1, hz2⟩ := info_partsT info_ti
  refine wp_region_phase 17 (by kernel_rfl) (by kernel_rfl) (fun w' => w'.cell? ⟨p, 3, none⟩ = some (.slice (some ⟨g, 0, none⟩) n c)) ?_
  refine wpAnyH_take (i := 0) (v := .pointer (some ⟨p, 0, none⟩)) rfl (by kernel_rfl) (by kernel_rfl) (by kernel_rfl) (fun _ _ _ h => h) (Or.inl ⟨by rfl, ?_⟩) (SS.out _ HB0.out) ?_
  · intro w' s1; go_simp
  simp only [Act.put, List.setIfInBounds_toArray, List.set_cons_zero, List.set_cons_succ]
  refine wpAnyH_take (i := 2) (v := .pointer (some ⟨p, 0, none⟩)) rfl (by kernel_rfl) (by kernel_rfl) (by kernel_rfl) (fun _ _ _ h => h) (Or.inl ⟨by rfl, ?_⟩) (SS.out _ HB0.out) ?_
  · intro w' s1; go_simp
  simp only [Act.put, List.setIfInBounds_toArray, List.set_cons_zero, List.set_cons_succ]
  refine wpAnyH_take (i := 3) (v := .pointer (some ⟨p, 0, none⟩)) rfl (by kernel_rfl) (by kernel_rfl) (by kernel_rfl) (fun _ _ _ h => h) (Or.inl ⟨by rfl, ?_⟩) (SS.out _ HB0.out) ?_
  · intro w' s1; go_simp
  simp only [Act.put, List.setIfInBounds_toArray, List.set_cons_zero, List.set_cons_succ]
  refine wpAnyH_take (i := 4) (v := .pointer (some ⟨p, 3, none⟩)) rfl (by kernel_rfl) (by kernel_rfl) (by kernel_rfl) (fun _ _ _ h => h) (Or.inl ⟨by rfl, ?_⟩) (SS.out _ HB0.out) ?_
  · intro w' s1; go_simp
  simp only [Act.put, List.setIfInBounds_toArray, List.set_cons_zero, List.set_cons_succ]
  refine wpAnyH_take (i := 5) (v := .slice (some ⟨g, 0, none⟩) n c) rfl (by kernel_rfl) (by kernel_rfl) (by kernel_rfl) (fun _ _ _ h => h) (Or.inl ⟨by rfl, ?_⟩) (SS.out _ HB0.out) ?_
  · intro w' s1; go_simp
  simp only [Act.put, List.setIfInBounds_toArray, List.set_cons_zero, List.set_cons_succ]
  refine wpAnyH_take (i := 6) (v := .int .i64 k) rfl (by kernel_rfl) (by kernel_rfl) (by kernel_rfl) (fun _ _ _ h => h) (Or.inl ⟨by rfl, ?_⟩) (SS.out _ HB0.out) ?_
  · intro w' s1; go_simp
  simp only [Act.put, List.setIfInBounds_toArray, List.set_cons_zero, List.set_cons_succ]
  refine wpAnyH_take (i := 7) (v := .slice (some ⟨g, 0, none⟩) k c) rfl (by kernel_rfl) (by kernel_rfl) (by kernel_rfl) (fun _ _ _ h => h) (Or.inl ⟨by rfl, ?_⟩) (SS.out _ HB0.out) ?_
  · intro w' s1; go_simp
  simp only [Act.put, List.setIfInBounds_toArray, List.set_cons_zero, List.set_cons_succ]
  refine wpAnyH_take (i := 9) (v := .pointer (some ⟨p, 0, none⟩)) rfl (by kernel_rfl) (by kernel_rfl) (by kernel_rfl) (fun _ _ _ h => h) (Or.inl ⟨by rfl, ?_⟩) (SS.out _ HB0.out) ?_
  · intro w' s1; go_simp
  simp only [Act.put, List.setIfInBounds_toArray, List.set_cons_zero, List.set_cons_succ]
  refine wpAnyH_take (i := 10) (v := .pointer (some ⟨p, 0, none⟩)) rfl (by kernel_rfl) (by kernel_rfl) (by kernel_rfl) (fun _ _ _ h => h) (Or.inl ⟨by rfl, ?_⟩) (SS.out _ HB0.out) ?_
  · intro w' s1; go_simp
  simp only [Act.put, List.setIfInBounds_toArray, List.set_cons_zero, List.set_cons_succ]
  refine wpAnyH_take (i := 11) (v := .pointer (some ⟨p, 3, none⟩)) rfl (by kernel_rfl) (by kernel_rfl) (by kernel_rfl) (fun _ _ _ h => h) (Or.inl ⟨by rfl, ?_⟩) (SS.out _ HB0.out) ?_
  · intro w' s1; go_simp
  simp only [Act.put, List.setIfInBounds_toArray, List.set_cons_zero, List.set_cons_succ]
  refine wpAnyH_take (i := 12) (v := .slice (some ⟨g, 0, none⟩) n c) rfl (by kernel_rfl) (by kernel_rfl) (by kernel_rfl) (fun _ _ _ h => h) (Or.inl ⟨by rfl, ?_⟩) (SS.out _ HB0.out) ?_
  · intro w' s1; go_simp
  simp only [Act.put, List.setIfInBounds_toArray, List.set_cons_zero, List.set_cons_succ]
  refine wpAnyH_take (i := 13) (v := .int .i64 k) rfl (by kernel_rfl) (by kernel_rfl) (by kernel_rfl) (fun _ _ _ h => h) (Or.inl ⟨by rfl, ?_⟩) (SS.out _ HB0.out) ?_
  · intro w' s1; go_simp
  simp only [Act.put, List.setIfInBounds_toArray, List.set_cons_zero, List.set_cons_succ]
  refine wpAnyH_take (i := 14) (v := .int .i64 ((k : Int) + 1)) rfl (by kernel_rfl) (by kernel_rfl) (by kernel_rfl) (fun _ _ _ h => h) (Or.inl ⟨by rfl, ?_⟩) (SS.out _ HB0.out) ?_
  · intro w' s1; go_simp
  simp only [Act.put, List.setIfInBounds_toArray, List.set_cons_zero, List.set_cons_succ]
  refine wpAnyH_take (i := 15) (v := .slice (some AD) (n - (k + 1)) (c - (k + 1))) rfl (by kernel_rfl) (by kernel_rfl) (by kernel_rfl) (fun _ _ _ h => h) (Or.inl ⟨by rfl, ?_⟩) (SS.out _ HB0.out) ?_
  · intro w' s1; go_simp
  simp only [Act.put, List.setIfInBounds_toArray, List.set_cons_zero, List.set_cons_succ]
  refine wpAnyH_ready (rs := [1]) (by kernel_rfl) (by simp) ?_
  refine AllReadyH.cons rfl (fun K hK => ?_) AllReadyH.nil
  go_simp
  have hBe : Below wL.heap.size wL (wL.alloc (.cells #[] 59)).drew := ((Below.refl _ wL).alloc (Nat.le_refl _) _).drew
  refine hK.out _ _ (SS.out _ hBe) (fun _ => ?_)
  clear hK
  refine wpAnyH_ready (rs := [8]) (by kernel_rfl) (by simp) ?_
  refine AllReadyH.cons rfl (fun K hK => ?_) AllReadyH.nil
  refine stept_src (by rfl) _ _ 55 (by rfl) wL.heap.size 59 i0 (.agg #[.int .i64 0, .int .i64 0, .int .i64 0, .int .i64 0]) 4 32 Tryz.underlying55 hi hz0 hz1 hz2 (by rfl) (by omega) wL.heap.size 0 0 _ (by rfl) (ownT_empty wL _) (some ⟨g, 0, none⟩) k c (flatT (l.take k)) (by rfl) HL1.out (hP1.out _ hBe) (flatT_one _) (by unfold maxLen; omega) (by omega) (hBe).size ?_
  intro g3 c3 w3 ho3 hg3 hw3
  rw [Nat.zero_add] at ho3 ⊢
  have hB3 : Below wL.heap.size wL w3 := grownT_below hBe hg3 (Nat.le_refl _) (hBe).size
  refine hK.out _ _ (SS.out _ hB3) (fun _ => ?_)
  clear hK
  refine wpAnyH_ready (rs := [16]) (by kernel_rfl) (by simp) ?_
  refine AllReadyH.cons rfl (fun K hK => ?_) AllReadyH.nil
  refine stept_src (by rfl) _ _ 55 (by rfl) wL.heap.size 59 i0 (.agg #[.int .i64 0, .int .i64 0, .int .i64 0, .int .i64 0]) 4 32 Tryz.underlying55 hi hz0 hz1 hz2 (by rfl) (by omega) g3 c3 k _ (by rfl) ho3 (some AD) (n - (k + 1)) (c - (k + 1)) (flatT (l.drop (k + 1))) (by rfl) HL2.out (hP2.out _ hB3) (flatT_one _) (by unfold maxLen; omega) (by omega) (hB3).size ?_
  intro g6 c6 w6 ho6 hg6 hw6
  have hB6 : Below wL.heap.size wL w6 := grownT_below hB3 hg6 (World.ownsRow.lt ho3 _ rfl).1 (hB3).size
  refine hK.out _ _ (SS.out _ hB6) (fun _ => ?_)
  clear hK
  refine wpAnyH_done (by kernel_rfl) ?_ _
  refine phase_tail (by kernel_rfl) ?_
  have e : flatT (l.eraseIdx k) = [] ++ flatT (l.take k) ++ flatT (l.drop (k + 1)) := by rw [HE.out, flatT_append]; simp
  have hlen : (l.eraseIdx k).length = k + (n - (k + 1)) := by rw [List.length_eraseIdx, if_pos (by rw [HN.out]; exact hlt), HN.out]; omega
  have f6 := F0.out w6 (HBL.out.trans (hB6.mono HBL.out.size))
  have s6 := SS.out _ hB6
  obtain ⟨pst, ptr⟩ := list_post HHL.out hB6 (by rw [e]; exact ho6) hlen
  have c2 := pst.cells.2.2.1
  have f2 := pst.free 2
  have hll : (l.eraseIdx k).length ≤ 1000000 := by omega
  have POST := Lib.hid (And.intro pst (HT.out.trans ptr))
  clear pst ptr hB6 hB3 hBe ho6 ho3 hg6 hg3 hw6 hw3 e hlen
  simp only [List.drop_succ_cons, List.drop_zero]
  by_cases hc : cur = id
  · have hC := HC.out
    rw [if_pos hc] at hC
    subst hc hC
    have pst2 := POST.out.1.setC (-1)
    have KG := Lib.hid (rgrow_c _ _ _ _ _ _ _ pst2.1 hll)
    have PO := Lib.hid pst2.2
    clear pst2
    go_wp2_with fail
    refine KG.out.mono ?_
    rintro e w8 ⟨rfl, hq, ht⟩
    have HQ := Lib.hid (And.intro hq ht)
    clear hq ht KG
    go_wp2_with fail
    go_ret2
    exact ⟨rfl, _, HQ.out.1, POST.out.2.trans (PO.out.trans HQ.out.2)⟩
  · have hC := HC.out
    rw [if_neg hc] at hC
    subst hC
    have hc' : (cur == id) = false := by simp [hc]
    have KG := Lib.hid (rgrow_c _ _ _ _ _ _ _ POST.out.1 hll)
    go_wp2_with fail
    refine KG.out.mono ?_
    rintro e w8 ⟨rfl, hq, ht⟩
    have HQ := Lib.hid (And.intro hq ht)
    clear hq ht KG
    go_wp2_with fail
    go_ret2
    exact ⟨rfl, _, HQ.out.1, POST.out.2.trans HQ.out.2⟩
end Go.Proofs.YtandmngfajoinaaGreat

namespace Go.Proofs.YtandmngfajoinaaGreat
open Go.RowKit

theorem flatT_set {l : List TI} {k i : Nat} {x y : TI} (hx : l[k]? = some x) (hi : i < 4) (u : Value) (he : encT y = (encT x).set i u) : flatT (l.set k y) = (flatT l).set (k * 4 + i) u := by
  induction l generalizing k with
  | nil => simp at hx
  | cons z zs ih =>
    cases k with
    | zero =>
      simp at hx
      subst hx
      rw [List.set_cons_zero, flatT, flatT, he, List.set_append_left _ _ (by simp [encT]; omega)]
      simp
    | succ k =>
      have h' : zs[k]? = some x := by simpa using hx
      rw [List.set_cons_succ, flatT, flatT, ih h', List.set_append_right _ _ (by simp [encT]; omega)]
      have e : (k + 1) * 4 + i - (encT z).length = k * 4 + i := by simp [encT]; omega
      rw [e]
/-- A cell of a task's is set. -/
theorem IsT.setRow {w : World} {p g c n k i : Nat} {tag base cur : Int} {l : List TI} {x y : TI} (h : IsT w p tag base cur (.slice (some ⟨g, 0, none⟩) n c) l) (hn : l.length = n) (hx : l[k]? = some x) (hi : i < 4) (u : Value) (he : encT y = (encT x).set i u) :
    IsT (w.setCell ⟨g, k * 4 + i, none⟩ u) p tag base cur (.slice (some ⟨g, 0, none⟩) n c) (l.set k y) ∧ Trip (TOf p (.slice (some ⟨g, 0, none⟩) n c)) w (TOf p (.slice (some ⟨g, 0, none⟩) n c)) (w.setCell ⟨g, k * 4 + i, none⟩ u) := by
  subst hn
  have hne : g ≠ p := fun e => h.2.2 (by rw [← e]; rfl)
  refine ⟨⟨(Below.heap_setCell w _ _ p (fun e => hne e.symm)).trans h.1, ?_, h.2.2⟩, Trip.of_same h.lt ⟨rfl, rfl, rfl, by simp [World.setCell], fun j _ hn => Below.heap_setCell w _ _ j (fun e => hn (.inr (by rw [show j = g from e]; rfl)))⟩⟩
  unfold TV
  rw [List.length_set, flatT_set hx hi u he]
  exact (World.ownsRow.stored h.2.1 (k * 4 + i) u).1
theorem IsT.rowFree {w : World} {p g c n : Nat} {tag base cur : Int} {l : List TI} (h : IsT w p tag base cur (.slice (some ⟨g, 0, none⟩) n c) l) (j : Nat) : w.frozen? ⟨g, j, none⟩ = false := by
  rcases h.2.1.2 with ⟨h1, _⟩ | ⟨g', cap, cur', h1, _, h3, _⟩
  · cases h1
  · obtain rfl : g = g' := by injection h1 with h1; injection h1 with h1; injection h1
    simp [World.frozen?, h3]

set_option maxRecDepth 100000 in
set_option maxHeartbeats 4000000 in
theorem rwei_no (p : Nat) (tag base cur id nw : Int) (v : Value) (l : List TI) (w : World) (h : IsT w p tag base cur v l) (hl : l.length ≤ 1000000) (hat : atT id l 0 = -1) :
    Calls Tryz.prog 16 #[.pointer (some ⟨p, 0, none⟩), .int .i64 id, .int .i64 nw] w fun e w' => e = .returned (.int .i64 2) ∧ w = w' := by
  have ka := rat_c p tag base cur id v l w h hl
  rw [hat] at ka
  have KA := Lib.hid ka
  clear h ka hat
  go_enter Tryz.func16, Tryz.ntmps16
  go_wp2_with fail
  refine KA.out.mono ?_; rintro e w' ⟨rfl, rfl⟩
  go_wp2_with fail
  go_ret
  exact ⟨rfl, rfl⟩
set_option maxRecDepth 100000 in
set_option maxHeartbeats 4000000 in
theorem rwei_bad (p : Nat) (tag base cur id nw : Int) (v : Value) (l : List TI) (w : World) (h : IsT w p tag base cur v l) (hl : l.length ≤ 1000000) (hat : 0 ≤ atT id l 0) (hg : goodB nw = false) :
    Calls Tryz.prog 16 #[.pointer (some ⟨p, 0, none⟩), .int .i64 id, .int .i64 nw] w fun e w' => e = .returned (.int .i64 1) ∧ w = w' := by
  have ka := rat_c p tag base cur id v l w h hl
  have kg := rgoodw_c nw w
  rw [hg] at kg
  have KG := Lib.hid kg
  generalize atT id l 0 = at0 at *
  have KA := Lib.hid ka
  clear h ka kg hg
  go_enter Tryz.func16, Tryz.ntmps16
  go_wp2_with fail
  refine KA.out.mono ?_; rintro e w' ⟨rfl, rfl⟩
  go_wp2_with fail
  refine KG.out.mono ?_; rintro e w' ⟨rfl, rfl⟩
  go_wp2_with fail
  go_ret
  exact ⟨rfl, rfl⟩
set_option linter.unusedSimpArgs false in
set_option maxRecDepth 100000 in
set_option maxHeartbeats 16000000 in
theorem rwei_yes (p g c k : Nat) (tag base cur id nw : Int) (l : List TI) (x : TI) (w : World) (h : IsT w p tag base cur (.slice (some ⟨g, 0, none⟩) l.length c) l) (hl : l.length ≤ 1000000) (hat : atT id l 0 = ((k : Nat) : Int)) (hx : l[k]? = some x) (hgd : goodB nw = true) (hv1 : -4000000000000000000 ≤ x.2.2.1) (hv2 : x.2.2.1 ≤ 4000000000000000000) :
    Calls Tryz.prog 16 #[.pointer (some ⟨p, 0, none⟩), .int .i64 id, .int .i64 nw] w fun e w' => e = .returned (.int .i64 0) ∧ RPost p tag (.slice (some ⟨g, 0, none⟩) l.length c) (growT base (l.set k (x.1, nw, x.2.2.1, x.2.2.1 + 4 * tickV nw))) cur (l.set k (x.1, nw, x.2.2.1, x.2.2.1 + 4 * tickV nw)) w w' := by
  have kg := rgoodw_c nw w
  rw [hgd] at kg
  have KGD := Lib.hid kg
  have KD := Lib.hid (fun w => rday_c nw w)
  obtain ⟨hd1, hd2⟩ := tickV_bd nw
  obtain ⟨dv, hdv⟩ : ∃ dv, 4 * tickV nw = dv := ⟨_, rfl⟩
  simp only [hdv] at KD ⊢
  have hdd1 : 0 ≤ dv := by omega
  have hdd2 : dv ≤ 931170240 := by omega
  have ka := rat_c p tag base cur id _ l w h hl
  rw [hat] at ka
  have KA := Lib.hid ka
  obtain ⟨n, hn⟩ : ∃ n, l.length = n := ⟨_, rfl⟩
  obtain ⟨c0, c1, c2, c3⟩ := h.cells
  have hlt : k < n := by rw [← hn]; exact (List.getElem?_eq_some_iff.1 hx).1
  obtain ⟨g', cc, hv, hgw, hcc, d0, d1, d2, d3⟩ := h.2.1.get hx
  obtain rfl : g = g' := by injection hv with hv1; injection hv1 with hv1; injection hv1 with hv1
  obtain rfl : c = cc := by injection hv
  rw [hn] at c3 hl hcc
  have HN := Lib.hid hn
  rw [hn] at h
  try rw [hn]
  have HH := Lib.hid h
  have HX := Lib.hid hx
  have hk0 : (0 : Int) ≤ (k : Int) := by omega
  have hkm : (k : Int) < (n : Int) := by omega
  obtain ⟨x0, x1, xv, x3⟩ := x
  simp only at d0 d1 d2 d3 hv1 hv2 ⊢
  have hw2 : IntKind.i64.wrap (xv + dv) = xv + dv := by rw [IntKind.wrap_i64]; omega
  have hp1 := h.setRow (y := (x0, nw, xv, x3)) (i := 1) HN.out HX.out (by omega) (.int .i64 nw) rfl
  have hp2 := hp1.1.setRow (k := k) (x := (x0, nw, xv, x3)) (y := (x0, nw, xv, xv + dv)) (i := 3) (by rw [List.length_set]; exact HN.out) (by rw [List.getElem?_set_self (by rw [HN.out]; exact hlt)]) (by omega) (.int .i64 (xv + dv)) rfl
  rw [List.set_set] at hp2
  have f1 := h.rowFree (k * 4 + 1)
  have f2 := hp1.1.rowFree (k * 4 + 3)
  have e3 : (w.setCell ⟨g, k * 4 + 1, none⟩ (.int .i64 nw)).cell? ⟨g, k * 4 + 3, none⟩ = some (.int .i64 x3) := by
    obtain ⟨g2, c2', hv', _, _, _, _, _, t3⟩ := hp1.1.2.1.get (j := k) (x := (x0, nw, xv, x3)) (by rw [List.getElem?_set_self (by rw [HN.out]; exact hlt)])
    obtain rfl : g = g2 := by injection hv' with hv1; injection hv1 with hv1; injection hv1 with hv1
    exact t3
  have SB : Hid ((w.setCell ⟨g, k * 4 + 1, none⟩ (.int .i64 nw)).drew.cell? ⟨p, 3, none⟩ = some (.slice (some ⟨g, 0, none⟩) n c) ∧ (w.setCell ⟨g, k * 4 + 1, none⟩ (.int .i64 nw)).drew.cell? ⟨g, k * 4 + 2, none⟩ = some (.int .i64 xv)) := Lib.hid (by
    obtain ⟨g2, c2', hv', _, _, _, _, t2, _⟩ := hp1.1.2.1.get (j := k) (x := (x0, nw, xv, x3)) (by rw [List.getElem?_set_self (by rw [HN.out]; exact hlt)])
    obtain rfl : g = g2 := by injection hv' with hv1; injection hv1 with hv1; injection hv1 with hv1
    exact ⟨hp1.1.cells.2.2.2, t2⟩)
  have SC : Hid (((w.setCell ⟨g, k * 4 + 1, none⟩ (.int .i64 nw)).setCell ⟨g, k * 4 + 3, none⟩ (.int .i64 (xv + dv))).drew.cell? ⟨p, 3, none⟩ = some (.slice (some ⟨g, 0, none⟩) n c) ∧ ((w.setCell ⟨g, k * 4 + 1, none⟩ (.int .i64 nw)).setCell ⟨g, k * 4 + 3, none⟩ (.int .i64 (xv + dv))).drew.cell? ⟨g, k * 4 + 2, none⟩ = some (.int .i64 xv)) := Lib.hid (by
    obtain ⟨g2, c2', hv', _, _, _, _, t2, _⟩ := hp2.1.2.1.get (j := k) (x := (x0, nw, xv, xv + dv)) (by rw [List.getElem?_set_self (by rw [HN.out]; exact hlt)])
    obtain rfl : g = g2 := by injection hv' with hv1; injection hv1 with hv1; injection hv1 with hv1
    exact ⟨hp2.1.cells.2.2.2, t2⟩)
  have KG := Lib.hid (fun w' hq => rgrow_c p tag base cur (.slice (some ⟨g, 0, none⟩) n c) (l.set k (x0, nw, xv, xv + dv)) w' hq (by rw [List.length_set, HN.out]; omega))
  have HP := Lib.hid (And.intro hp2.1 (hp1.2.trans hp2.2))
  have S0 : Hid (w.drew.cell? ⟨p, 3, none⟩ = some (.slice (some ⟨g, 0, none⟩) n c) ∧ w.drew.cell? ⟨g, k * 4 + 2, none⟩ = some (.int .i64 xv)) := Lib.hid ⟨c3, d2⟩
  clear h ka kg hat hx hv hn hgd hdv hd1 hd2 c0 c1 c2 d0 d3 hp1 hp2
  go_enter Tryz.func16, Tryz.ntmps16
  go_wp2_with fail
  refine KA.out.mono ?_; rintro e w' ⟨rfl, rfl⟩
  clear KA
  go_wp2_with fail
  refine KGD.out.mono ?_; rintro e w' ⟨rfl, rfl⟩
  clear KGD
  go_wp2_with fail
  refine wp_region_held (S := fun w' => w'.cell? ⟨p, 3, none⟩ = some (.slice (some ⟨g, 0, none⟩) n c) ∧ w'.cell? ⟨g, k * 4 + 2, none⟩ = some (.int .i64 xv)) (by kernel_rfl) ?_
  change wpAnyH _ _ _ _ _ _ _ _ w.drew
  refine wpAnyH_take (i := 0) (v := .pointer (some ⟨p, 0, none⟩)) rfl (by kernel_rfl) (by kernel_rfl) (by kernel_rfl) (fun _ _ _ h => h) (Or.inl ⟨by rfl, ?_⟩) S0.out ?_
  · rintro w' ⟨s1, s2⟩; go_simp
  simp only [Act.put, List.setIfInBounds_toArray, List.set_cons_zero, List.set_cons_succ]
  refine wpAnyH_take (i := 1) (v := .pointer (some ⟨p, 0, none⟩)) rfl (by kernel_rfl) (by kernel_rfl) (by kernel_rfl) (fun _ _ _ h => h) (Or.inl ⟨by rfl, ?_⟩) S0.out ?_
  · rintro w' ⟨s1, s2⟩; go_simp
  simp only [Act.put, List.setIfInBounds_toArray, List.set_cons_zero, List.set_cons_succ]
  refine wpAnyH_take (i := 2) (v := .pointer (some ⟨p, 3, none⟩)) rfl (by kernel_rfl) (by kernel_rfl) (by kernel_rfl) (fun _ _ _ h => h) (Or.inl ⟨by rfl, ?_⟩) S0.out ?_
  · rintro w' ⟨s1, s2⟩; go_simp
  simp only [Act.put, List.setIfInBounds_toArray, List.set_cons_zero, List.set_cons_succ]
  refine wpAnyH_take (i := 3) (v := .slice (some ⟨g, 0, none⟩) n c) rfl (by kernel_rfl) (by kernel_rfl) (by kernel_rfl) (fun _ _ _ h => h) (Or.inl ⟨by rfl, ?_⟩) S0.out ?_
  · rintro w' ⟨s1, s2⟩; go_simp
  simp only [Act.put, List.setIfInBounds_toArray, List.set_cons_zero, List.set_cons_succ]
  refine wpAnyH_take (i := 4) (v := .int .i64 k) rfl (by kernel_rfl) (by kernel_rfl) (by kernel_rfl) (fun _ _ _ h => h) (Or.inl ⟨by rfl, ?_⟩) S0.out ?_
  · rintro w' ⟨s1, s2⟩; go_simp
  simp only [Act.put, List.setIfInBounds_toArray, List.set_cons_zero, List.set_cons_succ]
  refine wpAnyH_take (i := 5) (v := .pointer (some ⟨p, 0, none⟩)) rfl (by kernel_rfl) (by kernel_rfl) (by kernel_rfl) (fun _ _ _ h => h) (Or.inl ⟨by rfl, ?_⟩) S0.out ?_
  · rintro w' ⟨s1, s2⟩; go_simp
  simp only [Act.put, List.setIfInBounds_toArray, List.set_cons_zero, List.set_cons_succ]
  refine wpAnyH_take (i := 6) (v := .pointer (some ⟨p, 0, none⟩)) rfl (by kernel_rfl) (by kernel_rfl) (by kernel_rfl) (fun _ _ _ h => h) (Or.inl ⟨by rfl, ?_⟩) S0.out ?_
  · rintro w' ⟨s1, s2⟩; go_simp
  simp only [Act.put, List.setIfInBounds_toArray, List.set_cons_zero, List.set_cons_succ]
  refine wpAnyH_take (i := 7) (v := .pointer (some ⟨p, 3, none⟩)) rfl (by kernel_rfl) (by kernel_rfl) (by kernel_rfl) (fun _ _ _ h => h) (Or.inl ⟨by rfl, ?_⟩) S0.out ?_
  · rintro w' ⟨s1, s2⟩; go_simp
  simp only [Act.put, List.setIfInBounds_toArray, List.set_cons_zero, List.set_cons_succ]
  refine wpAnyH_take (i := 8) (v := .slice (some ⟨g, 0, none⟩) n c) rfl (by kernel_rfl) (by kernel_rfl) (by kernel_rfl) (fun _ _ _ h => h) (Or.inl ⟨by rfl, ?_⟩) S0.out ?_
  · rintro w' ⟨s1, s2⟩; go_simp
  simp only [Act.put, List.setIfInBounds_toArray, List.set_cons_zero, List.set_cons_succ]
  refine wpAnyH_take (i := 9) (v := .int .i64 k) rfl (by kernel_rfl) (by kernel_rfl) (by kernel_rfl) (fun _ _ _ h => h) (Or.inl ⟨by rfl, ?_⟩) S0.out ?_
  · rintro w' ⟨s1, s2⟩; go_simp
  simp only [Act.put, List.setIfInBounds_toArray, List.set_cons_zero, List.set_cons_succ]
  refine wpAnyH_take (i := 10) (v := .int .i64 nw) rfl (by kernel_rfl) (by kernel_rfl) (by kernel_rfl) (fun _ _ _ h => h) (Or.inl ⟨by rfl, ?_⟩) S0.out ?_
  · rintro w' ⟨s1, s2⟩; go_simp
  simp only [Act.put, List.setIfInBounds_toArray, List.set_cons_zero, List.set_cons_succ]
  refine wpAnyH_take (i := 11) (v := .pointer (some ⟨p, 0, none⟩)) rfl (by kernel_rfl) (by kernel_rfl) (by kernel_rfl) (fun _ _ _ h => h) (Or.inl ⟨by rfl, ?_⟩) S0.out ?_
  · rintro w' ⟨s1, s2⟩; go_simp
  simp only [Act.put, List.setIfInBounds_toArray, List.set_cons_zero, List.set_cons_succ]
  refine wpAnyH_take (i := 12) (v := .pointer (some ⟨p, 0, none⟩)) rfl (by kernel_rfl) (by kernel_rfl) (by kernel_rfl) (fun _ _ _ h => h) (Or.inl ⟨by rfl, ?_⟩) S0.out ?_
  · rintro w' ⟨s1, s2⟩; go_simp
  simp only [Act.put, List.setIfInBounds_toArray, List.set_cons_zero, List.set_cons_succ]
  refine wpAnyH_take (i := 13) (v := .pointer (some ⟨p, 3, none⟩)) rfl (by kernel_rfl) (by kernel_rfl) (by kernel_rfl) (fun _ _ _ h => h) (Or.inl ⟨by rfl, ?_⟩) S0.out ?_
  · rintro w' ⟨s1, s2⟩; go_simp
  simp only [Act.put, List.setIfInBounds_toArray, List.set_cons_zero, List.set_cons_succ]
  refine wpAnyH_take (i := 14) (v := .slice (some ⟨g, 0, none⟩) n c) rfl (by kernel_rfl) (by kernel_rfl) (by kernel_rfl) (fun _ _ _ h => h) (Or.inl ⟨by rfl, ?_⟩) S0.out ?_
  · rintro w' ⟨s1, s2⟩; go_simp
  simp only [Act.put, List.setIfInBounds_toArray, List.set_cons_zero, List.set_cons_succ]
  refine wpAnyH_take (i := 15) (v := .int .i64 k) rfl (by kernel_rfl) (by kernel_rfl) (by kernel_rfl) (fun _ _ _ h => h) (Or.inl ⟨by rfl, ?_⟩) S0.out ?_
  · rintro w' ⟨s1, s2⟩; go_simp
  simp only [Act.put, List.setIfInBounds_toArray, List.set_cons_zero, List.set_cons_succ]
  refine wpAnyH_take (i := 16) (v := .pointer (some ⟨g, k * 4, none⟩)) rfl (by kernel_rfl) (by kernel_rfl) (by kernel_rfl) (fun _ _ _ h => h) (Or.inl ⟨by rfl, ?_⟩) S0.out ?_
  · rintro w' ⟨s1, s2⟩; go_simp
  simp only [Act.put, List.setIfInBounds_toArray, List.set_cons_zero, List.set_cons_succ]
  refine wpAnyH_take (i := 17) (v := .pointer (some ⟨g, k * 4 + 2, none⟩)) rfl (by kernel_rfl) (by kernel_rfl) (by kernel_rfl) (fun _ _ _ h => h) (Or.inl ⟨by rfl, ?_⟩) S0.out ?_
  · rintro w' ⟨s1, s2⟩; go_simp
  simp only [Act.put, List.setIfInBounds_toArray, List.set_cons_zero, List.set_cons_succ]
  refine wpAnyH_take (i := 18) (v := .int .i64 xv) rfl (by kernel_rfl) (by kernel_rfl) (by kernel_rfl) (fun _ _ _ h => h) (Or.inl ⟨by rfl, ?_⟩) S0.out ?_
  · rintro w' ⟨s1, s2⟩; go_simp
  simp only [Act.put, List.setIfInBounds_toArray, List.set_cons_zero, List.set_cons_succ]
  refine wpAnyH_take (i := 19) (v := .int .i64 nw) rfl (by kernel_rfl) (by kernel_rfl) (by kernel_rfl) (fun _ _ _ h => h) (Or.inl ⟨by rfl, ?_⟩) S0.out ?_
  · rintro w' ⟨s1, s2⟩; go_simp
  simp only [Act.put, List.setIfInBounds_toArray, List.set_cons_zero, List.set_cons_succ]
  refine wpAnyH_ready (rs := [20]) (by kernel_rfl) (by simp) ?_
  refine AllReadyH.cons rfl (fun K hK => ?_) AllReadyH.nil
  go_simp
  refine (KD.out _).mono ?_
  rintro e w4 ⟨rfl, rfl⟩
  refine hK.out _ _ S0.out (fun _ => ?_)
  clear hK
  refine wpAnyH_take (i := 21) (v := .int .i64 (xv + dv)) rfl (by kernel_rfl) (by kernel_rfl) (by kernel_rfl) (fun _ _ _ h => h) (Or.inl ⟨by rfl, ?_⟩) S0.out ?_
  · rintro w' ⟨s1, s2⟩; go_simp
  simp only [Act.put, List.setIfInBounds_toArray, List.set_cons_zero, List.set_cons_succ]
  refine wpAnyH_take (i := 22) (v := .pointer (some ⟨g, k * 4, none⟩)) rfl (by kernel_rfl) (by kernel_rfl) (by kernel_rfl) (fun _ _ _ h => h) (Or.inl ⟨by rfl, ?_⟩) S0.out ?_
  · rintro w' ⟨s1, s2⟩; go_simp
  simp only [Act.put, List.setIfInBounds_toArray, List.set_cons_zero, List.set_cons_succ]
  refine wpAnyH_take (i := 23) (v := .pointer (some ⟨g, k * 4 + 1, none⟩)) rfl (by kernel_rfl) (by kernel_rfl) (by kernel_rfl) (fun _ _ _ h => h) (Or.inl ⟨by rfl, ?_⟩) S0.out ?_
  · rintro w' ⟨s1, s2⟩; go_simp
  simp only [Act.put, List.setIfInBounds_toArray, List.set_cons_zero, List.set_cons_succ]
  refine wpAnyH_ready (rs := [24]) (by kernel_rfl) (by simp) ?_
  refine AllReadyH.cons rfl (fun K hK => ?_) AllReadyH.nil
  go_simp
  refine hK.out _ _ SB.out (fun _ => ?_)
  clear hK
  refine wpAnyH_take (i := 25) (v := .pointer (some ⟨g, k * 4, none⟩)) rfl (by kernel_rfl) (by kernel_rfl) (by kernel_rfl) (fun _ _ _ h => h) (Or.inl ⟨by rfl, ?_⟩) SB.out ?_
  · rintro w' ⟨s1, s2⟩; go_simp
  simp only [Act.put, List.setIfInBounds_toArray, List.set_cons_zero, List.set_cons_succ]
  refine wpAnyH_take (i := 26) (v := .pointer (some ⟨g, k * 4 + 3, none⟩)) rfl (by kernel_rfl) (by kernel_rfl) (by kernel_rfl) (fun _ _ _ h => h) (Or.inl ⟨by rfl, ?_⟩) SB.out ?_
  · rintro w' ⟨s1, s2⟩; go_simp
  simp only [Act.put, List.setIfInBounds_toArray, List.set_cons_zero, List.set_cons_succ]
  refine wpAnyH_ready (rs := [27]) (by kernel_rfl) (by simp) ?_
  refine AllReadyH.cons rfl (fun K hK => ?_) AllReadyH.nil
  go_simp
  refine hK.out _ _ SC.out (fun _ => ?_)
  clear hK
  refine wpAnyH_done (by kernel_rfl) ?_ _
  go_wp2_with fail
  refine (KG.out _ ?_).mono ?_
  · exact HP.out.1
  rintro e w8 ⟨rfl, hq, ht⟩
  have HQ := Lib.hid (And.intro hq ht)
  clear hq ht KG
  go_wp2_with fail
  go_ret
  exact ⟨rfl, _, HQ.out.1, (Trip.drew HP.out.2).trans HQ.out.2⟩
set_option maxRecDepth 100000 in
set_option maxHeartbeats 4000000 in
theorem rcha_no (p : Nat) (tag base cur : Int) (v : Value) (l : List TI) (w : World) (h : IsT w p tag base cur v l) (hl : l.length ≤ 1000000) (hat : atT cur l 0 = -1) :
    Calls Tryz.prog 19 #[.pointer (some ⟨p, 0, none⟩)] w fun e w' => e = .returned (.tuple #[.int .i64 0, .int .i64 14]) ∧ w = w' := by
  have ka := rat_c p tag base cur cur v l w h hl
  rw [hat] at ka
  have KA := Lib.hid ka
  obtain ⟨-, -, c2, -⟩ := h.cells
  clear h ka hat
  go_enter Tryz.func19, Tryz.ntmps19
  go_wp2_with fail
  refine KA.out.mono ?_; rintro e w' ⟨rfl, rfl⟩
  go_wp2_with fail
  go_ret2
  exact ⟨rfl, rfl⟩
set_option maxRecDepth 100000 in
set_option maxHeartbeats 4000000 in
theorem rcha_over (p g c k : Nat) (tag base cur : Int) (l : List TI) (x : TI) (w : World) (h : IsT w p tag base cur (.slice (some ⟨g, 0, none⟩) l.length c) l) (hl : l.length ≤ 1000000) (hat : atT cur l 0 = ((k : Nat) : Int)) (hx : l[k]? = some x) (hv1 : -4000000000000000000 ≤ x.2.2.1) (hv2 : x.2.2.1 ≤ 4000000000000000000) (hov : 2305843009213693952 < x.2.2.1 + tickV x.2.1) :
    Calls Tryz.prog 19 #[.pointer (some ⟨p, 0, none⟩)] w fun e w' => e = .returned (.tuple #[.int .i64 0, .int .i64 7]) ∧ w = w' := by
  have KS := Lib.hid (fun w => rstep_c x.2.1 w)
  obtain ⟨hd1, hd2⟩ := tickV_bd x.2.1
  have ka := rat_c p tag base cur cur _ l w h hl
  rw [hat] at ka
  have KA := Lib.hid ka
  obtain ⟨n, hn⟩ : ∃ n, l.length = n := ⟨_, rfl⟩
  obtain ⟨c0, c1, c2, c3⟩ := h.cells
  have hlt : k < n := by rw [← hn]; exact (List.getElem?_eq_some_iff.1 hx).1
  obtain ⟨g', cc, hv, hgw, hcc, d0, d1, d2, d3⟩ := h.2.1.get hx
  obtain rfl : g = g' := by injection hv with hv1; injection hv1 with hv1; injection hv1 with hv1
  obtain rfl : c = cc := by injection hv
  rw [hn] at c3 hl hcc
  have HN := Lib.hid hn
  rw [hn] at h
  try rw [hn]
  have HH := Lib.hid h
  have HX := Lib.hid hx
  have hk0 : (0 : Int) ≤ (k : Int) := by omega
  have hkm : (k : Int) < (n : Int) := by omega
  obtain ⟨x0, x1, xv, x3⟩ := x
  simp only at d0 d1 d2 d3 hv1 hv2 hov hd1 hd2 KS ⊢
  generalize tickV x1 = st at *
  have hw1 : IntKind.i64.wrap (xv + st) = xv + st := by rw [IntKind.wrap_i64]; omega
  clear h ka hat hx hv hn c0 c1 d0 d3 HH HX HN
  go_enter Tryz.func19, Tryz.ntmps19
  go_wp2_with fail
  refine KA.out.mono ?_; rintro e w' ⟨rfl, rfl⟩
  clear KA
  go_wp2_with fail
  refine (KS.out _).mono ?_; rintro e w' ⟨rfl, rfl⟩
  clear KS
  go_wp2_with fail
  go_ret2
  exact ⟨rfl, rfl⟩
set_option linter.unusedSimpArgs false in
set_option maxRecDepth 100000 in
set_option maxHeartbeats 16000000 in
theorem rcha_yes (p g c k : Nat) (tag base cur : Int) (l : List TI) (x : TI) (w : World) (h : IsT w p tag base cur (.slice (some ⟨g, 0, none⟩) l.length c) l) (hl : l.length ≤ 1000000) (hat : atT cur l 0 = ((k : Nat) : Int)) (hx : l[k]? = some x) (hv1 : -4000000000000000000 ≤ x.2.2.1) (hv2 : x.2.2.1 ≤ 4000000000000000000) (hov : x.2.2.1 + tickV x.2.1 ≤ 2305843009213693952) :
    Calls Tryz.prog 19 #[.pointer (some ⟨p, 0, none⟩)] w fun e w' => e = .returned (.tuple #[.int .i64 cur, .int .i64 0]) ∧ RPost p tag (.slice (some ⟨g, 0, none⟩) l.length c) (growT base (l.set k (chaT x))) cur (l.set k (chaT x)) w w' := by
  have KS := Lib.hid (fun w => rstep_c x.2.1 w)
  have KD := Lib.hid (fun w => rday_c x.2.1 w)
  obtain ⟨hd1, hd2⟩ := tickV_bd x.2.1
  have ka := rat_c p tag base cur cur _ l w h hl
  rw [hat] at ka
  have KA := Lib.hid ka
  obtain ⟨n, hn⟩ : ∃ n, l.length = n := ⟨_, rfl⟩
  obtain ⟨c0, c1, c2, c3⟩ := h.cells
  have hlt : k < n := by rw [← hn]; exact (List.getElem?_eq_some_iff.1 hx).1
  obtain ⟨g', cc, hv, hgw, hcc, d0, d1, d2, d3⟩ := h.2.1.get hx
  obtain rfl : g = g' := by injection hv with hv1; injection hv1 with hv1; injection hv1 with hv1
  obtain rfl : c = cc := by injection hv
  rw [hn] at c3 hl hcc
  have HN := Lib.hid hn
  rw [hn] at h
  try rw [hn]
  have HH := Lib.hid h
  have HX := Lib.hid hx
  have hk0 : (0 : Int) ≤ (k : Int) := by omega
  have hkm : (k : Int) < (n : Int) := by omega
  obtain ⟨X, hX⟩ : ∃ X, chaT x = X := ⟨_, rfl⟩
  rw [hX]
  unfold chaT at hX
  obtain ⟨x0, x1, xv, x3⟩ := x
  simp only at d0 d1 d2 d3 hv1 hv2 hov hd1 hd2 KS KD hX ⊢
  obtain ⟨dv, hdv⟩ : ∃ dv, 4 * tickV x1 = dv := ⟨_, rfl⟩
  simp only [hdv] at KD hX
  have hdd1 : 0 ≤ dv := by omega
  have hdd2 : dv ≤ 931170240 := by omega
  generalize tickV x1 = st at *
  have hw1 : IntKind.i64.wrap (xv + st) = xv + st := by rw [IntKind.wrap_i64]; omega
  obtain ⟨nv, hnv⟩ : ∃ nv, xv + st = nv := ⟨_, rfl⟩
  rw [hnv] at hX hw1 hov
  have hw2 : IntKind.i64.wrap (nv + dv) = nv + dv := by rw [IntKind.wrap_i64]; omega
  have hp1 := h.setRow (y := (x0, x1, nv, x3)) (i := 2) HN.out HX.out (by omega) (.int .i64 nv) rfl
  have hx1 : (l.set k (x0, x1, nv, x3))[k]? = some (x0, x1, nv, x3) := by rw [List.getElem?_set_self (by rw [HN.out]; exact hlt)]
  have hln : (l.set k (x0, x1, nv, x3)).length = n := by rw [List.length_set]; exact HN.out
  obtain ⟨w1, hw⟩ : ∃ w1, (w.setCell ⟨g, k * 4 + 2, none⟩ (.int .i64 nv)).drew = w1 := ⟨_, rfl⟩
  have hp1' : IsT w1 p tag base cur (.slice (some ⟨g, 0, none⟩) n c) (l.set k (x0, x1, nv, x3)) ∧ Trip (TOf p (.slice (some ⟨g, 0, none⟩) n c)) w (TOf p (.slice (some ⟨g, 0, none⟩) n c)) w1 := by rw [← hw]; exact ⟨hp1.1, Trip.drew hp1.2⟩
  obtain ⟨g2, c2', hv', _, _, t0, t1, t2, t3⟩ := hp1'.1.2.1.get hx1
  obtain rfl : g = g2 := by injection hv' with hv1; injection hv1 with hv1; injection hv1 with hv1
  obtain ⟨-, -, t5, t4⟩ := hp1'.1.cells
  have f1 := h.rowFree (k * 4 + 2)
  have HP1 := Lib.hid hp1'
  have HLN := Lib.hid hln
  have HX1 := Lib.hid hx1
  have KG := Lib.hid (fun w' l' hq hl' => rgrow_c p tag base cur (.slice (some ⟨g, 0, none⟩) n c) l' w' hq hl')
  have HXX := Lib.hid hX
  simp only at t0 t1 t2 t3
  clear h ka hat hx hv hv' hn hdv c0 c1 d0 d3 hp1 hp1' hX hx1 hln t0
  go_enter Tryz.func19, Tryz.ntmps19
  go_wp2_with fail
  refine KA.out.mono ?_; rintro e w' ⟨rfl, rfl⟩
  clear KA
  go_wp2_with fail
  refine (KS.out _).mono ?_; rintro e w' ⟨rfl, rfl⟩
  clear KS
  go_wp2_with fail
  go_still_tail 15, (by kernel_rfl)
  change wpList _ _ _ _ _ w.drew
  go_wp2_with fail
  try rw [hw]
  clear d1 d2 c2 c3 f1 hw
  by_cases hday : x3 ≤ nv
  · rw [if_pos hday] at HXX
    go_wp2_with fail
    go_big_quiet (fail)
    rename_i nq
    obtain ⟨w2, hw2'⟩ : ∃ w2, w1.drewN nq = w2 := ⟨_, rfl⟩
    have hq2 : IsT w2 p tag base cur (.slice (some ⟨g, 0, none⟩) n c) (l.set k (x0, x1, nv, x3)) := by rw [← hw2']; exact HP1.out.1
    have hT2 : Trip (TOf p (.slice (some ⟨g, 0, none⟩) n c)) w (TOf p (.slice (some ⟨g, 0, none⟩) n c)) w2 := by rw [← hw2']; exact tripN HP1.out.2 nq
    have u1 : w2.cell? ⟨g, k * 4 + 1, none⟩ = some (.int .i64 x1) := by rw [← hw2']; exact t1
    have u2 : w2.cell? ⟨g, k * 4 + 2, none⟩ = some (.int .i64 nv) := by rw [← hw2']; exact t2
    have u3 : w2.cell? ⟨g, k * 4 + 3, none⟩ = some (.int .i64 x3) := by rw [← hw2']; exact t3
    have u4 : w2.cell? ⟨p, 3, none⟩ = some (.slice (some ⟨g, 0, none⟩) n c) := by rw [← hw2']; exact t4
    have u5 : w2.cell? ⟨p, 2, none⟩ = some (.int .i64 cur) := by rw [← hw2']; exact t5
    rw [hw2']
    have hp2 := hq2.setRow (y := (x0, x1, nv, nv + dv)) (i := 3) HLN.out HX1.out (by omega) (.int .i64 (nv + dv)) rfl
    rw [List.set_set, HXX.out] at hp2
    have f3 := hq2.rowFree (k * 4 + 3)
    have v5 : (w2.setCell ⟨g, k * 4 + 3, none⟩ (.int .i64 (nv + dv))).cell? ⟨p, 2, none⟩ = some (.int .i64 cur) := hp2.1.cells.2.2.1
    have HP2 := Lib.hid (And.intro hp2.1 (hT2.trans hp2.2))
    have S0 : Hid (w2.drew.cell? ⟨p, 3, none⟩ = some (.slice (some ⟨g, 0, none⟩) n c) ∧ w2.drew.cell? ⟨g, k * 4 + 2, none⟩ = some (.int .i64 nv) ∧ w2.drew.cell? ⟨g, k * 4 + 1, none⟩ = some (.int .i64 x1)) := Lib.hid ⟨u4, u2, u1⟩
    clear hw2' t1 t2 t3 t4 t5 hp2 hq2 hT2
    go_wp2_with fail
    refine wp_region_phase 23 (by kernel_rfl) (by kernel_rfl) (fun w' => w'.cell? ⟨p, 3, none⟩ = some (.slice (some ⟨g, 0, none⟩) n c) ∧ w'.cell? ⟨g, k * 4 + 2, none⟩ = some (.int .i64 nv) ∧ w'.cell? ⟨g, k * 4 + 1, none⟩ = some (.int .i64 x1)) ?_
    refine wpAnyH_take (i := 0) (v := .pointer (some ⟨p, 0, none⟩)) rfl (by kernel_rfl) (by kernel_rfl) (by kernel_rfl) (fun _ _ _ h => h) (Or.inl ⟨by rfl, ?_⟩) S0.out ?_
    · rintro w' ⟨s1, s2, s3⟩; go_simp
    simp only [Act.put, List.setIfInBounds_toArray, List.set_cons_zero, List.set_cons_succ]
    refine wpAnyH_take (i := 1) (v := .pointer (some ⟨p, 0, none⟩)) rfl (by kernel_rfl) (by kernel_rfl) (by kernel_rfl) (fun _ _ _ h => h) (Or.inl ⟨by rfl, ?_⟩) S0.out ?_
    · rintro w' ⟨s1, s2, s3⟩; go_simp
    simp only [Act.put, List.setIfInBounds_toArray, List.set_cons_zero, List.set_cons_succ]
    refine wpAnyH_take (i := 2) (v := .pointer (some ⟨p, 3, none⟩)) rfl (by kernel_rfl) (by kernel_rfl) (by kernel_rfl) (fun _ _ _ h => h) (Or.inl ⟨by rfl, ?_⟩) S0.out ?_
    · rintro w' ⟨s1, s2, s3⟩; go_simp
    simp only [Act.put, List.setIfInBounds_toArray, List.set_cons_zero, List.set_cons_succ]
    refine wpAnyH_take (i := 3) (v := .slice (some ⟨g, 0, none⟩) n c) rfl (by kernel_rfl) (by kernel_rfl) (by kernel_rfl) (fun _ _ _ h => h) (Or.inl ⟨by rfl, ?_⟩) S0.out ?_
    · rintro w' ⟨s1, s2, s3⟩; go_simp
    simp only [Act.put, List.setIfInBounds_toArray, List.set_cons_zero, List.set_cons_succ]
    refine wpAnyH_take (i := 4) (v := .int .i64 k) rfl (by kernel_rfl) (by kernel_rfl) (by kernel_rfl) (fun _ _ _ h => h) (Or.inl ⟨by rfl, ?_⟩) S0.out ?_
    · rintro w' ⟨s1, s2, s3⟩; go_simp
    simp only [Act.put, List.setIfInBounds_toArray, List.set_cons_zero, List.set_cons_succ]
    refine wpAnyH_take (i := 5) (v := .pointer (some ⟨p, 0, none⟩)) rfl (by kernel_rfl) (by kernel_rfl) (by kernel_rfl) (fun _ _ _ h => h) (Or.inl ⟨by rfl, ?_⟩) S0.out ?_
    · rintro w' ⟨s1, s2, s3⟩; go_simp
    simp only [Act.put, List.setIfInBounds_toArray, List.set_cons_zero, List.set_cons_succ]
    refine wpAnyH_take (i := 6) (v := .pointer (some ⟨p, 0, none⟩)) rfl (by kernel_rfl) (by kernel_rfl) (by kernel_rfl) (fun _ _ _ h => h) (Or.inl ⟨by rfl, ?_⟩) S0.out ?_
    · rintro w' ⟨s1, s2, s3⟩; go_simp
    simp only [Act.put, List.setIfInBounds_toArray, List.set_cons_zero, List.set_cons_succ]
    refine wpAnyH_take (i := 7) (v := .pointer (some ⟨p, 3, none⟩)) rfl (by kernel_rfl) (by kernel_rfl) (by kernel_rfl) (fun _ _ _ h => h) (Or.inl ⟨by rfl, ?_⟩) S0.out ?_
    · rintro w' ⟨s1, s2, s3⟩; go_simp
    simp only [Act.put, List.setIfInBounds_toArray, List.set_cons_zero, List.set_cons_succ]
    refine wpAnyH_take (i := 8) (v := .slice (some ⟨g, 0, none⟩) n c) rfl (by kernel_rfl) (by kernel_rfl) (by kernel_rfl) (fun _ _ _ h => h) (Or.inl ⟨by rfl, ?_⟩) S0.out ?_
    · rintro w' ⟨s1, s2, s3⟩; go_simp
    simp only [Act.put, List.setIfInBounds_toArray, List.set_cons_zero, List.set_cons_succ]
    refine wpAnyH_take (i := 9) (v := .int .i64 k) rfl (by kernel_rfl) (by kernel_rfl) (by kernel_rfl) (fun _ _ _ h => h) (Or.inl ⟨by rfl, ?_⟩) S0.out ?_
    · rintro w' ⟨s1, s2, s3⟩; go_simp
    simp only [Act.put, List.setIfInBounds_toArray, List.set_cons_zero, List.set_cons_succ]
    refine wpAnyH_take (i := 10) (v := .pointer (some ⟨g, k * 4, none⟩)) rfl (by kernel_rfl) (by kernel_rfl) (by kernel_rfl) (fun _ _ _ h => h) (Or.inl ⟨by rfl, ?_⟩) S0.out ?_
    · rintro w' ⟨s1, s2, s3⟩; go_simp
    simp only [Act.put, List.setIfInBounds_toArray, List.set_cons_zero, List.set_cons_succ]
    refine wpAnyH_take (i := 11) (v := .pointer (some ⟨g, k * 4 + 2, none⟩)) rfl (by kernel_rfl) (by kernel_rfl) (by kernel_rfl) (fun _ _ _ h => h) (Or.inl ⟨by rfl, ?_⟩) S0.out ?_
    · rintro w' ⟨s1, s2, s3⟩; go_simp
    simp only [Act.put, List.setIfInBounds_toArray, List.set_cons_zero, List.set_cons_succ]
    refine wpAnyH_take (i := 12) (v := .int .i64 nv) rfl (by kernel_rfl) (by kernel_rfl) (by kernel_rfl) (fun _ _ _ h => h) (Or.inl ⟨by rfl, ?_⟩) S0.out ?_
    · rintro w' ⟨s1, s2, s3⟩; go_simp
    simp only [Act.put, List.setIfInBounds_toArray, List.set_cons_zero, List.set_cons_succ]
    refine wpAnyH_take (i := 13) (v := .pointer (some ⟨p, 0, none⟩)) rfl (by kernel_rfl) (by kernel_rfl) (by kernel_rfl) (fun _ _ _ h => h) (Or.inl ⟨by rfl, ?_⟩) S0.out ?_
    · rintro w' ⟨s1, s2, s3⟩; go_simp
    simp only [Act.put, List.setIfInBounds_toArray, List.set_cons_zero, List.set_cons_succ]
    refine wpAnyH_take (i := 14) (v := .pointer (some ⟨p, 0, none⟩)) rfl (by kernel_rfl) (by kernel_rfl) (by kernel_rfl) (fun _ _ _ h => h) (Or.inl ⟨by rfl, ?_⟩) S0.out ?_
    · rintro w' ⟨s1, s2, s3⟩; go_simp
    simp only [Act.put, List.setIfInBounds_toArray, List.set_cons_zero, List.set_cons_succ]
    refine wpAnyH_take (i := 15) (v := .pointer (some ⟨p, 3, none⟩)) rfl (by kernel_rfl) (by kernel_rfl) (by kernel_rfl) (fun _ _ _ h => h) (Or.inl ⟨by rfl, ?_⟩) S0.out ?_
    · rintro w' ⟨s1, s2, s3⟩; go_simp
    simp only [Act.put, List.setIfInBounds_toArray, List.set_cons_zero, List.set_cons_succ]
    refine wpAnyH_take (i := 16) (v := .slice (some ⟨g, 0, none⟩) n c) rfl (by kernel_rfl) (by kernel_rfl) (by kernel_rfl) (fun _ _ _ h => h) (Or.inl ⟨by rfl, ?_⟩) S0.out ?_
    · rintro w' ⟨s1, s2, s3⟩; go_simp
    simp only [Act.put, List.setIfInBounds_toArray, List.set_cons_zero, List.set_cons_succ]
    refine wpAnyH_take (i := 17) (v := .int .i64 k) rfl (by kernel_rfl) (by kernel_rfl) (by kernel_rfl) (fun _ _ _ h => h) (Or.inl ⟨by rfl, ?_⟩) S0.out ?_
    · rintro w' ⟨s1, s2, s3⟩; go_simp
    simp only [Act.put, List.setIfInBounds_toArray, List.set_cons_zero, List.set_cons_succ]
    refine wpAnyH_take (i := 18) (v := .pointer (some ⟨g, k * 4, none⟩)) rfl (by kernel_rfl) (by kernel_rfl) (by kernel_rfl) (fun _ _ _ h => h) (Or.inl ⟨by rfl, ?_⟩) S0.out ?_
    · rintro w' ⟨s1, s2, s3⟩; go_simp
    simp only [Act.put, List.setIfInBounds_toArray, List.set_cons_zero, List.set_cons_succ]
    refine wpAnyH_take (i := 19) (v := .pointer (some ⟨g, k * 4 + 1, none⟩)) rfl (by kernel_rfl) (by kernel_rfl) (by kernel_rfl) (fun _ _ _ h => h) (Or.inl ⟨by rfl, ?_⟩) S0.out ?_
    · rintro w' ⟨s1, s2, s3⟩; go_simp
    simp only [Act.put, List.setIfInBounds_toArray, List.set_cons_zero, List.set_cons_succ]
    refine wpAnyH_take (i := 20) (v := .int .i64 x1) rfl (by kernel_rfl) (by kernel_rfl) (by kernel_rfl) (fun _ _ _ h => h) (Or.inl ⟨by rfl, ?_⟩) S0.out ?_
    · rintro w' ⟨s1, s2, s3⟩; go_simp
    simp only [Act.put, List.setIfInBounds_toArray, List.set_cons_zero, List.set_cons_succ]
    refine wpAnyH_ready (rs := [21]) (by kernel_rfl) (by simp) ?_
    refine AllReadyH.cons rfl (fun K hK => ?_) AllReadyH.nil
    go_simp
    refine (KD.out _).mono ?_
    rintro e w4 ⟨rfl, rfl⟩
    refine hK.out _ _ S0.out (fun _ => ?_)
    clear hK
    refine wpAnyH_take (i := 22) (v := .int .i64 (nv + dv)) rfl (by kernel_rfl) (by kernel_rfl) (by kernel_rfl) (fun _ _ _ h => h) (Or.inl ⟨by rfl, ?_⟩) S0.out ?_
    · rintro w' ⟨s1, s2, s3⟩; go_simp
    simp only [Act.put, List.setIfInBounds_toArray, List.set_cons_zero, List.set_cons_succ]
    refine wpAnyH_done (by kernel_rfl) ?_ _
    refine phase_tail (by kernel_rfl) ?_
    simp only [List.drop_succ_cons, List.drop_zero]
    go_wp2_with fail
    refine (KG.out _ (l.set k X) ?_ (by rw [List.length_set, HN.out]; omega)).mono ?_
    · exact HP2.out.1
    rintro e w8 ⟨rfl, hq, ht⟩
    have HQ := Lib.hid (And.intro hq ht)
    obtain ⟨-, -, y2, -⟩ := hq.cells
    clear hq ht KG
    go_wp2_with fail
    go_ret2
    exact ⟨rfl, _, HQ.out.1, (Trip.drew HP2.out.2).trans HQ.out.2⟩
  · rw [if_neg hday] at HXX
    have hq1 := HP1.out.1
    rw [HXX.out] at hq1
    have HQ1 := Lib.hid hq1
    clear hq1
    go_wp2_with fail
    go_big_quiet (fail)
    rename_i nq
    obtain ⟨w2, hw2'⟩ : ∃ w2, w1.drewN nq = w2 := ⟨_, rfl⟩
    have hq2 : IsT w2 p tag base cur (.slice (some ⟨g, 0, none⟩) n c) (l.set k X) := by rw [← hw2']; exact HQ1.out
    have hT2 : Hid (Trip (TOf p (.slice (some ⟨g, 0, none⟩) n c)) w (TOf p (.slice (some ⟨g, 0, none⟩) n c)) w2) := Lib.hid (by rw [← hw2']; exact tripN HP1.out.2 nq)
    have KG2 := Lib.hid (KG.out _ _ hq2 (by rw [List.length_set, HN.out]; omega))
    rw [hw2']
    clear hw2' t1 t2 t3 t4 t5 hq2 KG
    go_wp2_with fail
    refine KG2.out.mono ?_
    rintro e w8 ⟨rfl, hq, ht⟩
    have HQ := Lib.hid (And.intro hq ht)
    obtain ⟨-, -, y2, -⟩ := hq.cells
    clear hq ht KG2
    go_wp2_with fail
    go_ret2
    exact ⟨rfl, _, HQ.out.1, hT2.out.trans HQ.out.2⟩
end Go.Proofs.YtandmngfajoinaaGreat

namespace Go.Proofs.YtandmngfajoinaaGreat
open Go.RowKit

/-- Who runs: Cur, if it is there and the least one is not too far behind it; else the least one. -/
def GoesOn (l : List TI) (cur : Int) (x : TI) (c : Int) : Prop :=
  (atT cur l 0 = -1 ∧ c = x.1) ∨ ∃ (k : Nat) (y : TI), atT cur l 0 = ((k : Nat) : Int) ∧ l[k]? = some y ∧ y.1 = cur ∧ c = if y.2.2.1 - 465585120 ≤ x.2.2.1 then cur else x.1

set_option maxRecDepth 100000 in
set_option maxHeartbeats 8000000 in
theorem rpick1_some (p : Nat) (base cur : Int) (v : Value) (l : List TI) (w : World) (h : IsT w p 1 base cur v l) (hl : l.length ≤ 1000000) (hne : l ≠ []) (hlo : ∀ y ∈ l, -4000000000000000000 ≤ y.2.2.1 ∧ y.2.2.1 ≤ 4000000000000000000) :
    Calls Tryz.prog 18 #[.pointer (some ⟨p, 0, none⟩)] w fun e w' => ∃ b x c, FirstT l b x ∧ GoesOn l cur x c ∧ e = .returned (.tuple #[.int .i64 c, .bool true]) ∧ RPost p 1 v base c l w w' := by
  obtain ⟨n, hn⟩ : ∃ n, l.length = n := ⟨_, rfl⟩
  have hn0 : 0 < n := by rw [← hn]; exact List.length_pos_iff.2 hne
  obtain ⟨c0, c1, c2, c3⟩ := h.cells
  have f2 := h.free 2
  have HS := Lib.hid (BestAt.start (l := l) (by omega))
  have HN := Lib.hid hn
  have HH := Lib.hid h
  have HLO := Lib.hid hlo
  have HNE := Lib.hid hl
  obtain ⟨A, c, rfl⟩ := h.2.1.form
  rw [hn] at c3 hl
  have hnz : ((n : Int) == 0) = false := by simp; omega
  clear h hne hn hlo
  go_enter Tryz.func18, Tryz.ntmps18
  go_wp2_with fail
  go_loopw [4, 6, 7, 8] (fun fb sm al iv wr => ∃ (i b q : Nat) (s a : Int), iv = .int .i64 i ∧ fb = .int .i64 b ∧ sm = .int .i64 s ∧ al = .int .i64 a ∧ i ≤ n ∧ b < n ∧ Hid (BestAt l i b) ∧ wr = w.drewN q) (fun _ _ _ iv _ => n - (intOf iv).toNat)
  case atStart => exact ⟨0, 0, 0, 0, 0, rfl, rfl, rfl, rfl, by omega, hn0, HS, rfl⟩
  case round =>
    clear HS
    obtain ⟨i, b, q, s, a, rfl, rfl, rfl, rfl, hi, hb, HB, rfl⟩ := hrel
    obtain ⟨x, hx⟩ : ∃ x, l[b]? = some x := ⟨_, List.getElem?_eq_getElem (by rw [HN.out]; exact hb)⟩
    obtain ⟨g, cc, hv, _, _, d0, -, d2, -⟩ := HH.out.2.1.get hx
    rw [HN.out] at hv
    injection hv with hv1 hv2 hv3
    subst hv1 hv3
    have HX := Lib.hid hx
    clear hx hv2
    have hb0 : (0 : Int) ≤ (b : Int) := by omega
    have hbn : (b : Int) < (n : Int) := by omega
    by_cases hlt : i < n
    · obtain ⟨y, hy⟩ : ∃ y, l[i]? = some y := ⟨_, List.getElem?_eq_getElem (by rw [HN.out]; exact hlt)⟩
      obtain ⟨g', cc', hv, _, _, t0, t1, t2, t3⟩ := HH.out.2.1.get hy
      rw [HN.out] at hv
      injection hv with hv1 hv2 hv3
      obtain rfl : g = g' := by injection hv1 with hv1; injection hv1
      have HY := Lib.hid hy
      have hin : (i : Int) < (n : Int) := by omega
      clear hy hv1 hv2 hv3 t0 t3
      by_cases hc : y.2.2.1 < x.2.2.1
      · have HNX := Lib.hid (HB.out.take HX.out HY.out hc)
        obtain ⟨x0, x1, xv, x3⟩ := x
        obtain ⟨y0, y1, yv, y3⟩ := y
        simp only at d0 d2 t1 t2 hc
        go_wp2_with fail
        go_big_quiet (fail)
        go_wp2_with fail
        go_big_quiet (fail)
        go_wp2_with fail
        go_roundw
        case rel => exact ⟨i + 1, i, _, _, _, by go_num, rfl, rfl, rfl, by omega, hlt, HNX, rfl⟩
        case measure => simp [intOf]; omega
      · have HNX := Lib.hid (HB.out.skip HX.out HY.out hc)
        obtain ⟨x0, x1, xv, x3⟩ := x
        obtain ⟨y0, y1, yv, y3⟩ := y
        simp only at d0 d2 t1 t2 hc
        go_wp2_with fail
        go_big_quiet (fail)
        go_wp2_with fail
        go_big_quiet (fail)
        go_wp2_with fail
        go_roundw
        case rel => exact ⟨i + 1, b, _, _, _, by go_num, rfl, rfl, rfl, by omega, hb, HNX, rfl⟩
        case measure => simp [intOf]; omega
    · obtain rfl : i = n := by omega
      have hd := HB.out
      rw [← HN.out] at hd
      have HD := Lib.hid (hd.done HX.out)
      clear hd HB
      obtain ⟨w1, hw1⟩ : ∃ w1, w.drewN q = w1 := ⟨_, rfl⟩
      have hq1 : IsT w1 p 1 base cur (.slice (some ⟨g, 0, none⟩) l.length c) l := by rw [← hw1]; exact HH.out
      have HT1 : Hid (Trip (TOf p (.slice (some ⟨g, 0, none⟩) l.length c)) w (TOf p (.slice (some ⟨g, 0, none⟩) l.length c)) w1) := Lib.hid (by rw [← hw1]; exact tripN HH.out.self q)
      have HQ1 := Lib.hid hq1
      obtain ⟨u0, u1, u2, u3⟩ := hq1.cells
      rw [HN.out] at u3
      have KA := Lib.hid (rat_c p 1 base cur cur _ l w1 hq1 HNE.out)
      rw [hw1]
      clear hw1 hq1 c0 c1 c2 c3 f2 d0 d2
      rcases atT_found cur l 0 with ⟨h1, h2⟩ | ⟨k, y, h1, h2, h3⟩
      · rw [h1] at KA
        have HF : Hid (GoesOn l cur x x.1) := Lib.hid (.inl ⟨h1, rfl⟩)
        clear h1 h2
        obtain ⟨g', c', hv, _, _, d0, -⟩ := HQ1.out.2.1.get HX.out
        injection hv with hv1 hv2 hv3
        obtain rfl : g = g' := by injection hv1 with hv1; injection hv1
        clear hv1 hv2 hv3
        generalize hx0 : x.1 = x0 at *
        go_wp2_with fail
        refine KA.out.mono ?_; rintro e w' ⟨rfl, rfl⟩
        clear KA
        go_wp2_with fail
        go_big_quiet (fail)
        obtain ⟨w2, hw2⟩ : ∃ w2, w1.drewN nq = w2 := ⟨_, rfl⟩
        have hq2 : IsT w2 p 1 base cur (.slice (some ⟨g, 0, none⟩) l.length c) l := by rw [← hw2]; exact HQ1.out
        have HT2 : Hid (Trip (TOf p (.slice (some ⟨g, 0, none⟩) l.length c)) w (TOf p (.slice (some ⟨g, 0, none⟩) l.length c)) w2) := Lib.hid (by rw [← hw2]; exact tripN HT1.out nq)
        obtain ⟨s0, s1, s2, s3⟩ := hq2.cells
        rw [HN.out] at s3
        have e0 : w2.cell? ⟨g, b * 4, none⟩ = some (.int .i64 x0) := by rw [← hw2]; exact d0
        have g2 := hq2.free 2
        have pst := hq2.setC x0
        have v2 := pst.1.cells.2.2.1
        have POST := Lib.hid pst
        rw [hw2]
        clear hw2 hq2 pst u0 u1 u2 u3 d0
        go_wp2_with fail
        go_ret2
        exact ⟨_, _, _, HD.out, HF.out, rfl, _, POST.out.1, HT2.out.trans POST.out.2⟩
      · rw [Nat.zero_add] at h1
        rw [h1] at KA
        subst h3
        have HLY := Lib.hid (HLO.out y (List.mem_of_getElem? h2))
        obtain ⟨g', c', hv, _, _, d0, d1, d2, d3⟩ := HQ1.out.2.1.get HX.out
        injection hv with hv1 hv2 hv3
        obtain rfl : g = g' := by injection hv1 with hv1; injection hv1
        obtain ⟨g', c'', hw, _, _, t0, t1, t2, t3⟩ := HQ1.out.2.1.get h2
        injection hw with hw1 hw2 hw3
        obtain rfl : g = g' := by injection hw1 with hw1; injection hw1
        have HY := Lib.hid (And.intro h1 h2)
        have hkn : k < i := by rw [← HN.out]; exact (List.getElem?_eq_some_iff.1 h2).1
        have hk0 : (0 : Int) ≤ (k : Int) := by omega
        have hkn' : (k : Int) < (i : Int) := by omega
        clear hv1 hv2 hv3 hw1 hw2 hw3 h1 h2 d1 d3 t0 t1 t3
        obtain ⟨x0, x1, xv, x3⟩ := x
        obtain ⟨y0, y1, yv, y3⟩ := y
        simp only at d0 d2 t2 HLY HQ1 KA u2 HY HX
        have hwr : IntKind.i64.wrap (yv - 465585120) = yv - 465585120 := by have := HLY.out; rw [IntKind.wrap_i64]; omega
        by_cases hf : yv - 465585120 ≤ xv
        · have HF : Hid (GoesOn l y0 (x0, x1, xv, x3) y0) := Lib.hid (.inr ⟨k, _, HY.out.1, HY.out.2, rfl, (if_pos hf).symm⟩)
          go_wp2_with fail
          refine KA.out.mono ?_; rintro e w' ⟨rfl, rfl⟩
          clear KA
          go_wp2_with fail
          go_big_quiet (fail)
          obtain ⟨w2, hw2⟩ : ∃ w2, w1.drewN nq = w2 := ⟨_, rfl⟩
          have hq2 : IsT w2 p 1 base y0 (.slice (some ⟨g, 0, none⟩) l.length c) l := by rw [← hw2]; exact HQ1.out
          have HT2 : Hid (Trip (TOf p (.slice (some ⟨g, 0, none⟩) l.length c)) w (TOf p (.slice (some ⟨g, 0, none⟩) l.length c)) w2) := Lib.hid (by rw [← hw2]; exact tripN HT1.out nq)
          obtain ⟨s0, s1, s2, s3⟩ := hq2.cells
          rw [HN.out] at s3
          rw [hw2]
          have HQ2 := Lib.hid hq2
          clear hw2 hq2 u0 u1 u2 u3
          go_wp2_with fail
          go_ret2
          exact ⟨b, x0, x1, xv, x3, HD.out, y0, HF.out, rfl, _, HQ2.out, HT2.out⟩
        · have HF : Hid (GoesOn l y0 (x0, x1, xv, x3) x0) := Lib.hid (.inr ⟨k, _, HY.out.1, HY.out.2, rfl, (if_neg hf).symm⟩)
          go_wp2_with fail
          refine KA.out.mono ?_; rintro e w' ⟨rfl, rfl⟩
          clear KA
          go_wp2_with fail
          go_big_quiet (fail)
          obtain ⟨w2, hw2⟩ : ∃ w2, w1.drewN nq = w2 := ⟨_, rfl⟩
          have hq2 : IsT w2 p 1 base y0 (.slice (some ⟨g, 0, none⟩) l.length c) l := by rw [← hw2]; exact HQ1.out
          have HT2 : Hid (Trip (TOf p (.slice (some ⟨g, 0, none⟩) l.length c)) w (TOf p (.slice (some ⟨g, 0, none⟩) l.length c)) w2) := Lib.hid (by rw [← hw2]; exact tripN HT1.out nq)
          obtain ⟨s0, s1, s2, s3⟩ := hq2.cells
          rw [HN.out] at s3
          have e0 : w2.cell? ⟨g, b * 4, none⟩ = some (.int .i64 x0) := by rw [← hw2]; exact d0
          have g2 := hq2.free 2
          have pst := hq2.setC x0
          have v2 := pst.1.cells.2.2.1
          have POST := Lib.hid pst
          rw [hw2]
          clear hw2 hq2 pst u0 u1 u2 u3 d0
          go_wp2_with fail
          go_ret2
          exact ⟨b, x0, x1, xv, x3, HD.out, x0, HF.out, rfl, _, POST.out.1, HT2.out.trans POST.out.2⟩
end Go.Proofs.YtandmngfajoinaaGreat

namespace Go.Proofs.YtandmngfajoinaaGreat
open Go.RowKit

theorem info_fi : (Tryz.prog.info? 92).map (fun i => (i.zero, i.size, i.bytes)) = some (some (.agg #[.int .i64 0, .int .i64 0, .int .i64 0]), 3, 24) := by kernel_rfl
theorem encF_cells {w : World} {g : Nat} {t : TypeId} {x : RI} (h : w.heap[g]? = some (.cells #[.int .i64 x.1, .int .i64 x.2.1, .int .i64 x.2.2] t (0, 0))) : ∀ j u, (encR x)[j]? = some u → w.cell? ((⟨g, 0, none⟩ : Addr).add j) = some u := by
  intro j u hu
  have ha : (⟨g, 0, none⟩ : Addr).add j = ⟨g, j, none⟩ := by unfold Addr.add; split <;> simp_all
  rw [ha]
  simp [World.cell?, h]
  exact hu
theorem encF_one (x : RI) : ∀ u ∈ encR x, u.oneCell' = true := by
  intro u hu
  simp [encR] at hu
  rcases hu with rfl | rfl | rfl <;> rfl
theorem flatF_snoc (l : List RI) (x : RI) : flatR (l ++ [x]) = flatR l ++ encR x := by rw [flatR_append]; simp [flatR]
theorem cellB {w w' : World} {a : Addr} (h : w'.heap[a.block]? = w.heap[a.block]?) : w'.cell? a = w.cell? a := World.cell?_of_block (w := w) h
theorem take_snoc {l : List RI} {k : Nat} {x : RI} (h : l[k]? = some x) : l.take (k + 1) = l.take k ++ [x] := by rw [List.take_add_one, h]; rfl
theorem trow_own {w : World} {base : Nat} {e : TypeId} {v : Value} {l : List RI} (h : w.ownsRow base e 3 v l.length (flatR l)) : ∃ A c, v = .slice A l.length c ∧ TRow w A l := by
  rcases h.2 with ⟨h1, h2⟩ | ⟨g, cap, cur, h1, _⟩
  · have : l = [] := List.eq_nil_of_length_eq_zero h2
    subst this
    exact ⟨none, 0, h1, TRow.nil⟩
  · subst h1
    exact ⟨_, _, rfl, TRow.of_own h⟩

/-- A form of the reference's that is being made: the result's box, the form's, what it owns. -/
def AccAt (W : World) (B : Nat) (cur : Int) (v : Value) (xs : List RI) (wr : World) : Prop :=
  wr.heap[B + 1]? = some (.cells #[.int .i64 cur, v] 53 (0, 0)) ∧ wr.heap[B]? = some (.cells #[.int .i64 0, .slice none 0 0] 53 (0, 0)) ∧ wr.ownsRow (B + 2) 92 3 v xs.length (flatR xs) ∧ Below B W wr ∧ B + 2 ≤ wr.heap.size
theorem AccAt.next {W wr w5 : World} {B : Nat} {cur : Int} {v v' : Value} {xs : List RI} {y : RI} {o : Obj} (_hW : B ≤ W.heap.size) (h : AccAt W B cur v xs wr) (r1 : w5.ownsRow (B + 2) 92 3 v' (xs.length + 1) (flatR xs ++ encR y)) (r2 : ((wr.alloc o).drew).grownBy w5 v.ownBlock) :
    AccAt W B cur v' (xs ++ [y]) (w5.setCell ⟨B + 1, 1, none⟩ v') ∧ w5.cell? ⟨B + 1, 1, none⟩ = some v ∧ w5.frozen? ⟨B + 1, 1, none⟩ = false := by
  obtain ⟨h1, h2, h3, h4, h5⟩ := h
  have hv : ∀ g, v.ownBlock = some g → B + 2 ≤ g := fun g hg => (World.ownsRow.lt h3 g hg).1
  have hv' : ∀ g, v'.ownBlock = some g → B + 2 ≤ g := fun g hg => (World.ownsRow.lt r1 g hg).1
  have hsz : ((wr.alloc o).drew).heap.size = wr.heap.size + 1 := by show (wr.alloc o).heap.size = _; simp
  have hs5 : wr.heap.size + 1 ≤ w5.heap.size := by have := r2.size; omega
  have hk : ∀ k, k < B + 2 → w5.heap[k]? = wr.heap[k]? := fun k hlt => (r2.block k (by omega) (fun e => by have := hv k e.symm; omega)).trans (Below.heap_alloc wr o k (by omega))
  have e1 := (hk (B + 1) (by omega)).trans h1
  have hne : ∀ k, k ≠ B + 1 → (w5.setCell ⟨B + 1, 1, none⟩ v').heap[k]? = w5.heap[k]? := fun k hk => Below.heap_setCell w5 _ _ k hk
  have hss : (w5.setCell ⟨B + 1, 1, none⟩ v').heap.size = w5.heap.size := by simp [World.setCell]
  refine ⟨⟨set_heap e1 _, (hne B (by omega)).trans ((hk B (by omega)).trans h2), ?_, ⟨?_, ?_, ?_, by have := h4.size; omega, fun k hlt => (hne k (by omega)).trans ((hk k (by omega)).trans (h4.block k hlt))⟩, by omega⟩, by simp [World.cell?, e1], by simp [World.frozen?, e1]⟩
  · rw [List.length_append, List.length_singleton, flatF_snoc]
    exact own_keep r1 (fun g hg => hne g (by have := hv' g hg; omega))
  · exact r2.os.trans h4.os
  · exact r2.tape.trans h4.tape
  · exact r2.output.trans h4.output
/-- .. it is copied to the result's box. -/
theorem AccAt.done {W wr : World} {B : Nat} {cur : Int} {v : Value} {xs : List RI} (h : AccAt W B cur v xs wr) :
    ((wr.setCell ⟨B, 0, none⟩ (.int .i64 cur)).setCell ⟨B, 1, none⟩ v).heap[B]? = some (.cells #[.int .i64 cur, v] 53 (0, 0)) ∧ Below B W ((wr.setCell ⟨B, 0, none⟩ (.int .i64 cur)).setCell ⟨B, 1, none⟩ v) ∧ ((wr.setCell ⟨B, 0, none⟩ (.int .i64 cur)).setCell ⟨B, 1, none⟩ v).ownsRow (B + 2) 92 3 v xs.length (flatR xs) := by
  obtain ⟨h1, h2, h3, h4, h5⟩ := h
  have hv : ∀ g, v.ownBlock = some g → B + 2 ≤ g := fun g hg => (World.ownsRow.lt h3 g hg).1
  have hne : ∀ k, k ≠ B → ((wr.setCell ⟨B, 0, none⟩ (.int .i64 cur)).setCell ⟨B, 1, none⟩ v).heap[k]? = wr.heap[k]? := fun k hk => (Below.heap_setCell _ _ _ k hk).trans (Below.heap_setCell wr _ _ k hk)
  have hss : ((wr.setCell ⟨B, 0, none⟩ (.int .i64 cur)).setCell ⟨B, 1, none⟩ v).heap.size = wr.heap.size := by simp [World.setCell]
  refine ⟨set_heap (set_heap h2 _) _, ⟨h4.os, h4.tape, h4.output, by have := h4.size; omega, fun k hlt => (hne k (by omega)).trans (h4.block k hlt)⟩, own_keep h3 (fun g hg => hne g (by have := hv g hg; omega))⟩
theorem AccAt.cells {W wr : World} {B : Nat} {cur : Int} {v : Value} {xs : List RI} (h : AccAt W B cur v xs wr) : wr.cell? ⟨B + 1, 0, none⟩ = some (.int .i64 cur) ∧ wr.cell? ⟨B + 1, 1, none⟩ = some v ∧ wr.cell? ⟨B, 0, none⟩ = some (.int .i64 0) ∧ wr.cell? ⟨B, 1, none⟩ = some (.slice none 0 0) ∧ wr.frozen? ⟨B, 0, none⟩ = false ∧ wr.frozen? ⟨B, 1, none⟩ = false := by
  obtain ⟨h1, h2, _⟩ := h
  refine ⟨?_, ?_, ?_, ?_, ?_, ?_⟩ <;> simp [World.cell?, World.frozen?, h1, h2]
theorem AccAt.start {W : World} {B : Nat} (cur : Int) (hB : W.heap.size = B) : AccAt W B cur (.slice none 0 0) [] (((W.alloc (.cells #[.int .i64 0, .slice none 0 0] 53)).alloc (.cells #[.int .i64 cur, .slice none 0 0] 53))) := by
  subst hB
  exact ⟨heap_alloc2_new W _ _, heap_alloc2_old W _ _, World.ownsRow_nil _ _ _ _, ((Below.refl _ W).alloc (Nat.le_refl _) _).alloc (by simp) _, by simp⟩

def formT (base : Int) (l : List TI) : List RI := l.map (fun x => (x.1, x.2.1, base - x.2.2.1))
/-- A form comes back. -/
def FPost (cur : Int) (xs : List RI) (w : World) (e : Ending) (w' : World) : Prop := ∃ A c, e = .returned (.agg #[.int .i64 cur, .slice A xs.length c]) ∧ TRow w' A xs ∧ Below w.heap.size w w'
set_option linter.unusedSimpArgs false in
set_option maxRecDepth 100000 in
set_option maxHeartbeats 16000000 in
theorem rform_c (p : Nat) (tag base cur : Int) (v0 : Value) (l : List TI) (w : World) (h : IsT w p tag base cur v0 l) (hl : l.length ≤ 1000000) (hb1 : -4000000000000000000 ≤ base) (hb2 : base ≤ 4000000000000000000) (hv : ∀ x ∈ l, -4000000000000000000 ≤ x.2.2.1 ∧ x.2.2.1 ≤ 4000000000000000000) :
    Calls Tryz.prog 24 #[.pointer (some ⟨p, 0, none⟩)] w (FPost cur (formT base l) w) := by
  obtain ⟨n, hn⟩ : ∃ n, l.length = n := ⟨_, rfl⟩
  have HN := Lib.hid hn
  have HH := Lib.hid h
  have HV := Lib.hid hv
  have HS := Lib.hid (AccAt.start (W := w) cur rfl)
  have hpl := h.ltp
  obtain ⟨i0, hi, hz0, hz1, hz2⟩ := info_partsT info_fi
  obtain ⟨c0, c1, c2, c3⟩ := h.cells
  obtain ⟨A0, c, rfl⟩ := h.2.1.form
  rw [hn] at c3 hl
  clear h hv hn
  go_enter Tryz.func24, Tryz.ntmps24
  go_wp2_with fail
  go_loopw [4] (fun iv wr => ∃ (k : Nat) (v : Value), iv = .int .i64 k ∧ k ≤ n ∧ Hid (AccAt w w.heap.size cur v ((formT base l).take k) wr)) (fun iv _ => n - (intOf iv).toNat)
  case atStart => exact ⟨0, _, rfl, by omega, HS⟩
  case round =>
    clear HS c0 c1 c2 c3
    obtain ⟨k, v, rfl, hk, HA⟩ := hrel
    have hq := HH.out.below HA.out.2.2.2.1
    obtain ⟨c0, c1, c2, c3⟩ := hq.cells
    rw [HN.out] at c3
    obtain ⟨a0, a1, a2, a3, a4, a5⟩ := HA.out.cells
    by_cases hlt : k < n
    · obtain ⟨x, hx⟩ : ∃ x, l[k]? = some x := ⟨_, List.getElem?_eq_getElem (by rw [HN.out]; exact hlt)⟩
      obtain ⟨g, cc, hv, hgw, _, d0, d1, d2, -⟩ := hq.2.1.get hx
      rw [HN.out] at hv
      injection hv with hv1 hv2 hv3
      subst hv1 hv3
      have hvb := HV.out x (List.mem_of_getElem? hx)
      have hgn : g < w.heap.size := (World.ownsRow.lt HH.out.2.1 g rfl).2
      have hfx : (formT base l)[k]? = some (x.1, x.2.1, base - x.2.2.1) := by unfold formT; rw [List.getElem?_map, hx]; rfl
      have HT := Lib.hid (take_snoc hfx)
      have hlen : ((formT base l).take k).length = k := by
        rw [List.length_take]
        unfold formT
        rw [List.length_map, HN.out]
        omega
      have HLEN := Lib.hid hlen
      obtain ⟨x0, x1, xv, x3⟩ := x
      simp only at d0 d1 d2 hvb HT
      obtain ⟨hv1, hv2⟩ := hvb
      have hw1 : IntKind.i64.wrap (base - xv) = base - xv := by rw [IntKind.wrap_i64]; omega
      generalize (formT base l).take k = xs at *
      have hkm : (k : Int) < (n : Int) := by omega
      have hk0 : (0 : Int) ≤ (k : Int) := by omega
      clear hx hv2 hq hfx hlen
      have hsz := HA.out.2.2.2.2
      have hbs := HA.out.2.2.2.1.size
      have KEEP : Hid (∀ w2 : World, (∀ j, j < w.heap.size + 2 → w2.heap[j]? = wr.heap[j]?) → (fun w' => w'.cell? ⟨w.heap.size + 1, 1, none⟩ = some v ∧ w'.cell? ⟨p, 1, none⟩ = some (.int .i64 base) ∧ w'.cell? ⟨p, 3, none⟩ = some (.slice (some ⟨g, 0, none⟩) n c) ∧ w'.cell? ⟨g, k * 4, none⟩ = some (.int .i64 x0) ∧ w'.cell? ⟨g, k * 4 + 1, none⟩ = some (.int .i64 x1) ∧ w'.cell? ⟨g, k * 4 + 2, none⟩ = some (.int .i64 xv)) w2) := Lib.hid (fun w2 hs => ⟨(cellB (a := ⟨w.heap.size + 1, 1, none⟩) (hs _ (by show w.heap.size + 1 < _; omega))).trans a1, (cellB (a := ⟨p, 1, none⟩) (hs _ (by show p < _; omega))).trans c1, (cellB (a := ⟨p, 3, none⟩) (hs _ (by show p < _; omega))).trans c3, (cellB (a := ⟨g, k * 4, none⟩) (hs _ (by show g < _; omega))).trans d0, (cellB (a := ⟨g, k * 4 + 1, none⟩) (hs _ (by show g < _; omega))).trans d1, (cellB (a := ⟨g, k * 4 + 2, none⟩) (hs _ (by show g < _; omega))).trans d2⟩)
      have S0 := Lib.hid (KEEP.out wr.drew (fun _ _ => rfl))
      clear a0 a2 a3 a4 a5
      go_wp2_with fail
      refine wp_region_phase 34 (by kernel_rfl) (by kernel_rfl) (fun w' => w'.cell? ⟨w.heap.size + 1, 1, none⟩ = some v ∧ w'.cell? ⟨p, 1, none⟩ = some (.int .i64 base) ∧ w'.cell? ⟨p, 3, none⟩ = some (.slice (some ⟨g, 0, none⟩) n c) ∧ w'.cell? ⟨g, k * 4, none⟩ = some (.int .i64 x0) ∧ w'.cell? ⟨g, k * 4 + 1, none⟩ = some (.int .i64 x1) ∧ w'.cell? ⟨g, k * 4 + 2, none⟩ = some (.int .i64 xv)) ?_
      refine wpAnyH_take (i := 0) (v := .pointer (some ⟨w.heap.size + 1, 1, none⟩)) rfl (by kernel_rfl) (by kernel_rfl) (by kernel_rfl) (fun _ _ _ h => h) (Or.inl ⟨by rfl, ?_⟩) S0.out ?_
      · rintro w' ⟨s1, s2, s3, s4, s5, s6⟩; go_simp
      simp only [Act.put, List.setIfInBounds_toArray, List.set_cons_zero, List.set_cons_succ]
      refine wpAnyH_take (i := 1) (v := v) rfl (by kernel_rfl) (by kernel_rfl) (by kernel_rfl) (fun _ _ _ h => h) (Or.inl ⟨by rfl, ?_⟩) S0.out ?_
      · rintro w' ⟨s1, s2, s3, s4, s5, s6⟩; go_simp
      simp only [Act.put, List.setIfInBounds_toArray, List.set_cons_zero, List.set_cons_succ]
      refine wpAnyH_take (i := 2) (v := .pointer (some ⟨p, 0, none⟩)) rfl (by kernel_rfl) (by kernel_rfl) (by kernel_rfl) (fun _ _ _ h => h) (Or.inl ⟨by rfl, ?_⟩) S0.out ?_
      · rintro w' ⟨s1, s2, s3, s4, s5, s6⟩; go_simp
      simp only [Act.put, List.setIfInBounds_toArray, List.set_cons_zero, List.set_cons_succ]
      refine wpAnyH_take (i := 3) (v := .pointer (some ⟨p, 0, none⟩)) rfl (by kernel_rfl) (by kernel_rfl) (by kernel_rfl) (fun _ _ _ h => h) (Or.inl ⟨by rfl, ?_⟩) S0.out ?_
      · rintro w' ⟨s1, s2, s3, s4, s5, s6⟩; go_simp
      simp only [Act.put, List.setIfInBounds_toArray, List.set_cons_zero, List.set_cons_succ]
      refine wpAnyH_take (i := 4) (v := .pointer (some ⟨p, 3, none⟩)) rfl (by kernel_rfl) (by kernel_rfl) (by kernel_rfl) (fun _ _ _ h => h) (Or.inl ⟨by rfl, ?_⟩) S0.out ?_
      · rintro w' ⟨s1, s2, s3, s4, s5, s6⟩; go_simp
      simp only [Act.put, List.setIfInBounds_toArray, List.set_cons_zero, List.set_cons_succ]
      refine wpAnyH_take (i := 5) (v := .slice (some ⟨g, 0, none⟩) n c) rfl (by kernel_rfl) (by kernel_rfl) (by kernel_rfl) (fun _ _ _ h => h) (Or.inl ⟨by rfl, ?_⟩) S0.out ?_
      · rintro w' ⟨s1, s2, s3, s4, s5, s6⟩; go_simp
      simp only [Act.put, List.setIfInBounds_toArray, List.set_cons_zero, List.set_cons_succ]
      refine wpAnyH_take (i := 6) (v := .int .i64 k) rfl (by kernel_rfl) (by kernel_rfl) (by kernel_rfl) (fun _ _ _ h => h) (Or.inl ⟨by rfl, ?_⟩) S0.out ?_
      · rintro w' ⟨s1, s2, s3, s4, s5, s6⟩; go_simp
      simp only [Act.put, List.setIfInBounds_toArray, List.set_cons_zero, List.set_cons_succ]
      refine wpAnyH_take (i := 7) (v := .pointer (some ⟨g, k * 4, none⟩)) rfl (by kernel_rfl) (by kernel_rfl) (by kernel_rfl) (fun _ _ _ h => h) (Or.inl ⟨by rfl, ?_⟩) S0.out ?_
      · rintro w' ⟨s1, s2, s3, s4, s5, s6⟩; go_simp
      simp only [Act.put, List.setIfInBounds_toArray, List.set_cons_zero, List.set_cons_succ]
      refine wpAnyH_take (i := 8) (v := .pointer (some ⟨g, k * 4, none⟩)) rfl (by kernel_rfl) (by kernel_rfl) (by kernel_rfl) (fun _ _ _ h => h) (Or.inl ⟨by rfl, ?_⟩) S0.out ?_
      · rintro w' ⟨s1, s2, s3, s4, s5, s6⟩; go_simp
      simp only [Act.put, List.setIfInBounds_toArray, List.set_cons_zero, List.set_cons_succ]
      refine wpAnyH_take (i := 9) (v := .int .i64 x0) rfl (by kernel_rfl) (by kernel_rfl) (by kernel_rfl) (fun _ _ _ h => h) (Or.inl ⟨by rfl, ?_⟩) S0.out ?_
      · rintro w' ⟨s1, s2, s3, s4, s5, s6⟩; go_simp
      simp only [Act.put, List.setIfInBounds_toArray, List.set_cons_zero, List.set_cons_succ]
      refine wpAnyH_take (i := 10) (v := .pointer (some ⟨p, 0, none⟩)) rfl (by kernel_rfl) (by kernel_rfl) (by kernel_rfl) (fun _ _ _ h => h) (Or.inl ⟨by rfl, ?_⟩) S0.out ?_
      · rintro w' ⟨s1, s2, s3, s4, s5, s6⟩; go_simp
      simp only [Act.put, List.setIfInBounds_toArray, List.set_cons_zero, List.set_cons_succ]
      refine wpAnyH_take (i := 11) (v := .pointer (some ⟨p, 0, none⟩)) rfl (by kernel_rfl) (by kernel_rfl) (by kernel_rfl) (fun _ _ _ h => h) (Or.inl ⟨by rfl, ?_⟩) S0.out ?_
      · rintro w' ⟨s1, s2, s3, s4, s5, s6⟩; go_simp
      simp only [Act.put, List.setIfInBounds_toArray, List.set_cons_zero, List.set_cons_succ]
      refine wpAnyH_take (i := 12) (v := .pointer (some ⟨p, 3, none⟩)) rfl (by kernel_rfl) (by kernel_rfl) (by kernel_rfl) (fun _ _ _ h => h) (Or.inl ⟨by rfl, ?_⟩) S0.out ?_
      · rintro w' ⟨s1, s2, s3, s4, s5, s6⟩; go_simp
      simp only [Act.put, List.setIfInBounds_toArray, List.set_cons_zero, List.set_cons_succ]
      refine wpAnyH_take (i := 13) (v := .slice (some ⟨g, 0, none⟩) n c) rfl (by kernel_rfl) (by kernel_rfl) (by kernel_rfl) (fun _ _ _ h => h) (Or.inl ⟨by rfl, ?_⟩) S0.out ?_
      · rintro w' ⟨s1, s2, s3, s4, s5, s6⟩; go_simp
      simp only [Act.put, List.setIfInBounds_toArray, List.set_cons_zero, List.set_cons_succ]
      refine wpAnyH_take (i := 14) (v := .int .i64 k) rfl (by kernel_rfl) (by kernel_rfl) (by kernel_rfl) (fun _ _ _ h => h) (Or.inl ⟨by rfl, ?_⟩) S0.out ?_
      · rintro w' ⟨s1, s2, s3, s4, s5, s6⟩; go_simp
      simp only [Act.put, List.setIfInBounds_toArray, List.set_cons_zero, List.set_cons_succ]
      refine wpAnyH_take (i := 15) (v := .pointer (some ⟨g, k * 4, none⟩)) rfl (by kernel_rfl) (by kernel_rfl) (by kernel_rfl) (fun _ _ _ h => h) (Or.inl ⟨by rfl, ?_⟩) S0.out ?_
      · rintro w' ⟨s1, s2, s3, s4, s5, s6⟩; go_simp
      simp only [Act.put, List.setIfInBounds_toArray, List.set_cons_zero, List.set_cons_succ]
      refine wpAnyH_take (i := 16) (v := .pointer (some ⟨g, k * 4 + 1, none⟩)) rfl (by kernel_rfl) (by kernel_rfl) (by kernel_rfl) (fun _ _ _ h => h) (Or.inl ⟨by rfl, ?_⟩) S0.out ?_
      · rintro w' ⟨s1, s2, s3, s4, s5, s6⟩; go_simp
      simp only [Act.put, List.setIfInBounds_toArray, List.set_cons_zero, List.set_cons_succ]
      refine wpAnyH_take (i := 17) (v := .int .i64 x1) rfl (by kernel_rfl) (by kernel_rfl) (by kernel_rfl) (fun _ _ _ h => h) (Or.inl ⟨by rfl, ?_⟩) S0.out ?_
      · rintro w' ⟨s1, s2, s3, s4, s5, s6⟩; go_simp
      simp only [Act.put, List.setIfInBounds_toArray, List.set_cons_zero, List.set_cons_succ]
      refine wpAnyH_take (i := 18) (v := .pointer (some ⟨p, 0, none⟩)) rfl (by kernel_rfl) (by kernel_rfl) (by kernel_rfl) (fun _ _ _ h => h) (Or.inl ⟨by rfl, ?_⟩) S0.out ?_
      · rintro w' ⟨s1, s2, s3, s4, s5, s6⟩; go_simp
      simp only [Act.put, List.setIfInBounds_toArray, List.set_cons_zero, List.set_cons_succ]
      refine wpAnyH_take (i := 19) (v := .pointer (some ⟨p, 0, none⟩)) rfl (by kernel_rfl) (by kernel_rfl) (by kernel_rfl) (fun _ _ _ h => h) (Or.inl ⟨by rfl, ?_⟩) S0.out ?_
      · rintro w' ⟨s1, s2, s3, s4, s5, s6⟩; go_simp
      simp only [Act.put, List.setIfInBounds_toArray, List.set_cons_zero, List.set_cons_succ]
      refine wpAnyH_take (i := 20) (v := .pointer (some ⟨p, 1, none⟩)) rfl (by kernel_rfl) (by kernel_rfl) (by kernel_rfl) (fun _ _ _ h => h) (Or.inl ⟨by rfl, ?_⟩) S0.out ?_
      · rintro w' ⟨s1, s2, s3, s4, s5, s6⟩; go_simp
      simp only [Act.put, List.setIfInBounds_toArray, List.set_cons_zero, List.set_cons_succ]
      refine wpAnyH_take (i := 21) (v := .int .i64 base) rfl (by kernel_rfl) (by kernel_rfl) (by kernel_rfl) (fun _ _ _ h => h) (Or.inl ⟨by rfl, ?_⟩) S0.out ?_
      · rintro w' ⟨s1, s2, s3, s4, s5, s6⟩; go_simp
      simp only [Act.put, List.setIfInBounds_toArray, List.set_cons_zero, List.set_cons_succ]
      refine wpAnyH_take (i := 22) (v := .pointer (some ⟨p, 0, none⟩)) rfl (by kernel_rfl) (by kernel_rfl) (by kernel_rfl) (fun _ _ _ h => h) (Or.inl ⟨by rfl, ?_⟩) S0.out ?_
      · rintro w' ⟨s1, s2, s3, s4, s5, s6⟩; go_simp
      simp only [Act.put, List.setIfInBounds_toArray, List.set_cons_zero, List.set_cons_succ]
      refine wpAnyH_take (i := 23) (v := .pointer (some ⟨p, 0, none⟩)) rfl (by kernel_rfl) (by kernel_rfl) (by kernel_rfl) (fun _ _ _ h => h) (Or.inl ⟨by rfl, ?_⟩) S0.out ?_
      · rintro w' ⟨s1, s2, s3, s4, s5, s6⟩; go_simp
      simp only [Act.put, List.setIfInBounds_toArray, List.set_cons_zero, List.set_cons_succ]
      refine wpAnyH_take (i := 24) (v := .pointer (some ⟨p, 3, none⟩)) rfl (by kernel_rfl) (by kernel_rfl) (by kernel_rfl) (fun _ _ _ h => h) (Or.inl ⟨by rfl, ?_⟩) S0.out ?_
      · rintro w' ⟨s1, s2, s3, s4, s5, s6⟩; go_simp
      simp only [Act.put, List.setIfInBounds_toArray, List.set_cons_zero, List.set_cons_succ]
      refine wpAnyH_take (i := 25) (v := .slice (some ⟨g, 0, none⟩) n c) rfl (by kernel_rfl) (by kernel_rfl) (by kernel_rfl) (fun _ _ _ h => h) (Or.inl ⟨by rfl, ?_⟩) S0.out ?_
      · rintro w' ⟨s1, s2, s3, s4, s5, s6⟩; go_simp
      simp only [Act.put, List.setIfInBounds_toArray, List.set_cons_zero, List.set_cons_succ]
      refine wpAnyH_take (i := 26) (v := .int .i64 k) rfl (by kernel_rfl) (by kernel_rfl) (by kernel_rfl) (fun _ _ _ h => h) (Or.inl ⟨by rfl, ?_⟩) S0.out ?_
      · rintro w' ⟨s1, s2, s3, s4, s5, s6⟩; go_simp
      simp only [Act.put, List.setIfInBounds_toArray, List.set_cons_zero, List.set_cons_succ]
      refine wpAnyH_take (i := 27) (v := .pointer (some ⟨g, k * 4, none⟩)) rfl (by kernel_rfl) (by kernel_rfl) (by kernel_rfl) (fun _ _ _ h => h) (Or.inl ⟨by rfl, ?_⟩) S0.out ?_
      · rintro w' ⟨s1, s2, s3, s4, s5, s6⟩; go_simp
      simp only [Act.put, List.setIfInBounds_toArray, List.set_cons_zero, List.set_cons_succ]
      refine wpAnyH_take (i := 28) (v := .pointer (some ⟨g, k * 4 + 2, none⟩)) rfl (by kernel_rfl) (by kernel_rfl) (by kernel_rfl) (fun _ _ _ h => h) (Or.inl ⟨by rfl, ?_⟩) S0.out ?_
      · rintro w' ⟨s1, s2, s3, s4, s5, s6⟩; go_simp
      simp only [Act.put, List.setIfInBounds_toArray, List.set_cons_zero, List.set_cons_succ]
      refine wpAnyH_take (i := 29) (v := .int .i64 xv) rfl (by kernel_rfl) (by kernel_rfl) (by kernel_rfl) (fun _ _ _ h => h) (Or.inl ⟨by rfl, ?_⟩) S0.out ?_
      · rintro w' ⟨s1, s2, s3, s4, s5, s6⟩; go_simp
      simp only [Act.put, List.setIfInBounds_toArray, List.set_cons_zero, List.set_cons_succ]
      refine wpAnyH_take (i := 30) (v := .int .i64 (base - xv)) rfl (by kernel_rfl) (by kernel_rfl) (by kernel_rfl) (fun _ _ _ h => h) (Or.inl ⟨by rfl, ?_⟩) S0.out ?_
      · rintro w' ⟨s1, s2, s3, s4, s5, s6⟩; go_simp
      simp only [Act.put, List.setIfInBounds_toArray, List.set_cons_zero, List.set_cons_succ]
      refine wpAnyH_take (i := 31) (v := .agg #[.int .i64 x0, .int .i64 x1, .int .i64 (base - xv)]) rfl (by kernel_rfl) (by kernel_rfl) (by kernel_rfl) (fun _ _ _ h => h) (Or.inl ⟨by rfl, ?_⟩) S0.out ?_
      · rintro w' ⟨s1, s2, s3, s4, s5, s6⟩; go_simp
      simp only [Act.put, List.setIfInBounds_toArray, List.set_cons_zero, List.set_cons_succ]
      refine wpAnyH_ready (rs := [32]) (by kernel_rfl) (by simp) ?_
      refine AllReadyH.cons rfl (fun K hK => ?_) AllReadyH.nil
      go_simp
      have hsa : (wr.alloc (.cells #[.int .i64 x0, .int .i64 x1, .int .i64 (base - xv)] 92)).drew.heap.size = wr.heap.size + 1 := by show (wr.alloc _).heap.size = _; simp
      refine hK.out _ _ (KEEP.out _ (fun j hj => Below.heap_alloc wr _ j (by omega))) (fun _ => ?_)
      clear hK
      refine wpAnyH_ready (rs := [33]) (by kernel_rfl) (by simp) ?_
      refine AllReadyH.cons rfl (fun K hK => ?_) AllReadyH.nil
      obtain ⟨v', w5, hrun, r1, r2, r3⟩ := run_append_where (P := Tryz.prog) (wr.alloc (.cells #[.int .i64 x0, .int .i64 x1, .int .i64 (base - xv)] 92)).drew (w.heap.size + 2) 51 51 92 i0 (.agg #[.int .i64 0, .int .i64 0, .int .i64 0]) 3 24 Tryz.underlying51 hi hz0 hz1 hz2 rfl (by decide) v _ _ ((HA.out.2.2.1).alloc _) ⟨wr.heap.size, 0, none⟩ 1 1 (encR (x0, x1, base - xv)) rfl (encF_cells (World.alloc_heap_new wr _)) (encF_one _) (by have := HLEN.out; unfold maxLen; omega) (by have := HLEN.out; omega) (by omega)
      obtain ⟨A2, m2, rfl⟩ := row_form r1
      obtain ⟨hn1, hn2, hn3⟩ := HA.out.next (by omega) r1 r2
      have hvB : ∀ g, v.ownBlock = some g → w.heap.size + 2 ≤ g := fun g hg => (World.ownsRow.lt HA.out.2.2.1 g hg).1
      refine step_appN rfl _ _ _ _ rfl hrun rfl rfl ?_
      refine hK.out _ _ (KEEP.out _ (fun j hj => (r2.block j (by omega) (fun e => by have := hvB j e.symm; omega)).trans (Below.heap_alloc wr _ j (by omega)))) (fun _ => ?_)
      rw [← HT.out] at hn1
      have HNX := Lib.hid hn1
      clear hK hrun r1 r2 r3 hn1 hvB
      refine wpAnyH_done (by kernel_rfl) ?_ _
      refine phase_tail (by kernel_rfl) ?_
      simp only [List.drop_succ_cons, List.drop_zero]
      go_wp2_with fail
      go_roundw
      case rel => exact ⟨k + 1, _, by go_num, by omega, HNX⟩
      case measure => simp [intOf]; omega
    · obtain rfl : k = n := by omega
      have hall : (formT base l).take k = formT base l := List.take_of_length_le (by unfold formT; rw [List.length_map, HN.out]; omega)
      have ha := HA.out
      rw [hall] at ha
      obtain ⟨q1, q2, q3⟩ := ha.done
      obtain ⟨A2, m2, hv2, hT⟩ := trow_own q3
      subst hv2
      have Q1 := Lib.hid q1
      have Q2 := Lib.hid q2
      have QT := Lib.hid hT
      clear ha hall q1 q2 q3 hT
      go_wp2_with fail
      refine bodyPost_ret (res_box1 rfl _ w.heap.size _ _ rfl Q1.out Tryz.underlying53 rfl (by kernel_rfl)) rfl ?_
      exact ⟨A2, m2, rfl, QT.out, Q2.out⟩
end Go.Proofs.YtandmngfajoinaaGreat

namespace Go.Proofs.YtandmngfajoinaaGreat
open Go.RowKit

set_option linter.unusedSimpArgs false in
set_option maxRecDepth 100000 in
set_option maxHeartbeats 16000000 in
theorem own_c (f0 : Int) (A : Option Addr) (n c : Nat) (l : List RI) (w : World) (hn : l.length = n) (hl : n ≤ 1000000) (hr : TRow w A l) :
    Calls Tryz.prog 26 #[.agg #[.int .i64 f0, .slice A n c]] w (FPost f0 l w) := by
  have HN := Lib.hid hn
  have HR := Lib.hid hr
  have HB := Lib.hid ((Below.refl _ w).alloc (Nat.le_refl _) (.cells #[.int .i64 f0, .slice A n c] 47))
  have hX : (w.alloc (.cells #[.int .i64 f0, .slice A n c] 47)).heap[w.heap.size]? = some (.cells #[.int .i64 f0, .slice A n c] 47 (0, 0)) := World.alloc_heap_new w _
  have HX := Lib.hid hX
  have hsW : (w.alloc (.cells #[.int .i64 f0, .slice A n c] 47)).heap.size = w.heap.size + 1 := by simp
  have HSW := Lib.hid hsW
  have HS := Lib.hid (AccAt.start (W := w.alloc (.cells #[.int .i64 f0, .slice A n c] 47)) f0 hsW)
  obtain ⟨i0, hi, hz0, hz1, hz2⟩ := info_partsT info_fi
  clear hr hn hX hsW
  go_enter Tryz.func26, Tryz.ntmps26
  go_wp2_with fail
  go_loopw [4] (fun iv wr => ∃ (k : Nat) (v : Value), iv = .int .i64 k ∧ k ≤ n ∧ Hid (AccAt (w.alloc (.cells #[.int .i64 f0, .slice A n c] 47)) (w.heap.size + 1) f0 v (l.take k) wr)) (fun iv _ => n - (intOf iv).toNat)
  case atStart => exact ⟨0, _, rfl, by omega, HS⟩
  case round =>
    clear HS
    obtain ⟨k, v, rfl, hk, HA⟩ := hrel
    have hbw : Below w.heap.size w wr := HB.out.trans (HA.out.2.2.2.1.mono (by omega))
    obtain ⟨a0, a1, a2, a3, a4, a5⟩ := HA.out.cells
    have hbx : wr.heap[w.heap.size]? = some (.cells #[.int .i64 f0, .slice A n c] 47 (0, 0)) := (HA.out.2.2.2.1.block _ (by omega)).trans HX.out
    have b1 : wr.cell? ⟨w.heap.size, 1, none⟩ = some (.slice A n c) := by simp [World.cell?, hbx]
    by_cases hlt : k < n
    · obtain ⟨x, hx⟩ : ∃ x, l[k]? = some x := ⟨_, List.getElem?_eq_getElem (by rw [HN.out]; exact hlt)⟩
      obtain ⟨ad, rfl, d0, d1, d2⟩ := (HR.out.below hbw (Nat.le_refl _)).at hx
      have hadl : (ad.add (k * 3)).block < w.heap.size := by
        obtain ⟨ad', he, e0, -, -⟩ := HR.out.at hx
        obtain rfl := Option.some.inj he
        exact cell_lt0 e0
      have HT := Lib.hid (take_snoc hx)
      have hlen : (l.take k).length = k := by rw [List.length_take, HN.out]; omega
      have HLEN := Lib.hid hlen
      obtain ⟨x0, x1, xv⟩ := x
      simp only at d0 d1 d2 HT
      generalize l.take k = xs at *
      have hkm : (k : Int) < (n : Int) := by omega
      have hk0 : (0 : Int) ≤ (k : Int) := by omega
      clear hx hlen hbx
      have hsz := HA.out.2.2.2.2
      have hbs := HA.out.2.2.2.1.size
      have KEEP : Hid (∀ w2 : World, (∀ j, j < (w.heap.size + 1) + 2 → w2.heap[j]? = wr.heap[j]?) → (fun w' => w'.cell? ⟨w.heap.size + 2, 1, none⟩ = some v ∧ w'.cell? ⟨w.heap.size, 1, none⟩ = some (.slice (some ad) n c) ∧ w'.cell? (ad.add (k * 3)) = some (.int .i64 x0) ∧ w'.cell? ⟨(ad.add (k * 3)).block, (ad.add (k * 3)).off + 1, none⟩ = some (.int .i64 x1) ∧ w'.cell? ⟨(ad.add (k * 3)).block, (ad.add (k * 3)).off + 2, none⟩ = some (.int .i64 xv)) w2) := Lib.hid (fun w2 hs => ⟨(cellB (a := ⟨w.heap.size + 2, 1, none⟩) (hs _ (by show w.heap.size + 2 < _; omega))).trans a1, (cellB (a := ⟨w.heap.size, 1, none⟩) (hs _ (by show w.heap.size < _; omega))).trans b1, (cellB (hs _ (by omega))).trans d0, (cellB (a := ⟨(ad.add (k * 3)).block, (ad.add (k * 3)).off + 1, none⟩) (hs _ (by show (ad.add (k * 3)).block < _; omega))).trans d1, (cellB (a := ⟨(ad.add (k * 3)).block, (ad.add (k * 3)).off + 2, none⟩) (hs _ (by show (ad.add (k * 3)).block < _; omega))).trans d2⟩)
      have S0 := Lib.hid (KEEP.out wr.drew (fun _ _ => rfl))
      clear a0 a2 a3 a4 a5 hbw
      go_wp2_with fail
      refine wp_region_phase 23 (by kernel_rfl) (by kernel_rfl) (fun w' => w'.cell? ⟨w.heap.size + 2, 1, none⟩ = some v ∧ w'.cell? ⟨w.heap.size, 1, none⟩ = some (.slice (some ad) n c) ∧ w'.cell? (ad.add (k * 3)) = some (.int .i64 x0) ∧ w'.cell? ⟨(ad.add (k * 3)).block, (ad.add (k * 3)).off + 1, none⟩ = some (.int .i64 x1) ∧ w'.cell? ⟨(ad.add (k * 3)).block, (ad.add (k * 3)).off + 2, none⟩ = some (.int .i64 xv)) ?_
      refine wpAnyH_take (i := 0) (v := .pointer (some ⟨w.heap.size + 2, 1, none⟩)) rfl (by kernel_rfl) (by kernel_rfl) (by kernel_rfl) (fun _ _ _ h => h) (Or.inl ⟨by rfl, ?_⟩) S0.out ?_
      · rintro w' ⟨s1, s2, s3, s4, s5⟩; go_simp
      simp only [Act.put, List.setIfInBounds_toArray, List.set_cons_zero, List.set_cons_succ]
      refine wpAnyH_take (i := 1) (v := v) rfl (by kernel_rfl) (by kernel_rfl) (by kernel_rfl) (fun _ _ _ h => h) (Or.inl ⟨by rfl, ?_⟩) S0.out ?_
      · rintro w' ⟨s1, s2, s3, s4, s5⟩; go_simp
      simp only [Act.put, List.setIfInBounds_toArray, List.set_cons_zero, List.set_cons_succ]
      refine wpAnyH_take (i := 2) (v := .pointer (some ⟨w.heap.size, 1, none⟩)) rfl (by kernel_rfl) (by kernel_rfl) (by kernel_rfl) (fun _ _ _ h => h) (Or.inl ⟨by rfl, ?_⟩) S0.out ?_
      · rintro w' ⟨s1, s2, s3, s4, s5⟩; go_simp
      simp only [Act.put, List.setIfInBounds_toArray, List.set_cons_zero, List.set_cons_succ]
      refine wpAnyH_take (i := 3) (v := .slice (some ad) n c) rfl (by kernel_rfl) (by kernel_rfl) (by kernel_rfl) (fun _ _ _ h => h) (Or.inl ⟨by rfl, ?_⟩) S0.out ?_
      · rintro w' ⟨s1, s2, s3, s4, s5⟩; go_simp
      simp only [Act.put, List.setIfInBounds_toArray, List.set_cons_zero, List.set_cons_succ]
      refine wpAnyH_take (i := 4) (v := .int .i64 k) rfl (by kernel_rfl) (by kernel_rfl) (by kernel_rfl) (fun _ _ _ h => h) (Or.inl ⟨by rfl, ?_⟩) S0.out ?_
      · rintro w' ⟨s1, s2, s3, s4, s5⟩; go_simp
      simp only [Act.put, List.setIfInBounds_toArray, List.set_cons_zero, List.set_cons_succ]
      refine wpAnyH_take (i := 5) (v := .pointer (some (ad.add (k * 3)))) rfl (by kernel_rfl) (by kernel_rfl) (by kernel_rfl) (fun _ _ _ h => h) (Or.inl ⟨by rfl, ?_⟩) S0.out ?_
      · rintro w' ⟨s1, s2, s3, s4, s5⟩; go_simp
      simp only [Act.put, List.setIfInBounds_toArray, List.set_cons_zero, List.set_cons_succ]
      refine wpAnyH_take (i := 6) (v := .pointer (some (ad.add (k * 3)))) rfl (by kernel_rfl) (by kernel_rfl) (by kernel_rfl) (fun _ _ _ h => h) (Or.inl ⟨by rfl, ?_⟩) S0.out ?_
      · rintro w' ⟨s1, s2, s3, s4, s5⟩; go_simp
      simp only [Act.put, List.setIfInBounds_toArray, List.set_cons_zero, List.set_cons_succ]
      refine wpAnyH_take (i := 7) (v := .int .i64 x0) rfl (by kernel_rfl) (by kernel_rfl) (by kernel_rfl) (fun _ _ _ h => h) (Or.inl ⟨by rfl, ?_⟩) S0.out ?_
      · rintro w' ⟨s1, s2, s3, s4, s5⟩; go_simp
      simp only [Act.put, List.setIfInBounds_toArray, List.set_cons_zero, List.set_cons_succ]
      refine wpAnyH_take (i := 8) (v := .pointer (some ⟨w.heap.size, 1, none⟩)) rfl (by kernel_rfl) (by kernel_rfl) (by kernel_rfl) (fun _ _ _ h => h) (Or.inl ⟨by rfl, ?_⟩) S0.out ?_
      · rintro w' ⟨s1, s2, s3, s4, s5⟩; go_simp
      simp only [Act.put, List.setIfInBounds_toArray, List.set_cons_zero, List.set_cons_succ]
      refine wpAnyH_take (i := 9) (v := .slice (some ad) n c) rfl (by kernel_rfl) (by kernel_rfl) (by kernel_rfl) (fun _ _ _ h => h) (Or.inl ⟨by rfl, ?_⟩) S0.out ?_
      · rintro w' ⟨s1, s2, s3, s4, s5⟩; go_simp
      simp only [Act.put, List.setIfInBounds_toArray, List.set_cons_zero, List.set_cons_succ]
      refine wpAnyH_take (i := 10) (v := .int .i64 k) rfl (by kernel_rfl) (by kernel_rfl) (by kernel_rfl) (fun _ _ _ h => h) (Or.inl ⟨by rfl, ?_⟩) S0.out ?_
      · rintro w' ⟨s1, s2, s3, s4, s5⟩; go_simp
      simp only [Act.put, List.setIfInBounds_toArray, List.set_cons_zero, List.set_cons_succ]
      refine wpAnyH_take (i := 11) (v := .pointer (some (ad.add (k * 3)))) rfl (by kernel_rfl) (by kernel_rfl) (by kernel_rfl) (fun _ _ _ h => h) (Or.inl ⟨by rfl, ?_⟩) S0.out ?_
      · rintro w' ⟨s1, s2, s3, s4, s5⟩; go_simp
      simp only [Act.put, List.setIfInBounds_toArray, List.set_cons_zero, List.set_cons_succ]
      refine wpAnyH_take (i := 12) (v := .pointer (some ⟨(ad.add (k * 3)).block, (ad.add (k * 3)).off + 1, none⟩)) rfl (by kernel_rfl) (by kernel_rfl) (by kernel_rfl) (fun _ _ _ h => h) (Or.inl ⟨by rfl, ?_⟩) S0.out ?_
      · rintro w' ⟨s1, s2, s3, s4, s5⟩; go_simp
      simp only [Act.put, List.setIfInBounds_toArray, List.set_cons_zero, List.set_cons_succ]
      refine wpAnyH_take (i := 13) (v := .int .i64 x1) rfl (by kernel_rfl) (by kernel_rfl) (by kernel_rfl) (fun _ _ _ h => h) (Or.inl ⟨by rfl, ?_⟩) S0.out ?_
      · rintro w' ⟨s1, s2, s3, s4, s5⟩; go_simp
      simp only [Act.put, List.setIfInBounds_toArray, List.set_cons_zero, List.set_cons_succ]
      refine wpAnyH_take (i := 14) (v := .pointer (some ⟨w.heap.size, 1, none⟩)) rfl (by kernel_rfl) (by kernel_rfl) (by kernel_rfl) (fun _ _ _ h => h) (Or.inl ⟨by rfl, ?_⟩) S0.out ?_
      · rintro w' ⟨s1, s2, s3, s4, s5⟩; go_simp
      simp only [Act.put, List.setIfInBounds_toArray, List.set_cons_zero, List.set_cons_succ]
      refine wpAnyH_take (i := 15) (v := .slice (some ad) n c) rfl (by kernel_rfl) (by kernel_rfl) (by kernel_rfl) (fun _ _ _ h => h) (Or.inl ⟨by rfl, ?_⟩) S0.out ?_
      · rintro w' ⟨s1, s2, s3, s4, s5⟩; go_simp
      simp only [Act.put, List.setIfInBounds_toArray, List.set_cons_zero, List.set_cons_succ]
      refine wpAnyH_take (i := 16) (v := .int .i64 k) rfl (by kernel_rfl) (by kernel_rfl) (by kernel_rfl) (fun _ _ _ h => h) (Or.inl ⟨by rfl, ?_⟩) S0.out ?_
      · rintro w' ⟨s1, s2, s3, s4, s5⟩; go_simp
      simp only [Act.put, List.setIfInBounds_toArray, List.set_cons_zero, List.set_cons_succ]
      refine wpAnyH_take (i := 17) (v := .pointer (some (ad.add (k * 3)))) rfl (by kernel_rfl) (by kernel_rfl) (by kernel_rfl) (fun _ _ _ h => h) (Or.inl ⟨by rfl, ?_⟩) S0.out ?_
      · rintro w' ⟨s1, s2, s3, s4, s5⟩; go_simp
      simp only [Act.put, List.setIfInBounds_toArray, List.set_cons_zero, List.set_cons_succ]
      refine wpAnyH_take (i := 18) (v := .pointer (some ⟨(ad.add (k * 3)).block, (ad.add (k * 3)).off + 2, none⟩)) rfl (by kernel_rfl) (by kernel_rfl) (by kernel_rfl) (fun _ _ _ h => h) (Or.inl ⟨by rfl, ?_⟩) S0.out ?_
      · rintro w' ⟨s1, s2, s3, s4, s5⟩; go_simp
      simp only [Act.put, List.setIfInBounds_toArray, List.set_cons_zero, List.set_cons_succ]
      refine wpAnyH_take (i := 19) (v := .int .i64 xv) rfl (by kernel_rfl) (by kernel_rfl) (by kernel_rfl) (fun _ _ _ h => h) (Or.inl ⟨by rfl, ?_⟩) S0.out ?_
      · rintro w' ⟨s1, s2, s3, s4, s5⟩; go_simp
      simp only [Act.put, List.setIfInBounds_toArray, List.set_cons_zero, List.set_cons_succ]
      refine wpAnyH_take (i := 20) (v := .agg #[.int .i64 x0, .int .i64 x1, .int .i64 xv]) rfl (by kernel_rfl) (by kernel_rfl) (by kernel_rfl) (fun _ _ _ h => h) (Or.inl ⟨by rfl, ?_⟩) S0.out ?_
      · rintro w' ⟨s1, s2, s3, s4, s5⟩; go_simp
      simp only [Act.put, List.setIfInBounds_toArray, List.set_cons_zero, List.set_cons_succ]
      refine wpAnyH_ready (rs := [21]) (by kernel_rfl) (by simp) ?_
      refine AllReadyH.cons rfl (fun K hK => ?_) AllReadyH.nil
      go_simp
      have hsa : (wr.alloc (.cells #[.int .i64 x0, .int .i64 x1, .int .i64 xv] 92)).drew.heap.size = wr.heap.size + 1 := by show (wr.alloc _).heap.size = _; simp
      refine hK.out _ _ (KEEP.out _ (fun j hj => Below.heap_alloc wr _ j (by omega))) (fun _ => ?_)
      clear hK
      refine wpAnyH_ready (rs := [22]) (by kernel_rfl) (by simp) ?_
      refine AllReadyH.cons rfl (fun K hK => ?_) AllReadyH.nil
      obtain ⟨v', w5, hrun, r1, r2, r3⟩ := run_append_where (P := Tryz.prog) (wr.alloc (.cells #[.int .i64 x0, .int .i64 x1, .int .i64 xv] 92)).drew ((w.heap.size + 1) + 2) 51 51 92 i0 (.agg #[.int .i64 0, .int .i64 0, .int .i64 0]) 3 24 Tryz.underlying51 hi hz0 hz1 hz2 rfl (by decide) v _ _ ((HA.out.2.2.1).alloc _) ⟨wr.heap.size, 0, none⟩ 1 1 (encR (x0, x1, xv)) rfl (encF_cells (World.alloc_heap_new wr _)) (encF_one _) (by have := HLEN.out; unfold maxLen; omega) (by have := HLEN.out; omega) (by omega)
      obtain ⟨A2, m2, rfl⟩ := row_form r1
      obtain ⟨hn1, hn2, hn3⟩ := HA.out.next (by have := HSW.out; omega) r1 r2
      have hvB : ∀ g, v.ownBlock = some g → (w.heap.size + 1) + 2 ≤ g := fun g hg => (World.ownsRow.lt HA.out.2.2.1 g hg).1
      refine step_appN rfl _ _ _ _ rfl hrun rfl rfl ?_
      refine hK.out _ _ (KEEP.out _ (fun j hj => (r2.block j (by omega) (fun e => by have := hvB j e.symm; omega)).trans (Below.heap_alloc wr _ j (by omega)))) (fun _ => ?_)
      rw [← HT.out] at hn1
      have HNX := Lib.hid hn1
      clear hK hrun r1 r2 r3 hn1 hvB
      refine wpAnyH_done (by kernel_rfl) ?_ _
      refine phase_tail (by kernel_rfl) ?_
      simp only [List.drop_succ_cons, List.drop_zero]
      go_wp2_with fail
      go_roundw
      case rel => exact ⟨k + 1, _, by go_num, by omega, HNX⟩
      case measure => simp [intOf]; omega
    · obtain rfl : k = n := by omega
      have hall : l.take k = l := List.take_of_length_le (by rw [HN.out]; omega)
      have ha := HA.out
      rw [hall] at ha
      obtain ⟨q1, q2, q3⟩ := ha.done
      obtain ⟨A2, m2, hv2, hT⟩ := trow_own q3
      subst hv2
      have Q1 := Lib.hid q1
      have Q2 := Lib.hid q2
      have QT := Lib.hid hT
      clear ha hall q1 q2 q3 hT
      go_wp2_with fail
      refine bodyPost_ret (res_box1 rfl _ (w.heap.size + 1) _ _ rfl Q1.out Tryz.underlying53 rfl (by kernel_rfl)) rfl ?_
      exact ⟨A2, m2, rfl, QT.out, HB.out.trans (Q2.out.mono (by omega))⟩
end Go.Proofs.YtandmngfajoinaaGreat

namespace Go.Proofs.YtandmngfajoinaaGreat
open Go.RowKit

set_option maxRecDepth 100000 in
set_option maxHeartbeats 2000000 in
theorem rnew_c (tag base : Int) (w : World) (ht : tag = 0 ∨ tag = 1 ∨ tag = 2) (h1 : -1152921504606846976 ≤ base) (h2 : base ≤ 1152921504606846976) :
    Calls Tryz.prog 10 #[.int .i64 tag, .int .i64 base] w fun e w' => e = .returned (.tuple #[.pointer (some ⟨w.heap.size, 0, none⟩), .int .i64 0]) ∧ w' = w.alloc (.cells #[.int .i64 tag, .int .i64 base, .int .i64 (-1), .slice none 0 0] 57) := by
  have h3 : 0 ≤ tag := by omega
  have h4 : tag ≤ 2 := by omega
  clear ht
  go_enter Tryz.func10, Tryz.ntmps10
  go_wp2_with fail
  go_ret2
  exact ⟨rfl, rfl⟩
set_option maxRecDepth 100000 in
set_option maxHeartbeats 2000000 in
theorem rnew_no (tag base : Int) (w : World) (ht : tag = 0 ∨ tag = 1 ∨ tag = 2) (h : base < -1152921504606846976 ∨ 1152921504606846976 < base) :
    Calls Tryz.prog 10 #[.int .i64 tag, .int .i64 base] w fun e w' => e = .returned (.tuple #[.pointer none, .int .i64 1]) ∧ w = w' := by
  have h3 : 0 ≤ tag := by omega
  have h4 : tag ≤ 2 := by omega
  clear ht
  by_cases h1 : 1152921504606846976 < base
  · clear h
    go_enter Tryz.func10, Tryz.ntmps10
    go_wp2_with fail
    go_ret2
    exact ⟨rfl, rfl⟩
  · have h2 : base < -1152921504606846976 := by omega
    clear h
    go_enter Tryz.func10, Tryz.ntmps10
    go_wp2_with fail
    go_ret2
    exact ⟨rfl, rfl⟩
theorem rnew_is {w : World} (tag base : Int) : IsT (w.alloc (.cells #[.int .i64 tag, .int .i64 base, .int .i64 (-1), .slice none 0 0] 57)) w.heap.size tag base (-1) (.slice none 0 0) [] :=
  ⟨World.alloc_heap_new w _, World.ownsRow_nil _ _ _ _, by simp [Value.ownBlock]⟩

set_option maxRecDepth 100000 in
set_option maxHeartbeats 4000000 in
theorem rsame_c (f0 : Int) (A B : Option Addr) (n ca cb : Nat) (l : List RI) (w : World) (hn : l.length = n) (hl : n ≤ 1000000) (hr : TRow w A l) (hs : TRow w B l) :
    Calls Tryz.prog 25 #[.agg #[.int .i64 f0, .slice A n ca], .agg #[.int .i64 f0, .slice B n cb]] w (Ret10 (.bool true) w) := by
  obtain ⟨W, hW⟩ : ∃ W, (w.alloc (.cells #[.int .i64 f0, .slice A n ca] 53)).alloc (.cells #[.int .i64 f0, .slice B n cb] 53) = W := ⟨_, rfl⟩
  have hb : Below w.heap.size w W := by rw [← hW]; exact ((Below.refl _ w).alloc (Nat.le_refl _) _).alloc (by simp) _
  have hA : W.heap[w.heap.size]? = some (.cells #[.int .i64 f0, .slice A n ca] 53 (0, 0)) := by rw [← hW]; exact heap_alloc2_old w _ _
  have hB : W.heap[w.heap.size + 1]? = some (.cells #[.int .i64 f0, .slice B n cb] 53 (0, 0)) := by rw [← hW]; exact heap_alloc2_new w _ _
  have a0 : W.cell? ⟨w.heap.size, 0, none⟩ = some (.int .i64 f0) := by simp [World.cell?, hA]
  have a1 : W.cell? ⟨w.heap.size, 1, none⟩ = some (.slice A n ca) := by simp [World.cell?, hA]
  have b0 : W.cell? ⟨w.heap.size + 1, 0, none⟩ = some (.int .i64 f0) := by simp [World.cell?, hB]
  have b1 : W.cell? ⟨w.heap.size + 1, 1, none⟩ = some (.slice B n cb) := by simp [World.cell?, hB]
  have HR := Lib.hid (hr.below hb (Nat.le_refl _))
  have HS := Lib.hid (hs.below hb (Nat.le_refl _))
  have HB := Lib.hid hb
  have HN := Lib.hid hn
  have HW := Lib.hid hW
  clear hr hs hb hn hW hA hB
  go_enter Tryz.func25, Tryz.ntmps25
  go_wp2_with fail
  rw [HW.out]
  go_wp2_with fail
  go_loopw [5] (fun iv wr => ∃ k q : Nat, iv = .int .i64 k ∧ k ≤ n ∧ wr = W.drewN q) (fun iv _ => n - (intOf iv).toNat)
  case atStart => exact ⟨0, 0, rfl, by omega, rfl⟩
  case round =>
    obtain ⟨k, q, rfl, hk, rfl⟩ := hrel
    by_cases hlt : k < n
    · obtain ⟨x, hx⟩ : ∃ x, l[k]? = some x := ⟨_, List.getElem?_eq_getElem (by rw [HN.out]; exact hlt)⟩
      obtain ⟨ad, rfl, d0, d1, d2⟩ := HR.out.at hx
      obtain ⟨ae, rfl, t0, t1, t2⟩ := HS.out.at hx
      obtain ⟨x0, x1, x2⟩ := x
      simp only at d0 d1 d2 t0 t1 t2
      have hkm : (k : Int) < (n : Int) := by omega
      clear hx
      go_wp2_with fail
      go_big_quiet (fail)
      go_wp2_with fail
      go_roundw
      case rel => exact ⟨k + 1, _, by go_num, by omega, rfl⟩
      case measure => simp [intOf]; omega
    · obtain rfl : k = n := by omega
      go_wp2_with fail
      go_ret
      exact ⟨rfl, below_drewN HB.out _⟩
end Go.Proofs.YtandmngfajoinaaGreat

namespace Go.Proofs.YtandmngfajoinaaGreat
open Go.RowKit

/-- Within bounds. -/
def FitT (base : Int) (l : List TI) : Prop := ∀ x ∈ l, -2251799813685248 ≤ x.2.2.1 - base ∧ x.2.2.1 - base ≤ 2251799813685248 ∧ 1 ≤ x.2.1 ∧ x.2.1 ≤ 20
theorem mul_bd {d w M : Int} (h1 : -2251799813685248 ≤ d) (h2 : d ≤ 2251799813685248) (h3 : 0 ≤ w) (h4 : w ≤ M) : -(2251799813685248 * M) ≤ d * w ∧ d * w ≤ 2251799813685248 * M := by
  have a1 := Int.mul_le_mul_of_nonneg_right h2 h3
  have a2 := Int.mul_le_mul_of_nonneg_right h1 h3
  rw [Int.neg_mul] at a2
  omega
theorem FitT.bd {base : Int} : ∀ {l : List TI}, FitT base l → -(45035996273704960 * (l.length : Int)) ≤ sumT base l ∧ sumT base l ≤ 45035996273704960 * (l.length : Int) ∧ 0 ≤ allT l ∧ allT l ≤ 20 * (l.length : Int)
  | [], _ => by simp [sumT, allT]
  | x :: xs, h => by
    obtain ⟨h1, h2, h3, h4⟩ := h x (by simp)
    obtain ⟨i1, i2, i3, i4⟩ := FitT.bd (l := xs) (fun y hy => h y (by simp [hy]))
    have hm := mul_bd h1 h2 (by omega) h4
    rw [List.length_cons]
    unfold sumT allT
    omega
theorem FitT.take {base : Int} {l : List TI} (h : FitT base l) (i : Nat) : FitT base (l.take i) := fun x hx => h x (List.mem_of_mem_take hx)
theorem take_snoc' {l : List TI} {k : Nat} {x : TI} (h : l[k]? = some x) : l.take (k + 1) = l.take k ++ [x] := by rw [List.take_add_one, h]; rfl
/-- The first one with the earliest day among those of the first i that may; none. -/
def SoonAt (base : Int) (l : List TI) (i : Nat) (sn : Int) : Prop :=
  (sn = -1 ∧ ∀ j y, j < i → l[j]? = some y → ¬ mayT base l y) ∨
    ∃ (k : Nat) (x : TI), sn = (k : Int) ∧ k < i ∧ l[k]? = some x ∧ mayT base l x ∧ (∀ j y, j < i → l[j]? = some y → mayT base l y → x.2.2.2 ≤ y.2.2.2) ∧ ∀ j y, j < k → l[j]? = some y → mayT base l y → x.2.2.2 < y.2.2.2
/-- Who runs. -/
def SoonT (base : Int) (l : List TI) (x : TI) : Prop := ∃ k : Nat, l[k]? = some x ∧ mayT base l x ∧ (∀ y ∈ l, mayT base l y → x.2.2.2 ≤ y.2.2.2) ∧ ∀ j y, j < k → l[j]? = some y → mayT base l y → x.2.2.2 < y.2.2.2
theorem SoonAt.start (base : Int) (l : List TI) : SoonAt base l 0 (-1) := .inl ⟨rfl, fun j y hj => by omega⟩
theorem SoonAt.no {base : Int} {l : List TI} {i : Nat} {sn : Int} {y : TI} (h : SoonAt base l i sn) (hy : l[i]? = some y) (hn : ¬ mayT base l y) : SoonAt base l (i + 1) sn := by
  rcases h with ⟨h1, h2⟩ | ⟨k, x, h1, h2, h3, h4, h5, h6⟩
  · refine .inl ⟨h1, fun j z hj hz => ?_⟩
    by_cases e : j = i
    · subst e; rw [hy] at hz; obtain rfl := Option.some.inj hz; exact hn
    · exact h2 j z (by omega) hz
  · refine .inr ⟨k, x, h1, by omega, h3, h4, fun j z hj hz hm => ?_, h6⟩
    by_cases e : j = i
    · subst e; rw [hy] at hz; obtain rfl := Option.some.inj hz; exact absurd hm hn
    · exact h5 j z (by omega) hz hm
theorem SoonAt.first {base : Int} {l : List TI} {i : Nat} {y : TI} (h : SoonAt base l i (-1)) (hy : l[i]? = some y) (hm : mayT base l y) : SoonAt base l (i + 1) (i : Int) := by
  rcases h with ⟨_, h2⟩ | ⟨k, x, h1, _⟩
  · refine .inr ⟨i, y, rfl, by omega, hy, hm, fun j z hj hz hz' => ?_, fun j z hj hz hz' => absurd hz' (h2 j z hj hz)⟩
    by_cases e : j = i
    · subst e; rw [hy] at hz; obtain rfl := Option.some.inj hz; exact Int.le_refl _
    · exact absurd hz' (h2 j z (by omega) hz)
  · omega
theorem SoonAt.take {base : Int} {l : List TI} {i k : Nat} {x y : TI} (h : SoonAt base l i (k : Int)) (hx : l[k]? = some x) (hy : l[i]? = some y) (hm : mayT base l y) (hl : y.2.2.2 < x.2.2.2) : SoonAt base l (i + 1) (i : Int) := by
  rcases h with ⟨h1, _⟩ | ⟨k', x', h1, h2, h3, h4, h5, h6⟩
  · omega
  · obtain rfl : k = k' := by omega
    rw [hx] at h3
    obtain rfl := Option.some.inj h3
    refine .inr ⟨i, y, rfl, by omega, hy, hm, fun j z hj hz hz' => ?_, fun j z hj hz hz' => by have := h5 j z hj hz hz'; omega⟩
    by_cases e : j = i
    · subst e; rw [hy] at hz; obtain rfl := Option.some.inj hz; exact Int.le_refl _
    · have := h5 j z (by omega) hz hz'; omega
theorem SoonAt.keep {base : Int} {l : List TI} {i k : Nat} {x y : TI} (h : SoonAt base l i (k : Int)) (hx : l[k]? = some x) (hy : l[i]? = some y) (hl : ¬ y.2.2.2 < x.2.2.2) : SoonAt base l (i + 1) (k : Int) := by
  rcases h with ⟨h1, _⟩ | ⟨k', x', h1, h2, h3, h4, h5, h6⟩
  · omega
  · obtain rfl : k = k' := by omega
    rw [hx] at h3
    obtain rfl := Option.some.inj h3
    refine .inr ⟨k, x, rfl, by omega, hx, h4, fun j z hj hz hz' => ?_, h6⟩
    by_cases e : j = i
    · subst e; rw [hy] at hz; obtain rfl := Option.some.inj hz; omega
    · exact h5 j z (by omega) hz hz'
theorem SoonAt.done {base : Int} {l : List TI} {sn : Int} (h : SoonAt base l l.length sn) (hf : FitT base l) (hne : l ≠ []) : ∃ (k : Nat) (x : TI), sn = (k : Int) ∧ l[k]? = some x ∧ SoonT base l x := by
  rcases h with ⟨_, h2⟩ | ⟨k, x, h1, h2, h3, h4, h5, h6⟩
  · exfalso
    obtain ⟨x, hx, he⟩ := minP_mem hne
    obtain ⟨j, hj⟩ := List.getElem?_of_mem hx
    refine h2 j x (List.getElem?_eq_some_iff.1 hj).1 hj ?_
    unfold mayT
    refine sum_least (fun y hy => ⟨?_, by have := hf y hy; omega⟩)
    have := minP_le hy
    omega
  · refine ⟨k, x, h1, h3, k, h3, h4, fun y hy hm => ?_, h6⟩
    obtain ⟨j, hj⟩ := List.getElem?_of_mem hy
    exact h5 j y (List.getElem?_eq_some_iff.1 hj).1 hj hm

set_option maxRecDepth 100000 in
set_option maxHeartbeats 16000000 in
theorem rpick2_some (p : Nat) (base cur : Int) (v : Value) (l : List TI) (w : World) (h : IsT w p 2 base cur v l) (hl : l.length ≤ 64) (hne : l ≠ []) (hf : FitT base l) :
    Calls Tryz.prog 18 #[.pointer (some ⟨p, 0, none⟩)] w fun e w' => ∃ x, SoonT base l x ∧ e = .returned (.tuple #[.int .i64 x.1, .bool true]) ∧ RPost p 2 v base x.1 l w w' := by
  obtain ⟨n, hn⟩ : ∃ n, l.length = n := ⟨_, rfl⟩
  have hn0 : 0 < n := by rw [← hn]; exact List.length_pos_iff.2 hne
  obtain ⟨c0, c1, c2, c3⟩ := h.cells
  have f2 := h.free 2
  have HN := Lib.hid hn
  have HH := Lib.hid h
  have HF := Lib.hid (And.intro hf hne)
  obtain ⟨A, c, rfl⟩ := h.2.1.form
  rw [hn] at c3 hl
  have hnz : ((n : Int) == 0) = false := by simp; omega
  clear h hne hn hf
  go_enter Tryz.func18, Tryz.ntmps18
  go_wp2_with fail
  go_loopw [4, 6, 7, 8] (fun fb sm al iv wr => ∃ (i b q : Nat) (s a : Int), iv = .int .i64 i ∧ fb = .int .i64 b ∧ sm = .int .i64 s ∧ al = .int .i64 a ∧ i ≤ n ∧ b < n ∧ Hid (s = sumT base (l.take i) ∧ a = allT (l.take i)) ∧ wr = w.drewN q) (fun _ _ _ iv _ => n - (intOf iv).toNat)
  case atStart => exact ⟨0, 0, 0, 0, 0, rfl, rfl, rfl, rfl, by omega, hn0, Lib.hid ⟨rfl, rfl⟩, rfl⟩
  case round =>
    obtain ⟨i, b, q, s, a, rfl, rfl, rfl, rfl, hi, hb, HB, rfl⟩ := hrel
    obtain ⟨x, hx⟩ : ∃ x, l[b]? = some x := ⟨_, List.getElem?_eq_getElem (by rw [HN.out]; exact hb)⟩
    obtain ⟨g, cc, hv, _, _, d0, -, d2, -⟩ := HH.out.2.1.get hx
    rw [HN.out] at hv
    injection hv with hv1 hv2 hv3
    subst hv1 hv3
    clear hx hv2
    have hb0 : (0 : Int) ≤ (b : Int) := by omega
    have hbn : (b : Int) < (n : Int) := by omega
    by_cases hlt : i < n
    · obtain ⟨y, hy⟩ : ∃ y, l[i]? = some y := ⟨_, List.getElem?_eq_getElem (by rw [HN.out]; exact hlt)⟩
      obtain ⟨g', cc', hv, _, _, t0, t1, t2, t3⟩ := HH.out.2.1.get hy
      rw [HN.out] at hv
      injection hv with hv1 hv2 hv3
      obtain rfl : g = g' := by injection hv1 with hv1; injection hv1
      have hin : (i : Int) < (n : Int) := by omega
      have hbd := (HF.out.1.take i).bd
      rw [List.length_take, HN.out, Nat.min_eq_left (by omega)] at hbd
      obtain ⟨y1, y2, y3, y4⟩ := HF.out.1 y (List.mem_of_getElem? hy)
      have hm := mul_bd y1 y2 (by omega) y4
      have HNX : Hid (s + (y.2.2.1 - base) * y.2.1 = sumT base (l.take (i + 1)) ∧ a + y.2.1 = allT (l.take (i + 1))) := Lib.hid (by
        rw [take_snoc' hy, sumT_snoc, allT_snoc, HB.out.1, HB.out.2]
        exact ⟨rfl, rfl⟩)
      rw [← HB.out.1, ← HB.out.2] at hbd
      have hw1 : IntKind.i64.wrap (y.2.2.1 - base) = y.2.2.1 - base := by rw [IntKind.wrap_i64]; omega
      have hw2 : IntKind.i64.wrap ((y.2.2.1 - base) * y.2.1) = (y.2.2.1 - base) * y.2.1 := by rw [IntKind.wrap_i64]; omega
      have hw3 : IntKind.i64.wrap (s + (y.2.2.1 - base) * y.2.1) = s + (y.2.2.1 - base) * y.2.1 := by rw [IntKind.wrap_i64]; omega
      have hw4 : IntKind.i64.wrap (a + y.2.1) = a + y.2.1 := by rw [IntKind.wrap_i64]; omega
      clear hy hv1 hv2 hv3 t0 t3 hbd y1 y2 y3 y4 hm HB
      obtain ⟨x0, x1, xv, x3⟩ := x
      obtain ⟨y0, yw, yv, y3⟩ := y
      simp only at d0 d2 t1 t2 hw1 hw2 hw3 hw4 HNX
      by_cases hc : yv < xv
      all_goals
        go_wp2_with fail
        go_big_quiet (fail)
        go_wp2_with fail
        go_big_quiet (fail)
        go_wp2_with fail
        go_roundw
        case rel => exact ⟨i + 1, _, _, _, _, by go_num, rfl, rfl, rfl, by omega, by first | exact hlt | exact hb, HNX, rfl⟩
        case measure => simp [intOf]; omega
    · obtain rfl : i = n := by omega
      have hall : l.take i = l := List.take_of_length_le (by rw [HN.out]; exact Nat.le_refl _)
      have HB2 : Hid (s = sumT base l ∧ a = allT l) := Lib.hid (by have := HB.out; rwa [hall] at this)
      have hbd := HF.out.1.bd
      rw [HN.out, ← HB2.out.1, ← HB2.out.2] at hbd
      have ha0 : 0 ≤ a := by omega
      have ha1 : a ≤ 1280 := by omega
      obtain ⟨w1, hw1⟩ : ∃ w1, w.drewN q = w1 := ⟨_, rfl⟩
      have hq1 : IsT w1 p 2 base cur (.slice (some ⟨g, 0, none⟩) l.length c) l := by rw [← hw1]; exact HH.out
      have HT1 : Hid (Trip (TOf p (.slice (some ⟨g, 0, none⟩) l.length c)) w (TOf p (.slice (some ⟨g, 0, none⟩) l.length c)) w1) := Lib.hid (by rw [← hw1]; exact tripN HH.out.self q)
      obtain ⟨u0, u1, u2, u3⟩ := hq1.cells
      rw [HN.out] at u3
      have HQ1 := Lib.hid hq1
      have HS0 := Lib.hid (SoonAt.start base l)
      rw [hw1]
      clear hw1 hq1 c0 c1 c2 c3 f2 d0 d2 HB hall hbd HH
      go_wp2_with fail
      go_loopw [5, 10] (fun sv jv wr => ∃ (j q : Nat) (sn : Int), jv = .int .i64 j ∧ sv = .int .i64 sn ∧ j ≤ i ∧ Hid (SoonAt base l j sn) ∧ wr = w1.drewN q) (fun _ jv _ => i - (intOf jv).toNat)
      case atStart => exact ⟨0, 0, -1, rfl, rfl, by omega, HS0, rfl⟩
      case round =>
        obtain ⟨j, q2, sn, rfl, rfl, hj, HJ, rfl⟩ := hrel
        clear HS0
        by_cases hlt2 : j < i
        · obtain ⟨y, hy⟩ : ∃ y, l[j]? = some y := ⟨_, List.getElem?_eq_getElem (by rw [HN.out]; exact hlt2)⟩
          obtain ⟨g', cc', hv, _, _, t0, t1, t2, t3⟩ := HQ1.out.2.1.get hy
          rw [HN.out] at hv
          injection hv with hv1 hv2 hv3
          obtain rfl : g = g' := by injection hv1 with hv1; injection hv1
          have hin : (j : Int) < (i : Int) := by omega
          have hj0 : (0 : Int) ≤ (j : Int) := by omega
          obtain ⟨y1, y2, -, -⟩ := HF.out.1 y (List.mem_of_getElem? hy)
          have hm := mul_bd y1 y2 ha0 ha1
          have hwa : IntKind.i64.wrap (y.2.2.1 - base) = y.2.2.1 - base := by rw [IntKind.wrap_i64]; omega
          have hwb : IntKind.i64.wrap ((y.2.2.1 - base) * a) = (y.2.2.1 - base) * a := by rw [IntKind.wrap_i64]; omega
          have HMY : Hid (mayT base l y ↔ (y.2.2.1 - base) * a ≤ s) := Lib.hid (by unfold mayT; rw [HB2.out.1, HB2.out.2])
          have HY := Lib.hid hy
          clear hy hv1 hv2 hv3 y1 y2 hm t0 t1
          by_cases hmy : (y.2.2.1 - base) * a ≤ s
          · rcases HJ.out with ⟨rfl, -⟩ | ⟨k, z, rfl, hk, hz, -⟩
            · have HNX := Lib.hid (HJ.out.first HY.out (HMY.out.2 hmy))
              have hdm : decide ((y.2.2.1 - base) * a ≤ s) = true := decide_eq_true hmy
              obtain ⟨y0, yw, yv, y3⟩ := y
              simp only at t2 t3 hwa hwb hmy hdm
              go_wp2_with fail
              go_big_quiet (fail)
              go_wp2_with fail
              go_roundw
              case rel => exact ⟨j + 1, _, _, by go_num, rfl, by omega, HNX, rfl⟩
              case measure => simp [intOf]; omega
            · obtain ⟨g', cc', hv, _, _, r0, r1, r2, r3⟩ := HQ1.out.2.1.get hz
              rw [HN.out] at hv
              injection hv with hv1 hv2 hv3
              obtain rfl : g = g' := by injection hv1 with hv1; injection hv1
              have hdm : decide ((y.2.2.1 - base) * a ≤ s) = true := decide_eq_true hmy
              have hk0 : (0 : Int) ≤ (k : Int) := by omega
              have hki : (k : Int) < (i : Int) := by omega
              have hkn : decide ((k : Int) < 0) = false := by simp
              have HZ := Lib.hid hz
              clear hv1 hv2 hv3 r0 r1 r2 hz
              by_cases hday : y.2.2.2 < z.2.2.2
              · have HNX := Lib.hid (HJ.out.take HZ.out HY.out (HMY.out.2 hmy) hday)
                obtain ⟨y0, yw, yv, y3⟩ := y
                obtain ⟨z0, zw, zv, z3⟩ := z
                simp only at t2 t3 r3 hwa hwb hmy hdm hday
                go_wp2_with fail
                go_big_quiet (fail)
                go_wp2_with fail
                go_roundw
                case rel => exact ⟨j + 1, _, _, by go_num, rfl, by omega, HNX, rfl⟩
                case measure => simp [intOf]; omega
              · have HNX := Lib.hid (HJ.out.keep HZ.out HY.out hday)
                obtain ⟨y0, yw, yv, y3⟩ := y
                obtain ⟨z0, zw, zv, z3⟩ := z
                simp only at t2 t3 r3 hwa hwb hmy hdm hday
                go_wp2_with fail
                go_big_quiet (fail)
                go_wp2_with fail
                go_roundw
                case rel => exact ⟨j + 1, _, _, by go_num, rfl, by omega, HNX, rfl⟩
                case measure => simp [intOf]; omega
          · have HNX := Lib.hid (HJ.out.no HY.out (fun hh => hmy (HMY.out.1 hh)))
            have hdm : decide ((y.2.2.1 - base) * a ≤ s) = false := decide_eq_false hmy
            obtain ⟨y0, yw, yv, y3⟩ := y
            simp only at t2 t3 hwa hwb hmy hdm
            go_wp2_with fail
            go_big_quiet (fail)
            go_wp2_with fail
            go_roundw
            case rel => exact ⟨j + 1, _, _, by go_num, rfl, by omega, HNX, rfl⟩
            case measure => simp [intOf]; omega
        · obtain rfl : j = i := by omega
          have hd := HJ.out
          rw [← HN.out] at hd
          obtain ⟨k, x2, rfl, hk, hso⟩ := hd.done HF.out.1 HF.out.2
          obtain ⟨w2, hw2⟩ : ∃ w2, w1.drewN q2 = w2 := ⟨_, rfl⟩
          have hq2 : IsT w2 p 2 base cur (.slice (some ⟨g, 0, none⟩) l.length c) l := by rw [← hw2]; exact HQ1.out
          have HT2 : Hid (Trip (TOf p (.slice (some ⟨g, 0, none⟩) l.length c)) w (TOf p (.slice (some ⟨g, 0, none⟩) l.length c)) w2) := Lib.hid (by rw [← hw2]; exact tripN HT1.out q2)
          obtain ⟨g', cc', hv, _, _, r0, -⟩ := hq2.2.1.get hk
          injection hv with hv1 hv2 hv3
          obtain rfl : g = g' := by injection hv1 with hv1; injection hv1
          have hk0 : (0 : Int) ≤ (k : Int) := by omega
          have hki : (k : Int) < (j : Int) := by
            have := (List.getElem?_eq_some_iff.1 hk).1
            rw [HN.out] at this
            omega
          obtain ⟨s0, s1, s2, s3⟩ := hq2.cells
          rw [HN.out] at s3
          have g2 := hq2.free 2
          have pst := hq2.setC x2.1
          have v2 := pst.1.cells.2.2.1
          have POST := Lib.hid pst
          have HSO := Lib.hid hso
          rw [hw2]
          clear hv1 hv2 hv3 hw2 hq2 pst u0 u1 u2 u3 hk hd hso HJ
          obtain ⟨x0, xw, xv, x3⟩ := x2
          simp only at r0 v2 POST
          go_wp2_with fail
          go_ret2
          exact ⟨_, HSO.out, rfl, _, POST.out.1, HT2.out.trans POST.out.2⟩
end Go.Proofs.YtandmngfajoinaaGreat
