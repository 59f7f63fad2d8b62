/- Masks: Text. -/
import Derived.Test.YtjfeaepjhnpbfaaDoorKd
import Derived.Test.YtjfeaepjhnpbfaaDoorShelf
namespace Go.Proofs.YtjfeaepjhnpbfaaDoor
open Go.RowKit Go.Shelf
attribute [local go_sem] Oper.semAt_some wide_fn wide_depth

theorem info_str : (Tryd.prog.info? 9).map (fun i => (i.zero, i.size, i.bytes)) = some (some (.string ⟨#[]⟩), 1, 16) := by kernel_rfl

/-- append of one thing in a region that draws its order. -/
theorem step_where {F : Fence} {n : Nat} {P : Program} {w : World} {ops : Array Oper} {o : Oper} {a : Act} {K : Act → World → Prop} {Q : Exit → Act → World → Prop} {E : Prop}
    (hg : o.guard = none) (s x : Operand) (t : TypeId) (hop : o.op = Op.call { callee := Callee.builtin Builtin.append, args := #[s, x], argTypes := #[t, t] })
    (base : Nat) (e : TypeId) (i : TypeInfo) (z : Value) (size bytes : Nat) (h1 : P.underlying t = some (.slice e)) (h2 : P.info? e = some i) (h3 : i.zero = some z) (h4 : i.size = size) (h5 : i.bytes = bytes) (h6 : z.cells.size = size) (h7 : 0 < size)
    (v : Value) (k : Nat) (xs : List Value) (hs : a.eval s = v) (hown : w.ownsRow base e size v k xs) (ad : Addr) (m c : Nat) (news : List Value) (hx : a.eval x = .slice (some ad) m c) (hn : news.length = m * size)
    (hc : ∀ j u, news[j]? = some u → w.cell? (ad.add j) = some u) (h1c : ∀ u ∈ news, u.oneCell' = true) (b1 : k + m ≤ maxLen) (b2 : (k + m) * bytes ≤ 140737488355328) (b3 : base ≤ w.heap.size)
    (hK : ∀ v' w', w'.ownsRow base e size v' (k + m) (xs ++ news) → w.grownBy w' v.ownBlock → (∀ g, v'.ownBlock = some g → v.ownBlock = some g ∨ w.heap.size ≤ g) → K (a.put o.dst v') w') :
    if Region.wanted o (yielded ops a.tmps) = true then Oper.wpIn F n P o a w K Q else E := by
  have hw : Region.wanted o (yielded ops a.tmps) = true := by simp [Region.wanted, hg]
  rw [if_pos hw]
  obtain ⟨v', w', hrun, r1, r2, r3⟩ := run_append_where (P := P) w base t o.type e i z size bytes h1 h2 h3 h4 h5 h6 h7 v k xs hown ad m c news hn hc h1c b1 b2 b3
  unfold Oper.wpIn
  refine ⟨?_, ?_⟩
  · simp [Oper.about, hop, resolve, Target.leads, Sem.run_pure]
  · rw [Oper.semAt_plain F _ _ (by rw [hop]; intro c hc'; cases hc')]
    unfold execOp
    simp only [hop, resolve, invoke, builtin, Sem.run_bind, Sem.run_pure, Result.andThen_ok, List.map_toArray, List.map_cons, List.map_nil, hs, hx, hrun]
    exact hK v' w' r1 r2 r3

/-- A core's numeral. -/
def numS (x : Nat) : ByteArray := ⟨(Lib.decDigits x).toArray⟩
/-- A mask's text. -/
def textL (l : List Nat) : List UInt8 := if l = [] then [45] else Lib.join (l.map Lib.decDigits) [44]
def textS (m : Nat) : ByteArray := ⟨(textL (coresL m)).toArray⟩

theorem mem_coresL {m x : Nat} (h : x ∈ coresL m) : x < 16 := by
  unfold coresL coresTo at h
  exact List.mem_range.1 (List.mem_filter.1 h).1

theorem dec_one {x : Nat} (h : x < 10) : Lib.decDigits x = [UInt8.ofNat (48 + x)] := by rw [Lib.decDigits, dif_pos h]
theorem dec_two {x : Nat} (h : ¬ x < 10) (h2 : x < 100) : Lib.decDigits x = [UInt8.ofNat (48 + x / 10), UInt8.ofNat (48 + x % 10)] := by
  rw [Lib.decDigits, dif_neg h, dec_one (by omega)]; rfl
theorem dec_len {x : Nat} (h : x < 100) : (Lib.decDigits x).length ≤ 2 := by
  by_cases h1 : x < 10
  · rw [dec_one h1]; simp
  · rw [dec_two h1 h]; simp
theorem lens_le (l : List Nat) (h : ∀ x ∈ l, x < 100) : Lib.lens (l.map Lib.decDigits) ≤ 2 * l.length := by
  induction l with
  | nil => simp [Lib.lens]
  | cons x xs ih =>
    have h1 := ih (fun y hy => h y (by simp [hy]))
    have h2 := dec_len (h x (by simp))
    simp only [Lib.lens, List.map_cons, List.sum_cons, List.length_cons] at h1 ⊢
    omega
theorem join_le (l : List Nat) (h : ∀ x ∈ l, x < 100) : (Lib.join (l.map Lib.decDigits) [44]).length ≤ 3 * l.length := by
  cases l with
  | nil => simp [Lib.join_nil]
  | cons x xs =>
    have h1 := lens_le (x :: xs) h
    simp only [List.map_cons] at h1 ⊢
    rw [Lib.join_length]
    simp at h1 ⊢
    omega

/-- strings.Join of numerals, a comma between. -/
theorem join_c (l : List Nat) (g n c : Nat) (w : World) (hn : l.length = n) (hl : ∀ x ∈ l, x < 100) (hlen : n ≤ 1000) (hc : n ≤ c) (hcells : ∀ (j : Nat) x, (l.map numS)[j]? = some x → w.cell? ⟨g, j, none⟩ = some (.string x)) (hg : g < w.heap.size) :
    Calls Tryd.prog 23 #[.slice (some ⟨g, 0, none⟩) n c, .string ⟨#[44]⟩] w fun e w' => e = .returned (.string ⟨(Lib.join (l.map Lib.decDigits) [44]).toArray⟩) ∧ Below w.heap.size w w' := by
  subst hn
  have e1 : (l.map numS).length = l.length := by simp
  have e2 : (l.map numS).map (·.data.toList) = l.map Lib.decDigits := by rw [List.map_map]; rfl
  have h1 := join_le l hl
  have h := Tryd.strings_Join g 0 c (l.map numS) ⟨#[44]⟩ w (fun j x hx => by rw [Nat.zero_add]; exact hcells j x hx) hg (by rw [e1]; omega) (by rw [e1]; exact hc) (by rw [e2]; show (Lib.join _ [44]).length ≤ _; omega)
  rw [e1, e2] at h
  exact h

theorem text_none : Ending.returned (Value.string ⟨#[45]⟩) = Ending.returned (Value.string (textS 0)) := by
  have h : textS 0 = ⟨#[45]⟩ := by
    have h1 : coresL 0 = [] := by decide
    unfold textS textL
    rw [h1]
    rfl
  rw [h]
theorem itoa_c (x : Nat) (hx : x < 100) (w : World) : Calls Tryd.prog 22 #[.int .i64 x] w fun e w' => e = .returned (.string (numS x)) ∧ w' = w := Tryd.strconv_Itoa_small x hx w

set_option maxRecDepth 100000 in
set_option maxHeartbeats 1000000 in
theorem text_c (m : Nat) (hm : m < 65536) (w : World) : Calls Tryd.prog 9 #[.int .u16 m] w fun e w' => e = .returned (.string (textS m)) ∧ Below w.heap.size w w' := by
  obtain ⟨i0, hi, hz0, hz1, hz2⟩ := info_parts info_str
  refine (callsIn_wide (n := 0)).1 ?_
  refine callsIn_of_wp_marks Tryd.func9 rfl trivial ?_ rfl
  simp only [Tryd.ntmps9, List.size_toArray, List.length_cons, List.length_nil, Nat.reduceAdd, Nat.reduceSub, Array.replicate_succ, Array.replicate_zero, List.push_toArray, List.append_toArray, List.nil_append, List.cons_append]
  by_cases h0 : m = 0
  · subst h0
    gi_wp2
    refine ⟨_, results_tmp rfl _ _ _, ?_, Below.refl _ _⟩
    exact text_none
  · have hne : ((m : Int) == 0) = false := by simp; omega
    gi_wp2_with (gi_at_call 21; refine (callsIn_wide.2 (all_c _ _)).mono ?_; rintro e w' ⟨rfl, rfl⟩)
    obtain ⟨w1, hw1⟩ : ∃ w1, (w.alloc (Obj.cells #[Value.slice none 0 0] 41)).alloc (Obj.cells #[Value.int IntKind.u16 m] 24) = w1 := ⟨_, rfl⟩
    have hs1 : w1.heap.size = w.heap.size + 2 := by rw [← hw1]; simp
    have bV : Boxed w1 w.heap.size 41 (.slice none 0 0) := by rw [← hw1]; exact (Boxed.new w _ _).alloc _
    have bN : Boxed w1 (w.heap.size + 1) 24 (.int .u16 m) := by
      rw [← hw1]
      have := Boxed.new (w.alloc (Obj.cells #[Value.slice none 0 0] 41)) 24 (.int .u16 m); rwa [World.size_alloc] at this
    have hb1 : Below w.heap.size w w1 := by rw [← hw1]; exact ((Below.refl _ w).alloc (Nat.le_refl _) _).alloc (by simp) _
    rw [hw1]
    clear hw1
    have HB1 := Lib.hid hb1
    clear hb1
    refine wpR (α := Nat) (gf := 29) (lb := #[.pointer (some ⟨w.heap.size + 1, 0, none⟩)]) rfl (enters_of Tryd.func29 (by kernel_rfl) rfl)
      (all1_gives m hm _ w1 bN.cell) (fun _ => rfl) (fun k => k = w.heap.size) ?hA ?hR (CollI w.heap.size w.heap.size 41 9 (fun x : Nat => Value.string (numS x))) (fun _ _ _ _ => False) (collI_loc _ _ _ _ _) (fun _ _ _ _ _ hs _ => hs) ?h0
      (fun x => { tmps := #[.int .u16 m, undef, .string ⟨#[]⟩, .pointer (some ⟨w.heap.size, 0, none⟩), .int .i64 x, .int .u16 m, .bool false, .int .u16 m, .func (.func 29) #[] #[.pointer (some ⟨w.heap.size + 1, 0, none⟩)], .int .i64 x,
        undef, undef, undef, undef, undef, undef, undef], defers := [] }) ?assign ?body ?done ?stop
    case hA => rintro k rfl; omega
    case hR => rintro k rfl; exact ⟨by omega, rfl, by omega⟩
    case h0 => exact ⟨_, bV, World.ownsRow_nil _ _ _ _, by simp [Value.ownBlock]⟩
    case assign =>
      intro l x W K hK
      gi_wp2
      exact hK
    case body =>
      rintro l pre x A1 W ⟨v, hv, hrow, hAv⟩ hpre hbd
      have hx16 : x < 100 := by
        have h1 : x ∈ coresL m := hpre.subset (by simp)
        have := mem_coresL h1
        omega
      have hc := hv.cell
      have hlt := hv.lt
      have hpl : pre.length + 1 ≤ 16 := by have := hpre.length_le; have h2 := cores_length_le m; simp at this; omega
      have HPR := Lib.hid hpre
      have HAV := Lib.hid hAv
      clear hpre hAv
      have hmx : Tryd.prog.follows .mixedOrders = true := by kernel_rfl
      gi_wp2
      refine wpIn_region_any hmx ?_
      change wpAnyIn _ _ _ _ _ _ _ _ _ (World.drew _)
      refine wpAnyIn_ready (rs := [0, 1]) (by kernel_rfl) (by simp) (AllReadyIn.cons rfl (fun K hK => ?a0) (AllReadyIn.cons rfl (fun K hK => ?a1) AllReadyIn.nil))
      case' a0 =>
        go_simp
        refine hK _ _ ?_
        clear hK K
        refine wpAnyIn_ready (rs := [1]) (by kernel_rfl) (by simp) (AllReadyIn.cons rfl (fun K hK => ?_) AllReadyIn.nil)
        go_simp
        refine hK _ _ ?_
        clear hK K
        refine wpAnyIn_ready (rs := [2]) (by kernel_rfl) (by simp) (AllReadyIn.cons rfl (fun K hK => ?_) AllReadyIn.nil)
        go_simp
        refine (CallsIn.inRound l (callsIn_wide.2 (itoa_c x hx16 _))).mono ?_
        rintro e w' ⟨rfl, rfl⟩
        refine hK _ _ ?_
        clear hK K
        refine wpAnyIn_ready (rs := [3]) (by kernel_rfl) (by simp) (AllReadyIn.cons rfl (fun K hK => ?_) AllReadyIn.nil)
        go_simp
        refine hK _ _ ?_
        clear hK K
      case' a1 =>
        go_simp
        refine hK _ _ ?_
        clear hK K
        refine wpAnyIn_ready (rs := [0, 2]) (by kernel_rfl) (by simp) (AllReadyIn.cons rfl (fun K hK => ?b0) (AllReadyIn.cons rfl (fun K hK => ?b1) AllReadyIn.nil))
      case' b0 =>
        go_simp
        refine hK _ _ ?_
        clear hK K
        refine wpAnyIn_ready (rs := [2]) (by kernel_rfl) (by simp) (AllReadyIn.cons rfl (fun K hK => ?_) AllReadyIn.nil)
        go_simp
        refine (CallsIn.inRound l (callsIn_wide.2 (itoa_c x hx16 _))).mono ?_
        rintro e w' ⟨rfl, rfl⟩
        refine hK _ _ ?_
        clear hK K
        refine wpAnyIn_ready (rs := [3]) (by kernel_rfl) (by simp) (AllReadyIn.cons rfl (fun K hK => ?_) AllReadyIn.nil)
        go_simp
        refine hK _ _ ?_
        clear hK K
      case' b1 =>
        go_simp
        refine (CallsIn.inRound l (callsIn_wide.2 (itoa_c x hx16 _))).mono ?_
        rintro e w' ⟨rfl, rfl⟩
        refine hK _ _ ?_
        clear hK K
        refine wpAnyIn_ready (rs := [0, 3]) (by kernel_rfl) (by simp) (AllReadyIn.cons rfl (fun K hK => ?c0) (AllReadyIn.cons rfl (fun K hK => ?c1) AllReadyIn.nil))
      case' c0 =>
        go_simp
        refine hK _ _ ?_
        clear hK K
        refine wpAnyIn_ready (rs := [3]) (by kernel_rfl) (by simp) (AllReadyIn.cons rfl (fun K hK => ?_) AllReadyIn.nil)
        go_simp
        refine hK _ _ ?_
        clear hK K
      case' c1 =>
        go_simp
        refine hK _ _ ?_
        clear hK K
        refine wpAnyIn_ready (rs := [0]) (by kernel_rfl) (by simp) (AllReadyIn.cons rfl (fun K hK => ?_) AllReadyIn.nil)
        go_simp
        refine hK _ _ ?_
        clear hK K
      all_goals
        refine wpAnyIn_ready (rs := [4]) (by kernel_rfl) (by simp) (AllReadyIn.cons rfl (fun K hK => ?_) AllReadyIn.nil)
        refine step_where rfl _ _ 41 rfl w.heap.size 9 i0 (.string ⟨#[]⟩) 1 16 Tryd.underlying41 hi hz0 hz1 hz2 rfl (by decide) v pre.length (pre.map fun x : Nat => Value.string (numS x)) rfl (hrow.alloc (.cells #[.string (numS x)] 9)) ⟨W.heap.size, 0, none⟩ 1 1 [.string (numS x)] rfl rfl (cell_one_new W _ _) (by simp [Value.oneCell']) (by unfold maxLen; omega) (by omega) (by simp; omega) ?_
        intro v' w2 hown' hgrow hwh
        obtain ⟨g', cap', rfl⟩ := ownsRow_succ hown'
        have hgrow' : (W.alloc (.cells #[.string (numS x)] 9)).grownBy w2 v.ownBlock := ⟨hgrow.os, hgrow.tape, hgrow.output, hgrow.size, hgrow.block⟩
        obtain ⟨hv1, hv2, hr2, ht2⟩ := app_trip hv (by decide) hrow hown' hgrow' hwh
        have hc1 := hv1.cell
        have hf1 := hv1.frozen
        refine hK _ _ ?_
        clear hK K
        refine wpAnyIn_ready (rs := [5]) (by kernel_rfl) (by simp) (AllReadyIn.cons rfl (fun K hK => ?_) AllReadyIn.nil)
        go_simp
        refine hK _ _ ?_
        clear hK K
        refine wpAnyIn_done (by kernel_rfl) ?_ _
        gi_wp2
        exact ⟨_, ht2.from HAV.out, _, hv2, by simpa using hr2, fun _ => Iff.rfl⟩
    case done =>
      rintro D A2 W ht hnD hD ⟨v, hv, hrow, hAv⟩ hK
      have hne2 : coresL m ≠ [] := by
        intro h
        apply h0
        apply Nat.eq_of_testBit_eq
        intro i
        rw [Nat.zero_testBit]
        by_cases hi : i < 16
        · cases hb : m.testBit i
          · rfl
          · have : i ∈ coresL m := by unfold coresL coresTo; exact List.mem_filter.2 ⟨List.mem_range.2 hi, hb⟩
            rw [h] at this
            simp at this
        · exact Nat.testBit_lt_two_pow (Nat.lt_of_lt_of_le (show m < 2 ^ 16 from hm) (Nat.pow_le_pow_right (by omega) (by omega)))
      have hc := hv.cell
      have hDlt : D < W.heap.size := (Array.getElem?_eq_some_iff.1 hK).1
      obtain ⟨N, hN⟩ : ∃ N, N = (coresL m).length := ⟨_, rfl⟩
      have hN0 : N ≠ 0 := by rw [hN]; intro h; exact hne2 (List.eq_nil_of_length_eq_zero h)
      have hN16 := cores_length_le m
      rw [← hN] at hrow hN16
      rcases hrow.2 with ⟨_, h2⟩ | ⟨g, cap, cur, rfl, hbg, hgg, hnc, hcm, hcs, htk⟩
      · exact absurd h2 hN0
      have hcl := World.ownsRow.cells hrow (g := g) rfl
      have hgl := (World.ownsRow.lt hrow g rfl).2
      have hJ := fun o => callsIn_wide (n := 0).2 (join_c (coresL m) g N cap W hN.symm (fun x hx => by have := mem_coresL hx; omega) (by omega) hnc (fun j x hx => by
        have hx' : ((coresL m).map fun x : Nat => Value.string (numS x))[j]? = some (.string x) := by
          rw [List.getElem?_map] at hx ⊢
          cases hq : (coresL m)[j]? with
          | none => rw [hq] at hx; simp at hx
          | some q => rw [hq] at hx; simp at hx ⊢; exact hx
        have := hcl j _ hx'
        have e : (⟨g, 0, none⟩ : Addr).add j = ⟨g, j, none⟩ := by unfold Addr.add; split <;> simp_all
        rwa [e] at this) o)
      have HT := Lib.hid ht
      have HAV := Lib.hid hAv
      have HNE := Lib.hid hne2
      have hJ' := hJ hgl
      clear ht hAv hne2 hN hcl hrow hJ hgg hcs htk
      gi_wp2_with (gi_at_call 23; refine hJ'.mono ?_; rintro e w' ⟨rfl, hb⟩)
      have hK' : w'.heap[D]? = some (.deferred (some [])) := (hb.block D hDlt).trans hK
      have hsw := hb.size
      have hsW := HT.out.size
      refine ⟨by simp, .inl ⟨_, _, rfl, run_takeDeferred hK', ?_⟩⟩
      refine ⟨_, results_tmp rfl _ _ _, ?_, ?_⟩
      · have : textS m = ⟨(Lib.join ((coresL m).map Lib.decDigits) [44]).toArray⟩ := by unfold textS textL; rw [if_neg HNE.out]
        rw [this]
        rfl
      · have b2 := HB1.out.trans (HT.out.below (fun k hk => by omega) (by omega))
        exact (b2.trans (hb.mono (by omega))).grown (grownBy_putObj' w' D _) (by omega) (fun k e => by cases e; omega)
    case stop =>
      rintro D c pre A2 W _ _ _ _ h _
      exact h.elim
end Go.Proofs.YtjfeaepjhnpbfaaDoor
