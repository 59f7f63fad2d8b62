/- Masks: From, and what it hands back yields. -/
import Derived.Test.YtjfeaepjhnpbfaaDoorKb
namespace Go.Proofs.YtjfeaepjhnpbfaaDoor
open Go.RowKit Go.Shelf
attribute [local go_sem] Oper.semAt_some wide_fn wide_depth

/-- A core's number, held to 0 .. 15. -/
def clampN (c : Int) : Nat := (min (max c 0) 15).toNat
theorem clampN_lt (c : Int) : clampN c < 16 := by unfold clampN; omega
/-- The mask of all the cores below f. -/
def lowN (f : Nat) : Nat := 2 ^ f - 1
theorem lowN_lt {f : Nat} (h : f < 16) : lowN f < 65536 := by have := pow_lt h; unfold lowN; omega

set_option maxHeartbeats 1000000 in
theorem from_c (m c : Int) (w : World) : Calls Tryd.prog 26 #[.int .u16 m, .int .i64 c] w fun e w' =>
    e = .returned (.func (.func 36) #[] #[.pointer (some ⟨w.heap.size, 0, none⟩), .pointer (some ⟨w.heap.size + 1, 0, none⟩)]) ∧
    w' = (w.alloc (.cells #[.int .u16 m] 24)).alloc (.cells #[.int .u16 (lowN (clampN c))] 24) := by
  go_enter Tryd.func26, Tryd.ntmps26
  go_wp2_with fail
  go_ret
  refine ⟨rfl, ?_⟩
  have h : IntKind.u16.wrap (IntKind.u16.wrap (2 ^ (min (max c 0) 15).toNat) - 1) = (lowN (clampN c) : Int) := by
    show IntKind.u16.wrap (IntKind.u16.wrap (2 ^ clampN c) - 1) = _
    have hp := pow_lt (clampN_lt c)
    have h1 : 0 < 2 ^ clampN c := Nat.pow_pos (by omega)
    rw [wrap_pow (clampN_lt c), wrap_u16]
    unfold lowN
    generalize 2 ^ clampN c = q at hp h1
    omega
  rw [h]

/-- The pairs of a place and a core. -/
def numb : Nat → List Nat → List (Nat × Nat)
  | _, [] => []
  | k, x :: xs => (k, x) :: numb (k + 1) xs
theorem numb_append (k : Nat) (a b : List Nat) : numb k (a ++ b) = numb k a ++ numb (k + a.length) b := by
  induction a generalizing k with
  | nil => simp [numb]
  | cons x xs ih => simp [numb, ih, Nat.add_comm 1, Nat.add_assoc]
theorem numb_snoc (a : List Nat) (x : Nat) : numb 0 (a ++ [x]) = numb 0 a ++ [(a.length, x)] := by rw [numb_append]; simp [numb]

/-- The two parts of a mask: what is not below f; what is. -/
def partN (m f i : Nat) : Nat := if i = 0 then m &&& (65535 - lowN f) else m &&& lowN f
def doneL (m f : Nat) : Nat → List Nat
  | 0 => []
  | i + 1 => doneL m f i ++ coresL (partN m f i)
def aroundL (m f : Nat) : List Nat := doneL m f 2
theorem partN_lt {m f i : Nat} (hm : m < 65536) : partN m f i < 65536 := by
  unfold partN
  split
  · exact Nat.lt_of_le_of_lt Nat.and_le_left hm
  · exact Nat.lt_of_le_of_lt Nat.and_le_left hm

theorem idx0 (x y : Int) (w : World) : (Instr.index 64 (.agg #[.int .u16 x, .int .u16 y]) (.int .i64 0)).run Tryd.prog w = .ok (.int .u16 x) w := by kernel_rfl
theorem idx1 (x y : Int) (w : World) : (Instr.index 64 (.agg #[.int .u16 x, .int .u16 y]) (.int .i64 1)).run Tryd.prog w = .ok (.int .u16 y) w := by kernel_rfl
theorem idx_c (m f i : Nat) (hi : i < 2) (w : World) : (Instr.index 64 (.agg #[.int .u16 (partN m f 0), .int .u16 (partN m f 1)]) (.int .i64 i)).run Tryd.prog w = .ok (.int .u16 (partN m f i)) w := by
  have h : i = 0 ∨ i = 1 := by omega
  rcases h with rfl | rfl
  · exact idx0 _ _ w
  · exact idx1 _ _ w

theorem numb_length (k : Nat) (a : List Nat) : (numb k a).length = a.length := by
  induction a generalizing k with
  | nil => rfl
  | cons x xs ih => simp [numb, ih]
theorem aroundL_le (m f : Nat) : (aroundL m f).length ≤ 32 := by
  have h1 := cores_length_le (partN m f 0)
  have h2 := cores_length_le (partN m f 1)
  simp only [aroundL, doneL, List.length_append, List.length_nil]
  omega

/-- Between two parts: the caller's own J holds at what has come; the two boxes hold yield and the place. -/
structure FromAt (J : List (Nat × Nat) → (Nat → Prop) → World → Prop) (A : Nat → Prop) (W : World) (m f l i : Nat) (Ac : Nat → Prop) (ds : List Nat) (w : World) : Prop where
  trip : Trip A W Ac w
  size : W.heap.size + 2 ≤ w.heap.size
  j : J (numb 0 (doneL m f i)) Ac w
  nY : ¬ Ac W.heap.size
  nP : ¬ Ac (W.heap.size + 1)
  y : Boxed w W.heap.size 63 (.func (.yield l) #[] #[])
  p : Boxed w (W.heap.size + 1) 3 (.int .i64 (doneL m f i).length)
  nd : ds.Nodup
  ds : ∀ D ∈ ds, w.heap[D]? = some (.deferred (some [])) ∧ ¬ Ac D ∧ W.heap.size + 1 < D

/-- Within a part. -/
def PartI (J : List (Nat × Nat) → (Nat → Prop) → World → Prop) (Y l : Nat) (done : List Nat) (pre : List Nat) (A' : Nat → Prop) (w : World) : Prop :=
  ∃ A1 : Nat → Prop, (∀ k, A' k ↔ A1 k ∨ k = Y ∨ k = Y + 1) ∧ ¬ A1 Y ∧ ¬ A1 (Y + 1) ∧ J (numb 0 (done ++ pre)) A1 w ∧ Boxed w Y 63 (.func (.yield l) #[] #[]) ∧ Boxed w (Y + 1) 3 (.int .i64 (done ++ pre).length)
def PartX (Jx : List (Nat × Nat) → (Nat → Prop) → World → Prop) (xs : List (Nat × Nat)) (c : Code) (_pre : List Nat) (A' : Nat → Prop) (w : World) : Prop :=
  c = .ret ∧ ∃ A1 : Nat → Prop, (∀ k, A1 k → A' k) ∧ ∃ q, q <+: xs ∧ Jx q A1 w
theorem partI_loc {J : List (Nat × Nat) → (Nat → Prop) → World → Prop} (hJ : Loc J) (Y l : Nat) (done : List Nat) : Loc (PartI J Y l done) := by
  rintro s A' X Z ⟨A1, h1, h2, h3, h4, h5, h6⟩ hs
  exact ⟨A1, h1, h2, h3, hJ _ _ _ _ h4 (fun k hk => hs k ((h1 k).2 (.inl hk))), (hs _ ((h1 _).2 (.inr (.inl rfl)))).trans h5, (hs _ ((h1 _).2 (.inr (.inr rfl)))).trans h6⟩
theorem partX_loc {Jx : List (Nat × Nat) → (Nat → Prop) → World → Prop} (hJ : Loc Jx) (xs : List (Nat × Nat)) (c : Code) : Loc (PartX Jx xs c) := by
  rintro s A' X Z ⟨h0, A1, h1, q, h2, h3⟩ hs
  exact ⟨h0, A1, h1, q, h2, hJ _ _ _ _ h3 (fun k hk => hs k (h1 k hk))⟩

theorem doneL_le {m f i : Nat} (h : i ≤ 2) : doneL m f i <+: aroundL m f := by
  unfold aroundL
  match i, h with
  | 0, _ => exact List.nil_prefix
  | 1, _ => exact ⟨coresL (partN m f 1), rfl⟩
  | 2, _ => exact List.prefix_refl _
theorem numb_le {a b : List Nat} (h : a <+: b) : numb 0 a <+: numb 0 b := by
  obtain ⟨t, rfl⟩ := h
  exact ⟨_, (numb_append 0 a t).symm⟩
theorem part_next {m f i : Nat} (hi : i < 2) {pre : List Nat} {x : Nat} (h : pre ++ [x] <+: coresL (partN m f i)) : numb 0 (doneL m f i ++ pre) ++ [((doneL m f i ++ pre).length, x)] <+: numb 0 (aroundL m f) := by
  rw [← numb_snoc]
  refine (numb_le ?_).trans (numb_le (doneL_le (i := i + 1) (by omega)))
  obtain ⟨t, ht⟩ := h
  exact ⟨t, by show _ = doneL m f i ++ coresL (partN m f i); rw [← ht]; simp⟩

set_option maxRecDepth 100000 in
set_option maxHeartbeats 1000000 in
theorem from1_gives (m f : Nat) (hm : m < 65536) (hf : f < 16) (Bm Bl : Nat) (W0 : World) (hc : W0.cell? ⟨Bm, 0, none⟩ = some (.int .u16 m)) (hc2 : W0.cell? ⟨Bl, 0, none⟩ = some (.int .u16 (lowN f))) :
    Gives Tryd.prog 36 #[.pointer (some ⟨Bm, 0, none⟩), .pointer (some ⟨Bl, 0, none⟩)] (fun x : Nat × Nat => #[Value.int .i64 x.1, Value.int .i64 x.2]) (numb 0 (aroundL m f)) (fun k => k = Bm ∨ k = Bl) W0 := by
  intro l J Jx A W hJ hJx hA hR hY h0
  obtain ⟨hR1, hR2, hR3⟩ := hR Bm (.inl rfl)
  obtain ⟨hS1, hS2, hS3⟩ := hR Bl (.inr rfl)
  clear hR
  have hcW := (cell_of_heap hR2 0).trans hc
  have hcL := (cell_of_heap hS2 0).trans hc2
  clear hc hc2
  have hv0 : bits BinOp.andNot IntKind.u16 (m : Int) (lowN f : Int) = (partN m f 0 : Int) := by rw [u16_andNot_nat m _ hm (lowN_lt hf)]; rfl
  have hv1 : bits BinOp.and IntKind.u16 (m : Int) (lowN f : Int) = (partN m f 1 : Int) := by rw [u16_and_nat m _ hm (lowN_lt hf)]; rfl
  refine callsIn_of_wp_marks Tryd.func36 rfl trivial ?_ rfl
  simp only [Tryd.ntmps36, List.size_toArray, List.length_cons, List.length_nil, Nat.reduceAdd, Nat.reduceSub, Array.replicate_succ, Array.replicate_zero, List.push_toArray, List.append_toArray, List.nil_append, List.cons_append]
  gi_wp2
  refine wpIn_loop (fun a w => ∃ (i : Nat) (Ac : Nat → Prop) (ds : List Nat) (u5 u6 u7 u16 u17 u18 u19 u20 u21 u22 u23 u24 u25 u26 u27 u28 : Value), i ≤ 2 ∧
      a = { tmps := #[.func (.yield l) #[] #[], .pointer (some ⟨Bm, 0, none⟩), .pointer (some ⟨Bl, 0, none⟩), .pointer (some ⟨W.heap.size, 0, none⟩), .pointer (some ⟨W.heap.size + 1, 0, none⟩), u5, u6, u7,
        .int .u16 m, .int .u16 (lowN f), .int .u16 (partN m f 0), .int .u16 m, .int .u16 (lowN f), .int .u16 (partN m f 1), .agg #[.int .u16 (partN m f 0), .int .u16 (partN m f 1)], .int .i64 i,
        u16, u17, u18, u19, u20, u21, u22, u23, u24, u25, u26, u27, u28], defers := ds.map markAt } ∧ FromAt J A W m f l i Ac ds w)
    (fun a _ => 2 - (intOf (a.tmps.getD 15 undef)).toNat) ?start ?round
  case start =>
    refine ⟨0, A, [], undef, undef, undef, undef, undef, undef, undef, undef, undef, undef, undef, undef, undef, undef, undef, undef, by omega, rfl, ?_⟩
    exact ⟨(Trip.refl hA).alloc _ |>.alloc _, by simp, hJ _ _ _ _ h0 (fun k hk => by rw [Below.heap_alloc _ _ _ (by have := hA k hk; simp; omega), Below.heap_alloc _ _ _ (hA k hk)]),
      fun h => by have := hA _ h; omega, fun h => by have := hA _ h; omega, (Boxed.new W _ _).alloc _, by have := Boxed.new (W.alloc (Obj.cells #[Value.func (Fn.yield l) #[] #[]] 63)) 3 (.int .i64 0); rw [World.size_alloc] at this; exact this, by simp, by simp⟩
  case round =>
    rintro a w ⟨i, Ac, ds, u5, u6, u7, u16, u17, u18, u19, u20, u21, u22, u23, u24, u25, u26, u27, u28, hi, rfl, h⟩
    have HF := Lib.hid h
    by_cases hi2 : i < 2
    · have hix := idx_c m f i hi2 w
      have hlt : (i : Int) < 2 := by omega
      have hp := partN_lt (m := m) (f := f) (i := i) hm
      clear h
      gi_wp2_with (gi_at_call 21; refine (callsIn_wide.2 (all_c _ _)).mono ?_; rintro e w' ⟨rfl, rfl⟩)
      have bN := Boxed.new w 24 (.int .u16 (partN m f i))
      have h := HF.out
      obtain ⟨w1, hw1⟩ : ∃ w1, w.alloc (Obj.cells #[Value.int IntKind.u16 (partN m f i)] 24) = w1 := ⟨_, rfl⟩
      rw [hw1] at bN ⊢
      have ht1 : Trip A W Ac w1 := by rw [← hw1]; exact h.trip.alloc _
      have hs1 : w1.heap.size = w.heap.size + 1 := by rw [← hw1]; simp
      have ho1 : ∀ k, k < w.heap.size → w1.heap[k]? = w.heap[k]? := fun k hk => by rw [← hw1]; exact Below.heap_alloc _ _ _ hk
      have hAc : ∀ k, Ac k → k < w.heap.size := h.trip.bd
      have hsz := h.size
      refine wpR (α := Nat) (gf := 29) (lb := #[.pointer (some ⟨w.heap.size, 0, none⟩)]) rfl (enters_of Tryd.func29 (by kernel_rfl) rfl)
        (all1_gives (partN m f i) hp w.heap.size w1 bN.cell) (fun _ => rfl) (fun k => Ac k ∨ k = W.heap.size ∨ k = W.heap.size + 1) ?hA ?hR
        (PartI J W.heap.size l (doneL m f i)) (PartX Jx (numb 0 (aroundL m f))) (partI_loc hJ _ _ _) (fun c => partX_loc hJx _ c) ?h0
        (fun x => { tmps := #[.func (.yield l) #[] #[], .pointer (some ⟨Bm, 0, none⟩), .pointer (some ⟨Bl, 0, none⟩), .pointer (some ⟨W.heap.size, 0, none⟩), .pointer (some ⟨W.heap.size + 1, 0, none⟩), u5, .int .u16 (partN m f i), .int .i64 x,
        .int .u16 m, .int .u16 (lowN f), .int .u16 (partN m f 0), .int .u16 m, .int .u16 (lowN f), .int .u16 (partN m f 1), .agg #[.int .u16 (partN m f 0), .int .u16 (partN m f 1)], .int .i64 i,
        .bool true, .int .u16 (partN m f i), .int .u16 (partN m f i), .func (.func 29) #[] #[.pointer (some ⟨w.heap.size, 0, none⟩)], .int .i64 x, u21, u22, u23, u24, u25, u26, u27, u28], defers := [] }) ?assign ?body ?done ?stop
      case hA =>
        rintro k (h1 | h1 | h1)
        · have := hAc k h1; omega
        · omega
        · omega
      case hR =>
        rintro k rfl
        exact ⟨by omega, rfl, fun h1 => by rcases h1 with h1 | h1 | h1; (have := hAc _ h1; omega); omega; omega⟩
      case h0 =>
        refine ⟨Ac, fun _ => Iff.rfl, h.nY, h.nP, ?_, ?_, ?_⟩
        · rw [List.append_nil]; exact hJ _ _ _ _ h.j (fun k hk => ho1 k (hAc k hk))
        · exact (ho1 _ (by omega)).trans h.y
        · rw [List.append_nil]; exact (ho1 _ (by omega)).trans h.p
      case assign =>
        intro l2 x W2 K hK
        gi_wp2
        exact hK
      case body =>
        rintro l2 pre x A' W2 ⟨A1, hA', hnY, hnP, hj, hy, hpp⟩ hpre hbd
        have hbd1 : ∀ k, A1 k → k < W2.heap.size := fun k hk => hbd k ((hA' k).2 (.inl hk))
        have hnext := part_next hi2 hpre
        have hyl := hY _ _ A1 W2 hj hnext hbd1
        obtain ⟨N, hN⟩ : ∃ N, N = (doneL m f i ++ pre).length := ⟨_, rfl⟩
        rw [← hN] at hpp hyl
        have HN := Lib.hid hN
        have HX := Lib.hid hnext
        have HJ := Lib.hid hj
        have HPR := Lib.hid hpre
        have HAA := Lib.hid hA'
        clear hN hnext hj hpre hA' hix h HF
        obtain ⟨fn, tmps, assign, body, hyy, hRR⟩ := hyl
        dsimp only at hyy
        have hyc := hy.cell
        have hpc := hpp.cell
        have hNb : (N : Int) + 1 ≤ 9223372036854775807 := by
          have h1 := HX.out.length_le
          have h2 := aroundL_le m f
          rw [numb_length, List.length_append, numb_length, ← HN.out] at h1
          simp at h1
          omega
        gi_wp2
        refine RoundIn.mono (roundIn_in l2 hRR) ?_
        have hYlt : W.heap.size < W2.heap.size := hy.lt
        have hPlt : W.heap.size + 1 < W2.heap.size := hpp.lt
        rintro e W3 ⟨A2, ht3, ⟨rfl, hj3⟩ | ⟨rfl, hj3⟩⟩
        · have hy3 := ht3.boxed hnY hy
          have hp3 := ht3.boxed hnP hpp
          have hc3 := hp3.cell
          have hf3 := hp3.frozen
          have hnY3 : ¬ A2 W.heap.size := fun h1 => by rcases ht3.sub _ h1 with h2 | h2; exact hnY h2; omega
          have hnP3 : ¬ A2 (W.heap.size + 1) := fun h1 => by rcases ht3.sub _ h1 with h2 | h2; exact hnP h2; omega
          have HJ3 := Lib.hid hj3
          have HT3 := Lib.hid ht3
          clear hj3 ht3
          gi_wp2
          have hA' := HAA.out
          refine ⟨fun k => A2 k ∨ k = W.heap.size ∨ k = W.heap.size + 1, ?_, A2, fun _ => Iff.rfl, hnY3, hnP3, ?_, ?_, ?_⟩
          · have t1 := (HT3.out.wider (C := A') (fun k hk => (hA' k).2 (.inl hk)) hbd).less (A'' := fun k => A2 k ∨ k = W.heap.size ∨ k = W.heap.size + 1) (fun k hk => by
              rcases hk with h1 | h1 | h1
              · exact .inl h1
              · exact .inr ((hA' k).2 (.inr (.inl h1)))
              · exact .inr ((hA' k).2 (.inr (.inr h1))))
            exact t1.trans (Trip.setBox _ t1.bd (.inr (.inr rfl)))
          · rw [← List.append_assoc, numb_snoc, ← HN.out]
            exact hJ _ _ _ _ HJ3.out (fun k hk => setBox_other _ (fun e => hnP3 (e ▸ hk)))
          · exact (setBox_other _ (by omega)).trans hy3
          · have hb := hp3.set (.int .i64 ((N : Int) + 1))
            rw [← List.append_assoc, List.length_append, ← HN.out]
            exact hb
        · gi_wp2
          have hA' := HAA.out
          refine ⟨_, ht3.wider (C := A') (fun k hk => (hA' k).2 (.inl hk)) hbd, rfl, A2, fun k hk => .inl hk, _, ?_, hj3⟩
          rw [HN.out]
          exact HX.out
      case done =>
        rintro D A2 W2 ht hnD hD ⟨A1, hA2, hnY, hnP, hj, hy, hpp⟩ hK
        have HH := Lib.hid (And.intro ht (And.intro hnD (And.intro hD (And.intro hA2 (And.intro hnY (And.intro hnP (And.intro hj (And.intro hy (And.intro hpp hK)))))))))
        clear ht hnD hD hA2 hnY hnP hj hy hpp hK hix h
        gi_wp2
        obtain ⟨ht, hnD, hD, hA2, hnY, hnP, hj, hy, hpp, hK⟩ := HH.out
        have h := HF.out
        have hold : ∀ E ∈ ds, E < w.heap.size := fun E hE => (Array.getElem?_eq_some_iff.1 (h.ds E hE).1).1
        refine ⟨⟨i + 1, A1, D :: ds, _, _, _, _, _, _, _, _, _, _, _, _, _, _, _, _, by omega, rfl, ?_⟩, by simp [intOf]; omega⟩
        refine ⟨ht1.thru (C' := fun k => Ac k ∨ k = W.heap.size ∨ k = W.heap.size + 1) (fun k hk => ?_) ht (fun k hk => (hA2 k).2 (.inl hk)), by have := ht.size; omega, hj, hnY, hnP, hy, hpp, ?_, ?_⟩
        · rcases hk with h1 | h1 | h1
          · exact .inl h1
          · exact .inr (by omega)
          · exact .inr (by omega)
        · exact List.nodup_cons.2 ⟨fun hm => by have := hold D hm; omega, h.nd⟩
        · intro E hE
          rcases List.mem_cons.1 hE with rfl | hE
          · exact ⟨hK, fun h1 => hnD ((hA2 _).2 (.inl h1)), by omega⟩
          · obtain ⟨e1, e2, e3⟩ := h.ds E hE
            have hEl := hold E hE
            have hnE : ¬ (Ac E ∨ E = W.heap.size ∨ E = W.heap.size + 1) := fun h1 => by rcases h1 with h1 | h1 | h1; exact e2 h1; omega; omega
            refine ⟨(ht.block E (by omega) hnE).trans ((ho1 E hEl).trans e1), fun h1 => ?_, e3⟩
            rcases ht.sub E ((hA2 E).2 (.inl h1)) with h2 | h2
            · exact hnE h2
            · omega
      case stop =>
        rintro D c pre A2 W2 ht hnD hD hpre ⟨rfl, A1, hA1, q, hq, hjx⟩ hK
        have HH := Lib.hid (And.intro ht (And.intro hnD (And.intro hD (And.intro hA1 (And.intro hq (And.intro hjx hK))))))
        clear ht hnD hD hA1 hq hjx hK hix h
        gi_wp2
        obtain ⟨ht, hnD, hD, hA1, hq, hjx, hK⟩ := HH.out
        have h := HF.out
        have hold : ∀ E ∈ ds, E < w.heap.size := fun E hE => (Array.getElem?_eq_some_iff.1 (h.ds E hE).1).1
        have hC : ∀ k, (Ac k ∨ k = W.heap.size ∨ k = W.heap.size + 1) → Ac k ∨ W.heap.size ≤ k := fun k hk => by
          rcases hk with h1 | h1 | h1
          · exact .inl h1
          · exact .inr (by omega)
          · exact .inr (by omega)
        have hnE : ∀ E ∈ ds, ¬ (Ac E ∨ E = W.heap.size ∨ E = W.heap.size + 1) := fun E hE h1 => by
          obtain ⟨e1, e2, e3⟩ := h.ds E hE
          rcases h1 with h1 | h1 | h1
          · exact e2 h1
          · omega
          · omega
        have hnA : ∀ E ∈ D :: ds, ¬ A1 E ∧ W.heap.size ≤ E := fun E hE => by
          rcases List.mem_cons.1 hE with rfl | hE
          · exact ⟨fun h1 => hnD (hA1 _ h1), by omega⟩
          · refine ⟨fun h1 => ?_, by have := (h.ds E hE).2.2; omega⟩
            have hEl := hold E hE
            rcases ht.sub E (hA1 E h1) with h2 | h2
            · exact hnE E hE h2
            · omega
        have htt := ht1.thru (C' := fun k => Ac k ∨ k = W.heap.size ∨ k = W.heap.size + 1) hC ht hA1
        refine leaves_marks (D :: ds) W2 (List.nodup_cons.2 ⟨fun hm => by have := hold D hm; omega, h.nd⟩) (fun E hE => ?_) (fun w' g1 g2 g3 g4 g5 => ?_)
        · rcases List.mem_cons.1 hE with rfl | hE
          · exact hK
          · exact (ht.block E (by have := hold E hE; omega) (hnE E hE)).trans ((ho1 E (hold E hE)).trans (h.ds E hE).1)
        · refine ⟨_, results_none rfl _ _ _, ⟨_, rfl⟩, A1, ?_, .inr ⟨q, hq, hJx _ _ _ _ hjx (fun k hk => g5 k (fun hm => (hnA k hm).1 hk))⟩⟩
          exact ⟨g1.trans htt.os, g2.trans htt.tape, g3.trans htt.output, by rw [g4]; exact htt.size, fun k hk hn => (g5 k (fun hm => by have := (hnA k hm).2; omega)).trans (htt.block k hk hn), htt.sub, fun k hk => by rw [g4]; exact htt.bd k hk⟩
    · obtain rfl : i = 2 := by omega
      clear h
      gi_wp2
      have h := HF.out
      have htt := h.trip
      refine leaves_marks ds w h.nd (fun E hE => (h.ds E hE).1) (fun w' g1 g2 g3 g4 g5 => ?_)
      refine ⟨_, results_none rfl _ _ _, ⟨_, rfl⟩, Ac, ?_, .inl (hJ _ _ _ _ h.j (fun k hk => g5 k (fun hm => (h.ds k hm).2.1 hk)))⟩
      exact ⟨g1.trans htt.os, g2.trans htt.tape, g3.trans htt.output, by rw [g4]; exact htt.size, fun k hk hn => (g5 k (fun hm => by have := (h.ds k hm).2.2; omega)).trans (htt.block k hk hn), htt.sub, fun k hk => by rw [g4]; exact htt.bd k hk⟩
end Go.Proofs.YtjfeaepjhnpbfaaDoor
