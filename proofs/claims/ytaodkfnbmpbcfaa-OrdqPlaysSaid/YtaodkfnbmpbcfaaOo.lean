/- Queues: Above, Over. -/
import Derived.Test.YtaodkfnbmpbcfaaOn
namespace Go.Proofs.Ytaodkfnbmpbcfaa
open Go.RowKit Go.Shelf
attribute [local go_sem] Oper.semAt_some wide_fn wide_depth

/-- Those above a key. -/
def overL (L : List QI) (key : Int) : List QI := L.filter (fun x => decide (key < x.1))
theorem overL_snoc_yes {L : List QI} {key : Int} {x : QI} (h : key < x.1) : overL (L ++ [x]) key = overL L key ++ [x] := by simp [overL, h]
theorem overL_snoc_no {L : List QI} {key : Int} {x : QI} (h : ¬ key < x.1) : overL (L ++ [x]) key = overL L key := by simp [overL, h]
theorem overL_le {a b : List QI} {key : Int} (h : a <+: b) : overL a key <+: overL b key := by
  obtain ⟨t, rfl⟩ := h
  exact ⟨overL t key, by simp [overL]⟩
theorem overL_length (L : List QI) (key : Int) : (overL L key).length ≤ L.length := List.length_filter_le _ _

/-- Within the loop of Above: the caller's J at what has come; two boxes hold yield and the key. -/
def AboveI (J : List QI → (Nat → Prop) → World → Prop) (Y r2 l : Nat) (key : Int) (pre : List (Nat × QI)) (A' : Nat → Prop) (w : World) : Prop :=
  ∃ A1 : Nat → Prop, (∀ k, A' k ↔ A1 k ∨ k = Y ∨ k = r2) ∧ ¬ A1 Y ∧ ¬ A1 r2 ∧ J (overL (pre.map (·.2)) key) A1 w ∧ Boxed w Y 96 (.func (.yield l) #[] #[]) ∧ Boxed w r2 2 (.int .i64 key)
def AboveX (Jx : List QI → (Nat → Prop) → World → Prop) (r2 : Nat) (key : Int) (xs : List QI) (c : Code) (_pre : List (Nat × QI)) (A' : Nat → Prop) (w : World) : Prop :=
  c = .ret ∧ A' r2 ∧ Boxed w r2 2 (.int .i64 key) ∧ ∃ A1 : Nat → Prop, (∀ k, A1 k → A' k) ∧ ¬ A1 r2 ∧ ∃ q, q <+: xs ∧ Jx q A1 w
theorem aboveI_loc {J : List QI → (Nat → Prop) → World → Prop} (hJ : Loc J) (Y r2 l : Nat) (key : Int) : Loc (AboveI J Y r2 l key) := by
  rintro s A' X Z ⟨A1, h1, h2, h3, h4, h5, h6⟩ hs
  exact ⟨A1, h1, h2, h3, hJ _ _ _ _ h4 (fun k hk => hs k ((h1 k).2 (.inl hk))), (hs _ ((h1 _).2 (.inr (.inl rfl)))).trans h5, (hs _ ((h1 _).2 (.inr (.inr rfl)))).trans h6⟩
theorem aboveX_loc {Jx : List QI → (Nat → Prop) → World → Prop} (hJ : Loc Jx) (r2 : Nat) (key : Int) (xs : List QI) (c : Code) : Loc (AboveX Jx r2 key xs c) := by
  rintro s A' X Z ⟨h0, hr, hb, A1, h1, hn, q, h2, h3⟩ hs
  exact ⟨h0, hr, (hs r2 hr).trans hb, A1, h1, hn, q, h2, hJ _ _ _ _ h3 (fun k hk => hs k (h1 k hk))⟩

theorem base_less {w : World} {base base' : Nat} {v : Value} {L : List QI} (h : MadeQ w base v L) (hb : base' ≤ base) : MadeQ w base' v L := by
  refine ⟨h.1, ?_⟩
  rcases h.2 with h2 | ⟨g, cap, cur, h1, h2, h3⟩
  · exact .inl h2
  · exact .inr ⟨g, cap, cur, h1, by omega, h3⟩
theorem above_trip {A A1 A2 : Nat → Prop} {W w1 W2 w' : World} {r2 D : Nat} {key : Int} (hb1 : Below W.heap.size W w1) (ht : Trip (fun k => A k ∨ k = W.heap.size ∨ k = r2) w1 A2 W2) (hs1 : w1.heap.size = W.heap.size + 2) (hr2 : r2 < W.heap.size)
    (hkW : Boxed W r2 2 (.int .i64 key)) (hkb : Boxed W2 r2 2 (.int .i64 key)) (hD : w1.heap.size ≤ D) (hA : ∀ k, A1 k → A2 k) (hn : ¬ A1 r2)
    (g1 : w'.os = W2.os) (g2 : w'.tape = W2.tape) (g3 : w'.output = W2.output) (g4 : w'.heap.size = W2.heap.size) (g5 : ∀ k, k ∉ [D] → w'.heap[k]? = W2.heap[k]?) : Trip A W A1 w' := by
  have s1 := ht.size
  refine ⟨g1.trans (ht.os.trans hb1.os), g2.trans (ht.tape.trans hb1.tape), g3.trans (ht.output.trans hb1.output), by omega, fun k hk hnk => ?_, fun k hk => ?_, fun k hk => by rw [g4]; exact ht.bd k (hA k hk)⟩
  · have e1 := g5 k (by simp; omega)
    by_cases h : k = r2
    · subst h
      exact e1.trans ((show W2.heap[k]? = _ from hkb).trans (show W.heap[k]? = _ from hkW).symm)
    · exact e1.trans ((ht.block k (by omega) (fun h' => by rcases h' with h1 | h1 | h1; exact hnk h1; omega; exact h h1)).trans (hb1.block k hk))
  · rcases ht.sub k (hA k hk) with (h | h | h) | h
    · exact .inl h
    · exact .inr (by omega)
    · subst h; exact absurd hk hn
    · exact .inr (by omega)

set_option maxRecDepth 100000 in
set_option maxHeartbeats 2000000 in
theorem qabove1_gives (r r2 b mp : Nat) (most s key : Int) (v : Value) (L : List QI) (W0 : World) (hr : W0.heap[r]? = some (.cells #[.pointer (some ⟨b, 0, none⟩)] 24 (0, 0))) (hk : Boxed W0 r2 2 (.int .i64 key)) (hq : IsQ W0 b most s L v mp) (hL : L.length ≤ 1000000) :
    Gives Try.prog 46 #[.pointer (some ⟨r, 0, none⟩), .pointer (some ⟨r2, 0, none⟩)] (fun x : QI => #[Value.agg (encQ x).toArray]) (overL L key) (fun k => QOf b v mp k ∨ k = r ∨ k = r2) W0 := by
  intro l J Jx A W hJ hJx hA hR hY h0
  obtain ⟨hR1, hR2, hR3⟩ := hR r (.inr (.inl rfl))
  obtain ⟨hT1, hT2, hT3⟩ := hR r2 (.inr (.inr rfl))
  have hqW : IsQ W b most s L v mp := hq.keep (fun k hk => (hR k (.inl hk)).2.1)
  have hqA : ∀ k, QOf b v mp k → ¬ A k := fun k hk => (hR k (.inl hk)).2.2
  have hkW : Boxed W r2 2 (.int .i64 key) := hT2.trans hk
  have c0 : W.cell? ⟨r, 0, none⟩ = some (.pointer (some ⟨b, 0, none⟩)) := by simp [World.cell?, hR2.trans hr]
  have hr2b : r2 ≠ b := fun e => by
    have h1 : W.heap[r2]? = _ := hkW
    rw [e] at h1
    have h2 := h1.symm.trans (show W.heap[b]? = _ from hqW.box)
    injection h2 with h2
    injection h2 with _ h2
    cases h2
  have hr2v : v.ownBlock ≠ some r2 := fun e => by
    rcases hqW.row.2 with ⟨h1, _⟩ | ⟨g, cap, cur, h1, _, h3, _⟩
    · rw [h1] at e; cases e
    · rw [h1] at e
      simp [Value.ownBlock] at e
      rw [e] at h3
      have h2 := (show W.heap[r2]? = _ from hkW).symm.trans h3
      injection h2 with h2
      injection h2 with _ h2
      cases h2
  clear hR hr hk hq hR2 hT2
  refine callsIn_of_wp_marks Try.func46 rfl trivial ?_ rfl
  simp only [Try.ntmps46, List.size_toArray, List.length_cons, List.length_nil, Nat.reduceAdd, Nat.reduceSub, Array.replicate_succ, Array.replicate_zero, List.push_toArray, List.append_toArray, List.nil_append, List.cons_append]
  gi_wp2_with (gi_at_call 35; refine (callsIn_wide.2 (qall_c b _)).mono ?_; rintro e w' ⟨rfl, rfl⟩)
  obtain ⟨w1, hw1⟩ : ∃ w1, (W.alloc (Obj.cells #[Value.func (.yield l) #[] #[]] 96)).alloc (Obj.cells #[Value.pointer (some ⟨b, 0, none⟩)] 24) = w1 := ⟨_, rfl⟩
  have bY : Boxed w1 W.heap.size 96 (.func (.yield l) #[] #[]) := by rw [← hw1]; exact (Boxed.new W _ _).alloc _
  have hs1 : w1.heap.size = W.heap.size + 2 := by rw [← hw1]; simp
  have ho1 : ∀ k, k < W.heap.size → w1.heap[k]? = W.heap[k]? := fun k hk => by rw [← hw1, Below.heap_alloc _ _ _ (by simp; omega), Below.heap_alloc _ _ _ hk]
  have hb1 : Below W.heap.size W w1 := by rw [← hw1]; exact ((Below.refl _ W).alloc (Nat.le_refl _) _).alloc (by simp) _
  have hr1 : w1.heap[W.heap.size + 1]? = some (.cells #[.pointer (some ⟨b, 0, none⟩)] 24 (0, 0)) := by
    rw [← hw1]
    have := World.alloc_heap_new (W.alloc (Obj.cells #[Value.func (.yield l) #[] #[]] 96)) (Obj.cells #[Value.pointer (some ⟨b, 0, none⟩)] 24)
    rwa [World.size_alloc] at this
  have hq1 := isQ_below hqW hb1
  have hqlt := hqW.lt
  have hseq := qall1_gives (W.heap.size + 1) b mp most s v L w1 hr1 hq1 hL
  rw [hw1]
  clear hw1 hr1 hq1 c0
  refine wpRb (α := Nat × QI) (gf := 43) (lb := #[.pointer (some ⟨W.heap.size + 1, 0, none⟩)]) rfl (enters_of Try.func43 (by kernel_rfl) rfl) hseq (fun _ => rfl) (fun k => A k ∨ k = W.heap.size ∨ k = r2) ?hA ?hR
    (AboveI J W.heap.size r2 l key) (AboveX Jx r2 key (overL L key)) (aboveI_loc hJ _ _ _ _) (fun c => aboveX_loc hJx _ _ _ c) ?h0
    (fun x => .cells (encQ x.2).toArray 40)
    (fun x r' => { tmps := #[.func (.yield l) #[] #[], .pointer (some ⟨r, 0, none⟩), .pointer (some ⟨r2, 0, none⟩), .pointer (some ⟨W.heap.size, 0, none⟩), undef, .pointer (some ⟨r', 0, none⟩), .pointer (some ⟨b, 0, none⟩), .func (.func 43) #[] #[.pointer (some ⟨W.heap.size + 1, 0, none⟩)], .int .i64 x.1, .agg (encQ x.2).toArray, undef, undef, undef, undef, undef, undef, undef, undef, undef, undef], defers := [] }) ?assign ?body ?done ?stop
  case hA =>
    rintro k (h | rfl | rfl)
    · have := hA k h; omega
    · omega
    · omega
  case hR =>
    rintro k (rfl | rfl | hk)
    · exact ⟨by omega, rfl, fun h => by rcases h with h | h | h; (have := hA _ h; omega); omega; omega⟩
    · have := hqlt k (.inl rfl)
      exact ⟨by omega, rfl, fun h => by rcases h with h | h | h; exact hqA _ (.inl rfl) h; omega; exact hr2b h.symm⟩
    · have := hqlt k (.inr (.inr hk))
      exact ⟨by omega, rfl, fun h => by rcases h with h | h | h; exact hqA _ (.inr (.inr hk)) h; omega; exact hr2v (by rw [← h]; exact hk)⟩
  case h0 => exact ⟨A, fun _ => Iff.rfl, fun h => by have := hA _ h; omega, hT3, by simp only [List.map_nil]; exact hJ _ _ _ _ h0 (fun k hk => ho1 k (hA k hk)), bY, (ho1 r2 hT1).trans hkW⟩
  case assign =>
    intro l2 x W2 K hK
    obtain ⟨x2, x0, x1⟩ := x
    simp only [encQ] at hK ⊢
    gi_wp2
    exact hK
  case body =>
    rintro l2 pre x A' W2 r' ⟨A1, hA', hnY, hnP, hj, hy, hkb⟩ hpre hbd hrA hbox
    obtain ⟨x2, x0, x1⟩ := x
    have y0 : W2.cell? ⟨r', 0, none⟩ = some (.int .i64 x0) := by simp [World.cell?, hbox, encQ]
    have y1 : W2.cell? ⟨r', 1, none⟩ = some (.int .i64 x1) := by simp [World.cell?, hbox, encQ]
    have hbd1 : ∀ k, A1 k → k < W2.heap.size := fun k hk => hbd k ((hA' k).2 (.inl hk))
    have hyc := hy.cell
    have hkc := hkb.cell
    simp only [encQ]
    by_cases hlt : key < x0
    · have hnext : overL (pre.map (·.2)) key ++ [(x0, x1)] <+: overL L key := by
        rw [← overL_snoc_yes (L := pre.map (·.2)) (x := (x0, x1)) hlt]
        have := overL_le (key := key) (List.IsPrefix.map (·.2) hpre)
        rw [numQ_snd] at this
        simpa using this
      obtain ⟨fn, tmps, assign, body, hyy, hRR⟩ := hY _ (x0, x1) A1 W2 hj hnext hbd1
      simp only [encQ] at hyy
      have HRR := Lib.hid hRR
      have HX := Lib.hid hnext
      have HAA := Lib.hid hA'
      clear hRR hnext hj hpre hA' hbox
      gi_wp2
      refine RoundIn.mono (roundIn_in l2 HRR.out) ?_
      have hYlt : W.heap.size < W2.heap.size := hy.lt
      have hPlt : r2 < W2.heap.size := hkb.lt
      rintro e W3 ⟨A2, ht3, ⟨rfl, hj3⟩ | ⟨rfl, hj3⟩⟩
      · have hy3 := ht3.boxed hnY hy
        have hk3 := ht3.boxed hnP hkb
        have hnY3 : ¬ A2 W.heap.size := fun h1 => by rcases ht3.sub _ h1 with h2 | h2; exact hnY h2; omega
        have hnP3 : ¬ A2 r2 := fun h1 => by rcases ht3.sub _ h1 with h2 | h2; exact hnP h2; omega
        have HJ3 := Lib.hid hj3
        have HT3 := Lib.hid ht3
        clear hj3 ht3
        gi_wp2
        have hA' := HAA.out
        refine ⟨fun k => A2 k ∨ k = W.heap.size ∨ k = r2, ?_, A2, fun _ => Iff.rfl, hnY3, hnP3, ?_, hy3, hk3⟩
        · exact (HT3.out.wider (C := A') (fun k hk => (hA' k).2 (.inl hk)) hbd).less (A'' := fun k => A2 k ∨ k = W.heap.size ∨ k = r2) (fun k hk => by
            rcases hk with h1 | h1 | h1
            · exact .inl h1
            · exact .inr ((hA' k).2 (.inr (.inl h1)))
            · exact .inr ((hA' k).2 (.inr (.inr h1))))
        · rw [List.map_append]
          simp only [List.map_cons, List.map_nil]
          rw [overL_snoc_yes (by exact hlt)]
          exact HJ3.out
      · have hk3 := ht3.boxed hnP hkb
        have hnP3 : ¬ A2 r2 := fun h1 => by rcases ht3.sub _ h1 with h2 | h2; exact hnP h2; omega
        gi_wp2
        have hA' := HAA.out
        exact ⟨_, ht3.wider (C := A') (fun k hk => (hA' k).2 (.inl hk)) hbd, rfl, .inr ((hA' r2).2 (.inr (.inr rfl))), hk3, A2, fun k hk => .inl hk, hnP3, _, HX.out, hj3⟩
    · have HH : Hid (AboveI J W.heap.size r2 l key (pre ++ [(x2, x0, x1)]) A' W2) := Lib.hid ⟨A1, hA', hnY, hnP, by rw [List.map_append]; simp only [List.map_cons, List.map_nil]; rw [overL_snoc_no (by exact hlt)]; exact hj, hy, hkb⟩
      have HBD := Lib.hid hbd
      clear hA' hj hpre hbox hbd hbd1
      gi_wp2
      exact ⟨A', Trip.refl HBD.out, HH.out⟩
  case done =>
    rintro D A2 W2 ht hnD hD ⟨A1, hA2, hnY, hnP, hj, hy, hkb⟩ hK
    have HH := Lib.hid (And.intro ht (And.intro hnD (And.intro hD (And.intro hA2 (And.intro hnY (And.intro hnP (And.intro hj (And.intro hy (And.intro hkb hK)))))))))
    clear ht hnD hD hA2 hnY hnP hj hy hkb hK
    gi_wp2
    obtain ⟨ht, hnD, hD, hA2, hnY, hnP, hj, hy, hkb, hK⟩ := HH.out
    refine leaves_marks [D] W2 (by simp) (fun E hE => by simp at hE; rw [hE]; exact hK) (fun w' g1 g2 g3 g4 g5 => ?_)
    have hDA : ∀ k, A1 k → k ∉ [D] := fun k hk hm => hnD ((hA2 D).2 (.inl (by simp at hm; rw [← hm]; exact hk)))
    rw [numQ_snd] at hj
    refine ⟨_, results_none rfl _ _ _, ⟨_, rfl⟩, A1, ?_, .inl (hJ _ _ _ _ hj (fun k hk => g5 k (hDA k hk)))⟩
    exact above_trip hb1 ht hs1 hT1 hkW hkb hD (fun k hk => (hA2 k).2 (.inl hk)) hnP g1 g2 g3 g4 g5
  case stop =>
    rintro D c pre A2 W2 ht hnD hD hpre ⟨rfl, hr2', hkb, A1, hA1, hn1, q, hq, hjx⟩ hK
    have HH := Lib.hid (And.intro ht (And.intro hnD (And.intro hD (And.intro hA1 (And.intro hq (And.intro hjx (And.intro hK (And.intro hkb hn1))))))))
    clear ht hnD hD hA1 hq hjx hK hkb hn1 hr2'
    gi_wp2
    obtain ⟨ht, hnD, hD, hA1, hq, hjx, hK, hkb, hn1⟩ := HH.out
    refine leaves_marks [D] W2 (by simp) (fun E hE => by simp at hE; rw [hE]; exact hK) (fun w' g1 g2 g3 g4 g5 => ?_)
    have hDA : ∀ k, A1 k → k ∉ [D] := fun k hk hm => hnD (hA1 D (by simp at hm; rw [← hm]; exact hk))
    refine ⟨_, results_none rfl _ _ _, ⟨_, rfl⟩, A1, ?_, .inr ⟨q, hq, hJx _ _ _ _ hjx (fun k hk => g5 k (hDA k hk))⟩⟩
    exact above_trip hb1 ht hs1 hT1 hkW hkb hD hA1 hn1 g1 g2 g3 g4 g5

set_option maxHeartbeats 1000000 in
theorem qabove_c (b : Nat) (key : Int) (w : World) : Calls Try.prog 37 #[.pointer (some ⟨b, 0, none⟩), .int .i64 key] w fun e w' =>
    e = .returned (.func (.func 46) #[] #[.pointer (some ⟨w.heap.size, 0, none⟩), .pointer (some ⟨w.heap.size + 1, 0, none⟩)]) ∧ w' = (w.alloc (.cells #[.pointer (some ⟨b, 0, none⟩)] 24)).alloc (.cells #[.int .i64 key] 2) := by
  go_enter Try.func37, Try.ntmps37
  go_wp2
  go_ret
  exact ⟨rfl, rfl⟩

set_option maxRecDepth 100000 in
set_option maxHeartbeats 2000000 in
/-- q.Over(key). -/
theorem qover_c (b mp : Nat) (most s key : Int) (v : Value) (L : List QI) (w : World) (hq : IsQ w b most s L v mp) (hL : L.length ≤ 1000000) :
    Calls Try.prog 19 #[.pointer (some ⟨b, 0, none⟩), .int .i64 key] w fun e w' => ∃ v', e = .returned v' ∧ MadeQ w' w.heap.size v' (overL L key) ∧ Below w.heap.size w w' := by
  have hbw := hq.box.lt
  have hqlt := hq.lt
  obtain ⟨w1, hw1⟩ : ∃ w1, (w.alloc (.cells #[.pointer (some ⟨b, 0, none⟩)] 24)).alloc (.cells #[.int .i64 key] 2) = w1 := ⟨_, rfl⟩
  have hb1 : Below w.heap.size w w1 := by rw [← hw1]; exact ((Below.refl _ w).alloc (Nat.le_refl _) _).alloc (by simp) _
  have hs1 : w1.heap.size = w.heap.size + 2 := by rw [← hw1]; simp
  have hr : w1.heap[w.heap.size]? = some (.cells #[.pointer (some ⟨b, 0, none⟩)] 24 (0, 0)) := by rw [← hw1, Below.heap_alloc _ _ _ (by simp)]; exact World.alloc_heap_new _ _
  have hk : Boxed w1 (w.heap.size + 1) 2 (.int .i64 key) := by
    rw [← hw1]
    have := Boxed.new (w.alloc (.cells #[.pointer (some ⟨b, 0, none⟩)] 24)) 2 (.int .i64 key)
    rwa [World.size_alloc] at this
  have hseq := qabove1_gives w.heap.size (w.heap.size + 1) b mp most s key v L w1 hr hk (isQ_below hq hb1) hL
  have KC := Lib.hid (qcollect_c 46 _ (overL L key) _ w1 (enters_of Try.func46 (by kernel_rfl) rfl) hseq (fun k hk => by
    rcases hk with h | h | h
    · have := hqlt k h; omega
    · omega
    · omega) (by have := overL_length L key; omega))
  have HB := Lib.hid hb1
  clear hseq hr hk hq hqlt hb1
  go_enter Try.func19, Try.ntmps19
  go_wp2_with (first
    | (go_at_call 37; refine (qabove_c b key _).mono ?_; rintro e w' ⟨rfl, rfl⟩; rw [hw1])
    | (go_at_call 36; refine (KC.out).mono ?_; rintro e w' ⟨v', rfl, h1, h2⟩; obtain ⟨A, c, rfl⟩ := row_form h1))
  go_ret
  refine ⟨_, rfl, base_less h1 (by omega), HB.out.trans (h2.mono (by omega))⟩
end Go.Proofs.Ytaodkfnbmpbcfaa
