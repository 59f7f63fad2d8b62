/- Groups: slices.Collect; Chain, All, Depth, Under. -/
import Derived.Test.YtbhcooomdjhoiaaVc
namespace Go.Proofs.Ytbhcooomdjhoiaa
open Go.RowKit Go.Shelf

/-- What gives under the caller's own word gives also where the caller keeps clear of what is read. -/
theorem Gives3.gives {α : Type} {P : Program} {g : Nat} {lb : Array Value} {encs : α → Array Value} {xs : List α} {R : Nat → Prop} {W0 : World} (h : Gives3 P g lb encs xs R W0) : Gives P g lb encs xs R W0 := by
  intro l J Jx A W hJ hJx hA hR hY h0
  have hlt : ∀ {W1 : World} {k : Nat}, R k → W1.heap[k]? = W0.heap[k]? → k < W1.heap.size := fun {W1 k} hk he => by
    obtain ⟨h1, h2, _⟩ := hR k hk
    rw [← h2, Array.getElem?_eq_getElem h1] at he
    exact (Array.getElem?_eq_some_iff.1 he).1
  refine (h l (fun pre A' W' => ∃ A0 : Nat → Prop, (∀ k, A' k ↔ A0 k ∨ R k) ∧ (∀ k, R k → ¬ A0 k) ∧ J pre A0 W' ∧ ∀ k, R k → W'.heap[k]? = W0.heap[k]?)
    (fun pre A' W' => ∃ A0 : Nat → Prop, (∀ k, A' k ↔ A0 k ∨ R k) ∧ (∀ k, R k → ¬ A0 k) ∧ Jx pre A0 W' ∧ ∀ k, R k → W'.heap[k]? = W0.heap[k]?)
    (fun k => A k ∨ R k) W ?_ ?_ ?_ ?_ ?_ ⟨A, fun _ => Iff.rfl, fun k hk => (hR k hk).2.2, h0, fun k hk => (hR k hk).2.1⟩).mono ?_
  · rintro s A' X Y ⟨A0, h1, h2, h3, h4⟩ hs
    exact ⟨A0, h1, h2, hJ _ _ _ _ h3 (fun k hk => hs k ((h1 k).2 (.inl hk))), fun k hk => (hs k ((h1 k).2 (.inr hk))).trans (h4 k hk)⟩
  · rintro s A' X Y ⟨A0, h1, h2, h3, h4⟩ hs
    exact ⟨A0, h1, h2, hJx _ _ _ _ h3 (fun k hk => hs k ((h1 k).2 (.inl hk))), fun k hk => (hs k ((h1 k).2 (.inr hk))).trans (h4 k hk)⟩
  · rintro k (hk | hk)
    · exact hA k hk
    · exact (hR k hk).1
  · rintro pre A' W1 ⟨A0, _, _, _, h4⟩ k hk
    exact ⟨hlt hk (h4 k hk), h4 k hk⟩
  · rintro pre x A' W1 ⟨A0, h1, h2, h3, h4⟩ hpre hbd
    obtain ⟨fn, tmps, assign, body, hy, hRd⟩ := hY pre x A0 W1 h3 hpre (fun k hk => hbd k ((h1 k).2 (.inl hk)))
    refine ⟨fn, tmps, assign, body, hy, hRd.mono ?_⟩
    rintro e W' ⟨A2, ht, hj⟩
    have hn : ∀ k, R k → ¬ A2 k := fun k hk ha => by
      rcases ht.sub k ha with h5 | h5
      · exact h2 k hk h5
      · have := hlt hk (h4 k hk); omega
    have hr : ∀ k, R k → W'.heap[k]? = W0.heap[k]? := fun k hk => (ht.block k (hlt hk (h4 k hk)) (h2 k hk)).trans (h4 k hk)
    refine ⟨fun k => A2 k ∨ R k, ?_, ?_⟩
    · refine (ht.wider (C := A') (fun k hk => (h1 k).2 (.inl hk)) hbd).less (fun k hk => ?_)
      rcases hk with hk | hk
      · exact .inl hk
      · exact .inr ((h1 k).2 (.inr hk))
    · rcases hj with ⟨rfl, hj⟩ | ⟨rfl, hj⟩
      · exact .inl ⟨rfl, A2, fun _ => Iff.rfl, hn, hj, hr⟩
      · exact .inr ⟨rfl, A2, fun _ => Iff.rfl, hn, hj, hr⟩
  · rintro e W' ⟨hv, A2, ht, hj⟩
    refine ⟨hv, ?_⟩
    have key : ∀ A0 : Nat → Prop, (∀ k, A2 k ↔ A0 k ∨ R k) → (∀ k, R k → ¬ A0 k) → (∀ k, R k → W'.heap[k]? = W0.heap[k]?) → Trip A W A0 W' := fun A0 h1 h2 h4 => by
      refine ⟨ht.os, ht.tape, ht.output, ht.size, fun k hk hn => ?_, fun k hk => ?_, fun k hk => ht.bd k ((h1 k).2 (.inl hk))⟩
      · by_cases hr : R k
        · exact (h4 k hr).trans (hR k hr).2.1.symm
        · exact ht.block k hk (fun h => by rcases h with h | h; exact hn h; exact hr h)
      · rcases ht.sub k ((h1 k).2 (.inl hk)) with (h | h) | h
        · exact .inl h
        · exact absurd hk (h2 k h)
        · exact .inr h
    rcases hj with ⟨A0, h1, h2, h3, h4⟩ | ⟨pre, hpre, A0, h1, h2, h3, h4⟩
    · exact ⟨A0, key A0 h1 h2 h4, .inl h3⟩
    · exact ⟨A0, key A0 h1 h2 h4, .inr ⟨pre, hpre, h3⟩⟩

theorem info_intV : (Try.prog.info? 3).map (fun i => (i.zero, i.size, i.bytes)) = some (some (.int .i64 0), 1, 8) := by kernel_rfl

/-- A list of natural numbers as Go's ints. -/
def ints64 (l : List Nat) : List Int := l.map fun (x : Nat) => (x : Int)
theorem ints64_length (l : List Nat) : (ints64 l).length = l.length := by simp [ints64]

attribute [local go_sem] Oper.semAt_some wide_fn wide_depth

set_option maxRecDepth 100000 in
set_option maxHeartbeats 1000000 in
/-- slices.AppendSeq(nil, seq). -/
theorem appendSeq_c (gf : Nat) (lb : Array Value) (xs : List Nat) (R : Nat → Prop) (w : World) (eg : ∀ args w, (callFunc gf args).run Try.prog w = .ok (.enter gf args) w)
    (hseq : Gives Try.prog gf lb (fun x : Nat => #[Value.int .i64 x]) xs R w) (hR : ∀ k, R k → k < w.heap.size) (hl : xs.length ≤ 1000) :
    Calls Try.prog 28 #[.slice none 0 0, .func (.func gf) #[] lb] w fun e w' => ∃ v, e = .returned v ∧ OwnI .i64 w' w.heap.size 3 v (ints64 xs) ∧ Below w.heap.size w w' := by
  obtain ⟨i0, hi, hz0, hz1, hz2⟩ := info_parts info_intV
  refine (callsIn_wide (n := 0)).1 ?_
  refine callsIn_of_wp_marks Try.func28 rfl trivial ?_ rfl
  simp only [Try.ntmps28, List.size_toArray, List.length_cons, List.length_nil, Nat.reduceAdd, Nat.reduceSub, Array.replicate_succ, Array.replicate_zero, List.push_toArray, List.append_toArray, List.nil_append, List.cons_append]
  gi_wp2
  have bO := Boxed.new w 31 (.slice none 0 0)
  obtain ⟨w1, hw1⟩ : ∃ w1, w.alloc (Obj.cells #[Value.slice none 0 0] 31) = w1 := ⟨_, rfl⟩
  rw [hw1] at bO ⊢
  have hs1 : w1.heap.size = w.heap.size + 1 := by rw [← hw1]; simp
  have ho1 : ∀ k, k < w.heap.size → w1.heap[k]? = w.heap[k]? := fun k hk => by rw [← hw1]; exact Below.heap_alloc _ _ _ hk
  have hb1 : Below w.heap.size w w1 := by rw [← hw1]; exact (Below.refl _ _).alloc (Nat.le_refl _) _
  refine wpR (α := Nat) (gf := gf) (lb := lb) rfl eg hseq (fun _ => rfl) (fun k => k = w.heap.size) ?hA ?hR
    (CollI w.heap.size w.heap.size 31 3 (fun x : Nat => Value.int .i64 x)) (fun _ _ _ _ => False) (collI_loc _ _ _ _ _) (fun _ _ _ _ _ hs _ => hs) ?h0
    (fun x => { tmps := #[.slice none 0 0, .func (.func gf) #[] lb, .pointer (some ⟨w.heap.size, 0, none⟩), undef, .slice none 0 0, .int .i64 x, .func (.func gf) #[] lb, .int .i64 x, undef, undef, undef, undef, undef], defers := [] }) ?assign ?body ?done ?stop
  case hA => rintro k rfl; omega
  case hR =>
    intro k hk
    have := hR k hk
    exact ⟨by omega, ho1 k this, by omega⟩
  case h0 => exact ⟨_, bO, World.ownsRow_nil _ _ _ _, by simp [Value.ownBlock]⟩
  case assign =>
    intro l x W K hK
    gi_wp2
    exact hK
  case body =>
    rintro l pre x A1 W ⟨v, hv, hrow, hAv⟩ hpre hbd
    have hc := hv.cell
    have hlt := hv.lt
    have hpl : pre.length + 1 ≤ 1000 := by have := hpre.length_le; simp at this; omega
    have HPR := Lib.hid hpre
    have HAV := Lib.hid hAv
    clear hpre hAv
    gi_wp2_with (gi_at_builtin; refine wpListIn_where _ rfl _ _ 31 rfl w.heap.size 3 i0 (.int .i64 0) 1 8 Try.underlying31 hi hz0 hz1 hz2 rfl (by decide) _ _ _ rfl (hrow.alloc _) ⟨W.heap.size, 0, none⟩ 1 1 [.int .i64 x] rfl rfl (cell_one_new _ _ _) (by simp [Value.oneCell']) (by unfold maxLen; omega) (by omega) (by simp; omega) ?_; intro v' w2 hown' hgrow hwh; obtain ⟨g', cap', rfl⟩ := ownsRow_succ hown'; obtain ⟨hv1, hv2, hr2, ht2⟩ := app_trip hv (by decide) hrow hown' hgrow hwh; have hc1 := hv1.cell; have hf1 := hv1.frozen)
    exact ⟨_, ht2.from HAV.out, _, hv2, by simpa using hr2, fun _ => Iff.rfl⟩
  case done =>
    rintro D A2 W ht hnD hD ⟨v, hv, hrow, hAv⟩ hK
    have hc := hv.cell
    have HT := Lib.hid ht
    have HAV := Lib.hid hAv
    clear ht hAv
    gi_wp2
    refine ⟨by simp, .inl ⟨_, _, rfl, run_takeDeferred hK, ?_⟩⟩
    refine ⟨_, results_tmp rfl _ _ _, v, rfl, ?_, ?_⟩
    · have h1 := ownsRow_putObj hrow (.deferred none) hK rfl
      unfold OwnI ints64
      rw [List.length_map, List.map_map]
      exact h1
    · exact hb1.trans ((HT.out.putObj hD _).below (fun k hk => by omega) (by omega))
  case stop =>
    rintro D c pre A2 W _ _ _ _ h _
    exact h.elim

set_option maxHeartbeats 1000000 in
/-- slices.Collect(seq). -/
theorem collect_c (gf : Nat) (lb : Array Value) (xs : List Nat) (R : Nat → Prop) (w : World) (eg : ∀ args w, (callFunc gf args).run Try.prog w = .ok (.enter gf args) w)
    (hseq : Gives Try.prog gf lb (fun x : Nat => #[Value.int .i64 x]) xs R w) (hR : ∀ k, R k → k < w.heap.size) (hl : xs.length ≤ 1000) :
    Calls Try.prog 24 #[.func (.func gf) #[] lb] w fun e w' => ∃ v, e = .returned v ∧ OwnI .i64 w' w.heap.size 3 v (ints64 xs) ∧ Below w.heap.size w w' := by
  go_enter Try.func24, Try.ntmps24
  go_wp2_with (go_at_call 28; refine (appendSeq_c gf lb xs R _ eg hseq hR hl).mono ?_; rintro e w' ⟨v, rfl, h1, h2⟩; obtain ⟨A, c, rfl, _, _, _⟩ := h1.form)
  go_ret
  exact ⟨_, rfl, h1, h2⟩

/-- The iterator as it lies behind the call that made it. -/
theorem climb_gives {b n : Nat} {id : Int} {G : List GR} {w w' : World} (hs : IsG w b G) (hw : WfG G) (hn : n = w.heap.size) (p1 : w'.heap[n + 1]? = some (.cells #[.int .i64 id] 3 (0, 0))) (p2 : w'.heap[n]? = some (.cells #[.pointer (some ⟨b, 0, none⟩)] 23 (0, 0))) (p3 : w'.heap.size = n + 2) (p4 : Below n w w') :
    Gives3 Try.prog 29 #[.pointer (some ⟨n + 1, 0, none⟩), .pointer (some ⟨n, 0, none⟩)] (fun x : Nat => #[Value.int .i64 x]) (chI G id) (NReads (n + 1) n b) w' ∧ (∀ k, NReads (n + 1) n b k → k < w'.heap.size) ∧ IsG w' b G ∧ Below w.heap.size w w' := by
  subst hn
  have h := hs.below p4
  have := hs.lt
  exact ⟨climb1_gives _ _ _ _ _ _ p1 p2 h hw, by rintro k (rfl | rfl | rfl) <;> omega, h, p4⟩
theorem nums_gives {b n : Nat} {c : Bool} {G : List GR} {w w' : World} (hs : IsG w b G) (hn : n = w.heap.size) (p1 : w'.heap[n]? = some (.cells #[.pointer (some ⟨b, 0, none⟩)] 23 (0, 0))) (p2 : w'.heap[n + 1]? = some (.cells #[.bool c] 4 (0, 0))) (p3 : w'.heap.size = n + 2) (p4 : Below n w w') :
    Gives3 Try.prog 27 #[.pointer (some ⟨n, 0, none⟩), .pointer (some ⟨n + 1, 0, none⟩)] (fun x : Nat => #[Value.int .i64 x]) (numsL G c) (NReads n (n + 1) b) w' ∧ (∀ k, NReads n (n + 1) b k → k < w'.heap.size) ∧ IsG w' b G ∧ Below w.heap.size w w' := by
  subst hn
  have h := hs.below p4
  have := hs.lt
  exact ⟨nums1_gives _ _ _ _ _ _ p1 p2 h, by rintro k (rfl | rfl | rfl) <;> omega, h, p4⟩
theorem numsL_length (G : List GR) (c : Bool) : (numsL G c).length ≤ G.length := by
  unfold numsL numsTo
  refine Nat.le_trans (List.length_filter_le _ _) ?_
  simp

set_option maxHeartbeats 1000000 in
theorem chain_c (b : Nat) (G : List GR) (id : Int) (w : World) (h : IsG w b G) (hw : WfG G) :
    Calls Try.prog 12 #[.pointer (some ⟨b, 0, none⟩), .int .i64 id] w fun e w' => ∃ v, e = .returned v ∧ OwnI .i64 w' w.heap.size 3 v (ints64 (chI G id)) ∧ Below w.heap.size w w' := by
  have KC := Lib.hid (fun (w' : World) p1 p2 p3 p4 => climb_gives (w' := w') (id := id) h hw rfl p1 p2 p3 p4)
  have hl := hw.len_ch id
  clear h hw
  go_enter Try.func12, Try.ntmps12
  go_wp2_with (first
    | (go_at_call 25; refine (climb_c b id _ _ rfl).mono ?_; rintro e w1 ⟨rfl, p1, p2, p3, p4⟩; obtain ⟨q1, q2, q3, q4⟩ := KC.out w1 p1 p2 p3 p4; have hC := collect_c 29 _ _ _ _ (enters_of Try.func29 (by kernel_rfl) rfl) q1.gives q2 (by omega); have HC := Lib.hid hC; clear hC q1 q2 q3 p1 p2 p4)
    | (go_at_call 24; refine HC.out.mono ?_; rintro e w' ⟨v, rfl, h1, h2⟩; obtain ⟨A, c, rfl, _, _, _⟩ := h1.form))
  go_ret
  exact ⟨_, rfl, h1.base_le (by omega), q4.trans (h2.mono (by omega))⟩

set_option maxHeartbeats 1000000 in
theorem all_c (b : Nat) (G : List GR) (w : World) (h : IsG w b G) :
    Calls Try.prog 15 #[.pointer (some ⟨b, 0, none⟩)] w fun e w' => ∃ v, e = .returned v ∧ OwnI .i64 w' w.heap.size 3 v (ints64 (numsL G true)) ∧ Below w.heap.size w w' := by
  have KC := Lib.hid (fun (w' : World) p1 p2 p3 p4 => nums_gives (w' := w') (c := true) h rfl p1 p2 p3 p4)
  have hl := numsL_length G true
  have hlen := h.len
  clear h
  go_enter Try.func15, Try.ntmps15
  go_wp2_with (first
    | (go_at_call 23; refine (numbers_c b true _ _ rfl).mono ?_; rintro e w1 ⟨rfl, p1, p2, p3, p4⟩; obtain ⟨q1, q2, q3, q4⟩ := KC.out w1 p1 p2 p3 p4; have hC := collect_c 27 _ _ _ _ (enters_of Try.func27 (by kernel_rfl) rfl) q1.gives q2 (by omega); have HC := Lib.hid hC; clear hC q1 q2 q3 p1 p2 p4)
    | (go_at_call 24; refine HC.out.mono ?_; rintro e w' ⟨v, rfl, h1, h2⟩; obtain ⟨A, c, rfl, _, _, _⟩ := h1.form))
  go_ret
  exact ⟨_, rfl, h1.base_le (by omega), q4.trans (h2.mono (by omega))⟩
end Go.Proofs.Ytbhcooomdjhoiaa
