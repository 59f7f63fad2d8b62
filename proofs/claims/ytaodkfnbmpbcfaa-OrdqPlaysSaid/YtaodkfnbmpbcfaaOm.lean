/- Queues: slices.AppendSeq, slices.Collect of things; List. -/
import Derived.Test.YtaodkfnbmpbcfaaOl
import Derived.Test.YtaodkfnbmpbcfaaItb
namespace Go.Proofs.Ytaodkfnbmpbcfaa
open Go.RowKit Go.Shelf
attribute [local go_sem] Oper.semAt_some wide_fn wide_depth

/-- The box B holds a slice that owns the things that have come; A: the box, and what the slice owns. -/
def CollQ (n0 B : Nat) (pre : List QI) (A : Nat → Prop) (W : World) : Prop :=
  ∃ v, Boxed W B 52 v ∧ W.ownsRow n0 40 2 v pre.length (flatQ pre) ∧ ∀ k, A k ↔ k = B ∨ v.ownBlock = some k
theorem collQ_loc {α : Type} (f : List α → List QI) (n0 B : Nat) : Loc (fun pre => CollQ n0 B (f pre)) := by
  rintro s A X Y ⟨v, h1, h2, h3⟩ hs
  refine ⟨v, (hs B ((h3 B).2 (.inl rfl))).trans h1, ⟨h2.1, ?_⟩, h3⟩
  rcases h2.2 with h4 | ⟨g, cap, cur, h4, h5, h6, h7⟩
  · exact .inl h4
  · exact .inr ⟨g, cap, cur, h4, h5, (hs g ((h3 g).2 (.inr (by rw [h4]; rfl)))).trans h6, h7⟩
theorem cell_two (w : World) (x : QI) (t : TypeId) : ∀ j u, (encQ x)[j]? = some u → (w.alloc (.cells #[.int .i64 x.1, .int .i64 x.2] t)).cell? ((⟨w.heap.size, 0, none⟩ : Addr).add j) = some u :=
  encQ_cells (World.alloc_heap_new w _)
/-- A list that the call made: it owns what it holds, from block n0 on. -/
def MadeQ (w : World) (n0 : Nat) (v : Value) (L : List QI) : Prop := w.ownsRow n0 40 2 v L.length (flatQ L)
theorem flatQ_snoc (L : List QI) (x : QI) : flatQ (L ++ [x]) = flatQ L ++ encQ x := by rw [flatQ_append]; simp [flatQ]

set_option maxRecDepth 100000 in
set_option maxHeartbeats 2000000 in
/-- slices.AppendSeq(nil, seq). -/
theorem qappendSeq_c (gf : Nat) (lb : Array Value) (xs : List QI) (R : Nat → Prop) (w : World) (eg : ∀ args w, (callFunc gf args).run Try.prog w = .ok (.enter gf args) w)
    (hseq : Gives Try.prog gf lb (fun x : QI => #[Value.agg (encQ x).toArray]) xs R w) (hR : ∀ k, R k → k < w.heap.size) (hl : xs.length ≤ 1000000) :
    Calls Try.prog 45 #[.slice none 0 0, .func (.func gf) #[] lb] w fun e w' => ∃ v, e = .returned v ∧ MadeQ w' w.heap.size v xs ∧ Below w.heap.size w w' := by
  obtain ⟨i0, hi, hz0, hz1, hz2⟩ := info_parts info_q
  refine (callsIn_wide (n := 0)).1 ?_
  refine callsIn_of_wp_marks Try.func45 rfl trivial ?_ rfl
  simp only [Try.ntmps45, List.size_toArray, List.length_cons, List.length_nil, Nat.reduceAdd, Nat.reduceSub, Array.replicate_succ, Array.replicate_zero, List.push_toArray, List.append_toArray, List.nil_append, List.cons_append]
  gi_wp2
  have bO := Boxed.new w 52 (.slice none 0 0)
  obtain ⟨w1, hw1⟩ : ∃ w1, w.alloc (Obj.cells #[Value.slice none 0 0] 52) = w1 := ⟨_, rfl⟩
  rw [hw1] at bO ⊢
  have hs1 : w1.heap.size = w.heap.size + 1 := by rw [← hw1]; simp
  have ho1 : ∀ k, k < w.heap.size → w1.heap[k]? = w.heap[k]? := fun k hk => by rw [← hw1]; exact Below.heap_alloc _ _ _ hk
  have hb1 : Below w.heap.size w w1 := by rw [← hw1]; exact (Below.refl _ _).alloc (Nat.le_refl _) _
  refine wpRb (α := QI) (gf := gf) (lb := lb) rfl eg hseq (fun _ => rfl) (fun k => k = w.heap.size) ?hA ?hR
    (fun pre => CollQ w.heap.size w.heap.size pre) (fun _ _ _ _ => False) (collQ_loc id _ _) (fun _ _ _ _ _ hs _ => hs) ?h0
    (fun x => .cells (encQ x).toArray 40)
    (fun x r => { tmps := #[.slice none 0 0, .func (.func gf) #[] lb, .pointer (some ⟨w.heap.size, 0, none⟩), undef, .slice none 0 0, .pointer (some ⟨r, 0, none⟩), .func (.func gf) #[] lb, .agg (encQ x).toArray, undef, undef, undef, undef, undef], defers := [] }) ?assign ?body ?done ?stop
  case hA => rintro k rfl; omega
  case hR =>
    intro k hk
    have := hR k hk
    exact ⟨by omega, ho1 k this, by omega⟩
  case h0 => exact ⟨_, bO, World.ownsRow_nil _ _ _ _, by simp [Value.ownBlock]⟩
  case assign =>
    intro l x W K hK
    obtain ⟨x0, x1⟩ := x
    simp only [encQ] at hK ⊢
    gi_wp2
    exact hK
  case body =>
    rintro l pre x A1 W r ⟨v, hv, hrow, hAv⟩ hpre hbd hrA hbox
    obtain ⟨x0, x1⟩ := x
    have hc := hv.cell
    have hlt := hv.lt
    have hrl : r < W.heap.size := (Array.getElem?_eq_some_iff.1 hbox).1
    have y0 : W.cell? ⟨r, 0, none⟩ = some (.int .i64 x0) := by simp [World.cell?, hbox, encQ]
    have y1 : W.cell? ⟨r, 1, none⟩ = some (.int .i64 x1) := by simp [World.cell?, hbox, encQ]
    have hpl : pre.length + 1 ≤ 1000000 := by have := hpre.length_le; simp at this; omega
    have HPR := Lib.hid hpre
    have HAV := Lib.hid hAv
    have HC2 := Lib.hid (cell_two W (x0, x1) 40)
    simp only [encQ]
    clear hpre hAv hbox
    gi_wp2_with (gi_at_builtin; refine wpListIn_where _ rfl _ _ 52 rfl w.heap.size 40 i0 (.agg #[.int .i64 0, .int .i64 0]) 2 16 Try.underlying52 hi hz0 hz1 hz2 rfl (by decide) _ _ _ rfl (hrow.alloc _) ⟨W.heap.size, 0, none⟩ 1 1 (encQ (x0, x1)) rfl rfl HC2.out (encQ_one _) (by unfold maxLen; omega) (by omega) (by simp; omega) ?_; intro v' w2 hown' hgrow hwh; obtain ⟨g', cap', rfl⟩ := ownsRow_succ hown'; obtain ⟨hv1, hv2, hr2, ht2⟩ := app_trip hv (by decide) hrow hown' hgrow hwh; have hc1 := hv1.cell; have hf1 := hv1.frozen)
    exact ⟨_, ht2.from HAV.out, _, hv2, by rw [flatQ_snoc]; simpa using hr2, fun _ => Iff.rfl⟩
  case done =>
    rintro D A2 W ht hnD hD ⟨v, hv, hrow, hAv⟩ hK
    have hc := hv.cell
    have HT := Lib.hid ht
    have HAV := Lib.hid hAv
    clear ht hAv
    gi_wp2
    refine ⟨by simp, .inl ⟨_, _, rfl, run_takeDeferred hK, ?_⟩⟩
    refine ⟨_, results_tmp rfl _ _ _, v, rfl, ownsRow_putObj hrow (.deferred none) hK rfl, ?_⟩
    exact hb1.trans ((HT.out.putObj hD _).below (fun k hk => by omega) (by omega))
  case stop =>
    rintro D c pre A2 W _ _ _ _ h _
    exact h.elim

set_option maxHeartbeats 1000000 in
/-- slices.Collect(seq). -/
theorem qcollect_c (gf : Nat) (lb : Array Value) (xs : List QI) (R : Nat → Prop) (w : World) (eg : ∀ args w, (callFunc gf args).run Try.prog w = .ok (.enter gf args) w)
    (hseq : Gives Try.prog gf lb (fun x : QI => #[Value.agg (encQ x).toArray]) xs R w) (hR : ∀ k, R k → k < w.heap.size) (hl : xs.length ≤ 1000000) :
    Calls Try.prog 36 #[.func (.func gf) #[] lb] w fun e w' => ∃ v, e = .returned v ∧ MadeQ w' w.heap.size v xs ∧ Below w.heap.size w w' := by
  go_enter Try.func36, Try.ntmps36
  go_wp2_with (go_at_call 45; refine (qappendSeq_c gf lb xs R _ eg hseq hR hl).mono ?_; rintro e w' ⟨v, rfl, h1, h2⟩; obtain ⟨A, c, rfl⟩ := row_form h1)
  go_ret
  exact ⟨_, rfl, h1, h2⟩
end Go.Proofs.Ytaodkfnbmpbcfaa
