/- Queues: All, List. -/
import Derived.Test.YtaodkfnbmpbcfaaOm
namespace Go.Proofs.Ytaodkfnbmpbcfaa
open Go.RowKit Go.Shelf
attribute [local go_sem] Oper.semAt_some wide_fn wide_depth

set_option maxHeartbeats 1000000 in
theorem qall_c (b : Nat) (w : World) : Calls Try.prog 35 #[.pointer (some ⟨b, 0, none⟩)] w fun e w' =>
    e = .returned (.func (.func 43) #[] #[.pointer (some ⟨w.heap.size, 0, none⟩)]) ∧ w' = w.alloc (.cells #[.pointer (some ⟨b, 0, none⟩)] 24) := by
  go_enter Try.func35, Try.ntmps35
  go_wp2
  go_ret
  exact ⟨rfl, rfl⟩

set_option maxRecDepth 100000 in
set_option maxHeartbeats 2000000 in
/-- q.List(). -/
theorem qlist_c (b mp : Nat) (most s : Int) (v : Value) (L : List QI) (w : World) (hq : IsQ w b most s L v mp) (hL : L.length ≤ 1000000) :
    Calls Try.prog 18 #[.pointer (some ⟨b, 0, none⟩)] w fun e w' => ∃ v', e = .returned v' ∧ MadeQ w' w.heap.size v' L ∧ Below w.heap.size w w' := by
  obtain ⟨i0, hi, hz0, hz1, hz2⟩ := info_parts info_q
  have hqlt := hq.lt
  have hbw := hq.box.lt
  have KL := Lib.hid (qlen_c b mp most s v L w hq)
  refine (callsIn_wide (n := 0)).1 ?_
  refine callsIn_of_wp_marks Try.func18 rfl trivial ?_ rfl
  simp only [Try.ntmps18, List.size_toArray, List.length_cons, List.length_nil, Nat.reduceAdd, Nat.reduceSub, Array.replicate_succ, Array.replicate_zero, List.push_toArray, List.append_toArray, List.nil_append, List.cons_append]
  obtain ⟨n, hn⟩ : ∃ n, L.length = n := ⟨_, rfl⟩
  rw [hn] at KL hL
  have HN := Lib.hid hn
  have HQ := Lib.hid hq
  have HQL := Lib.hid hqlt
  clear hn hq hqlt
  gi_wp2_with (first
    | (gi_at_call 16; refine (callsIn_wide.2 (KL.out)).mono ?_; rintro e w' ⟨rfl, rfl⟩)
    | (gi_at_make; refine wpListIn_make_own _ rfl _ _ 52 rfl w.heap.size 40 i0 (.agg #[.int .i64 0, .int .i64 0]) 2 Try.underlying52 hi hz0 hz1 .i64 .i64 n n rfl rfl rfl (by rw [hz2]; omega) (by unfold maxLen; omega) (Nat.le_refl _) ?_; intro w0 hown hgr; have HO := Lib.hid hown; have HG := Lib.hid hgr; clear hown hgr)
    | (gi_at_call 35; refine (callsIn_wide.2 (qall_c b _)).mono ?_; rintro e w' ⟨rfl, rfl⟩))
  have hg := HG.out
  have hown := HO.out
  have hg0 : w.heap.size < w0.heap.size := (World.ownsRow.lt hown _ rfl).2
  obtain ⟨w3, hw3⟩ : ∃ w3, (w0.alloc (Obj.cells #[Value.slice (some ⟨w.heap.size, 0, none⟩) 0 n] 52)).alloc (Obj.cells #[Value.pointer (some ⟨b, 0, none⟩)] 24) = w3 := ⟨_, rfl⟩
  have bO : Boxed w3 w0.heap.size 52 (.slice (some ⟨w.heap.size, 0, none⟩) 0 n) := by rw [← hw3]; exact (Boxed.new w0 52 _).alloc _
  have hs3 : w3.heap.size = w0.heap.size + 2 := by rw [← hw3]; simp
  have ho3 : ∀ k, k < w0.heap.size → w3.heap[k]? = w0.heap[k]? := fun k hk => by rw [← hw3, Below.heap_alloc _ _ _ (by simp; omega), Below.heap_alloc _ _ _ hk]
  have hr3 : w3.heap[w0.heap.size + 1]? = some (.cells #[.pointer (some ⟨b, 0, none⟩)] 24 (0, 0)) := by
    rw [← hw3]
    have := World.alloc_heap_new (w0.alloc (Obj.cells #[Value.slice (some ⟨w.heap.size, 0, none⟩) 0 n] 52)) (Obj.cells #[Value.pointer (some ⟨b, 0, none⟩)] 24)
    rwa [World.size_alloc] at this
  have hrow3 : w3.ownsRow w.heap.size 40 2 (.slice (some ⟨w.heap.size, 0, none⟩) 0 n) 0 [] := by rw [← hw3]; exact (hown.alloc _).alloc _
  have hold : ∀ k, k < w.heap.size → w3.heap[k]? = w.heap[k]? := fun k hk => (ho3 k (by omega)).trans (hg.block k hk (by simp))
  have hb3 : Below w.heap.size w w3 := ⟨by rw [← hw3]; exact hg.os, by rw [← hw3]; exact hg.tape, by rw [← hw3]; exact hg.output, by omega, hold⟩
  have hq3 : IsQ w3 b most s L v mp := HQ.out.keep (fun k hk => hold k (HQL.out k hk))
  have hseq := qall1_gives (w0.heap.size + 1) b mp most s v L w3 hr3 hq3 (by rw [HN.out]; exact hL)
  rw [hw3]
  have HB3 := Lib.hid hb3
  clear hw3 hg hown hq3 hr3 ho3 HO HG
  refine wpRb (α := Nat × QI) (gf := 43) (lb := #[.pointer (some ⟨w0.heap.size + 1, 0, none⟩)]) rfl (enters_of Try.func43 (by kernel_rfl) rfl) hseq (fun _ => rfl) (fun k => k = w0.heap.size ∨ k = w.heap.size) ?hA ?hR
    (fun pre => CollQ w.heap.size w0.heap.size (pre.map (·.2))) (fun _ _ _ _ => False) (collQ_loc (fun pre : List (Nat × QI) => pre.map (·.2)) _ _) (fun _ _ _ _ _ hs _ => hs) ?h0
    (fun x => .cells (encQ x.2).toArray 40)
    (fun x r => { tmps := #[.pointer (some ⟨b, 0, none⟩), undef, .slice none 0 0, .pointer (some ⟨w0.heap.size, 0, none⟩), undef, .pointer (some ⟨r, 0, none⟩), .pointer (some ⟨b, 0, none⟩), .int .i64 n, .slice (some ⟨w.heap.size, 0, none⟩) 0 n, .pointer (some ⟨b, 0, none⟩), .func (.func 43) #[] #[.pointer (some ⟨w0.heap.size + 1, 0, none⟩)], .int .i64 x.1, .agg (encQ x.2).toArray, undef, undef, undef, undef, undef], defers := [] }) ?assign ?body ?done ?stop
  case hA => rintro k (rfl | rfl) <;> omega
  case hR =>
    rintro k (rfl | rfl | hk)
    · exact ⟨by omega, rfl, by omega⟩
    · exact ⟨by omega, rfl, by omega⟩
    · have := HQL.out k (.inr (.inr hk))
      exact ⟨by omega, rfl, by omega⟩
  case h0 => exact ⟨_, bO, hrow3, fun k => by simp [Value.ownBlock]; exact ⟨fun h => h.imp id Eq.symm, fun h => h.imp id Eq.symm⟩⟩
  case assign =>
    intro l x W K hK
    obtain ⟨x2, x0, x1⟩ := x
    simp only [encQ] at hK ⊢
    gi_wp2
    exact hK
  case body =>
    rintro l pre x A1 W r ⟨v, hv, hrow, hAv⟩ hpre hbd hrA hbox
    obtain ⟨x2, x0, x1⟩ := x
    have hc := hv.cell
    have hlt := hv.lt
    have hrl : r < W.heap.size := (Array.getElem?_eq_some_iff.1 hbox).1
    have y0 : W.cell? ⟨r, 0, none⟩ = some (.int .i64 x0) := by simp [World.cell?, hbox, encQ]
    have y1 : W.cell? ⟨r, 1, none⟩ = some (.int .i64 x1) := by simp [World.cell?, hbox, encQ]
    have hpl : (pre.map (·.2)).length + 1 ≤ 1000000 := by have := hpre.length_le; rw [numQ_length, HN.out] at this; simp at this; simp; omega
    have HPR := Lib.hid hpre
    have HAV := Lib.hid hAv
    have HC2 := Lib.hid (cell_two W (x0, x1) 40)
    have HW : w.heap.size ≤ W.heap.size := by omega
    obtain ⟨pl, hpl'⟩ : ∃ pl, pre.map (·.2) = pl := ⟨_, rfl⟩
    have HPL := Lib.hid hpl'
    rw [hpl'] at hrow hpl
    simp only [encQ]
    clear hpre hAv hbox hpl'
    gi_wp2_with (gi_at_builtin; refine wpListIn_where _ rfl _ _ 52 rfl w.heap.size 40 i0 (.agg #[.int .i64 0, .int .i64 0]) 2 16 Try.underlying52 hi hz0 hz1 hz2 rfl (by decide) _ _ _ rfl (hrow.alloc _) ⟨W.heap.size, 0, none⟩ 1 1 (encQ (x0, x1)) rfl rfl HC2.out (encQ_one _) (by unfold maxLen; omega) (by omega) (by simp; omega) ?_; intro v' w2 hown' hgrow hwh; obtain ⟨g', cap', rfl⟩ := ownsRow_succ hown'; obtain ⟨hv1, hv2, hr2, ht2⟩ := app_trip hv (by decide) hrow hown' hgrow hwh; have hc1 := hv1.cell; have hf1 := hv1.frozen)
    exact ⟨_, ht2.from HAV.out, _, hv2, by rw [List.map_append, HPL.out]; simp only [List.map_cons, List.map_nil]; rw [flatQ_snoc]; simpa using hr2, fun _ => Iff.rfl⟩
  case done =>
    rintro D A2 W ht hnD hD ⟨v, hv, hrow, hAv⟩ hK
    have hc := hv.cell
    have HT := Lib.hid ht
    have HAV := Lib.hid hAv
    clear ht hAv
    gi_wp2
    refine ⟨by simp, .inl ⟨_, _, rfl, run_takeDeferred hK, ?_⟩⟩
    refine ⟨_, results_tmp rfl _ _ _, v, rfl, ?_, ?_⟩
    · have := ownsRow_putObj hrow (.deferred none) hK rfl
      rw [numQ_snd] at this
      exact this
    · exact HB3.out.trans ((HT.out.putObj hD _).below (fun k hk => by omega) (by omega))
  case stop =>
    rintro D c pre A2 W _ _ _ _ h _
    exact h.elim
end Go.Proofs.Ytaodkfnbmpbcfaa
