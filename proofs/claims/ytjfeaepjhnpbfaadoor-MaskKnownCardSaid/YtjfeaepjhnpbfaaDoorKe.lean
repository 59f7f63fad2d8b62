/- Masks: Around. -/
import Derived.Test.YtjfeaepjhnpbfaaDoorKd
namespace Go.Proofs.YtjfeaepjhnpbfaaDoor
open Go.RowKit Go.Shelf
attribute [local go_sem] Oper.semAt_some wide_fn wide_depth

theorem numb_snd (k : Nat) (l : List Nat) : (numb k l).map (fun x : Nat × Nat => Value.int .i64 x.2) = (ints64 l).map (Value.int .i64) := by
  induction l generalizing k with
  | nil => rfl
  | cons x xs ih => simp only [numb, List.map_cons, ih, ints64]

theorem make_run (n : Nat) (hn : n ≤ 1000) : ∃ cs : Array Value, cs.size = n ∧ ∀ w : World, (Instr.makeSlice 27 (.int .i64 0) (.int .i64 n)).run Tryd.prog w = .ok (.slice (some ⟨w.heap.size, 0, none⟩) 0 n) (w.alloc (.cells cs 3)) := by
  obtain ⟨i0, hi, hz0, hz1, hz2⟩ := info_parts info_int
  refine ⟨madeCells (Value.int .i64 0).cells (n * i0.size), by rw [size_madeCells, hz1]; exact Nat.mul_one _, fun w => ?_⟩
  have := run_makeSlice (P := Tryd.prog) w 27 3 i0 (.int .i64 0) Tryd.underlying27 hi hz0 .i64 .i64 0 n (by omega) (by omega) (by rw [hz1]; simp; omega) (by rw [hz2]; omega) (by omega)
  simpa using this

set_option maxRecDepth 100000 in
set_option maxHeartbeats 1000000 in
/-- m.Around(c). -/
theorem around_c (m : Nat) (c : Int) (hm : m < 65536) (w : World) : Calls Tryd.prog 14 #[.int .u16 m, .int .i64 c] w fun e w' => ∃ v, e = .returned v ∧ OwnI .i64 w' w.heap.size 3 v (ints64 (aroundL m (clampN c))) ∧ Below w.heap.size w w' := by
  obtain ⟨i0, hi, hz0, hz1, hz2⟩ := info_parts info_int
  obtain ⟨cs, hcs, hmk⟩ := make_run (coresL m).length (by have := cores_length_le m; omega)
  have hL := fun W => callsIn_wide (n := 0).2 (len_c m hm W)
  obtain ⟨N, hN⟩ : ∃ N, N = (coresL m).length := ⟨_, rfl⟩
  rw [← hN] at hmk hL hcs
  have HN := Lib.hid hN
  have hNb : N ≤ maxLen := by have := cores_length_le m; unfold maxLen; omega
  clear hN
  refine (callsIn_wide (n := 0)).1 ?_
  refine callsIn_of_wp_marks Tryd.func14 rfl trivial ?_ rfl
  simp only [Tryd.ntmps14, List.size_toArray, List.length_cons, List.length_nil, Nat.reduceAdd, Nat.reduceSub, Array.replicate_succ, Array.replicate_zero, List.push_toArray, List.append_toArray, List.nil_append, List.cons_append]
  gi_wp2_with (first
    | (gi_at_call 15; refine (hL _).mono ?_; rintro e w' ⟨rfl, rfl⟩)
    | (gi_at_call 26; refine (callsIn_wide.2 (from_c _ _ _)).mono ?_; rintro e w' ⟨rfl, rfl⟩))
  obtain ⟨w1, hw1⟩ : ∃ w1, ((((w.alloc (Obj.cells cs 3)).alloc (Obj.cells #[Value.slice (some ⟨w.heap.size, 0, none⟩) 0 N] 27)).alloc (Obj.cells #[Value.int IntKind.u16 m] 24)).alloc (Obj.cells #[Value.int IntKind.u16 (lowN (clampN c))] 24)).drew = w1 := ⟨_, rfl⟩
  have hs1 : w1.heap.size = w.heap.size + 4 := by rw [← hw1]; show (((((w.alloc _).alloc _).alloc _).alloc _)).heap.size = _; simp
  have hold : ∀ k, k < w.heap.size → w1.heap[k]? = w.heap[k]? := fun k hk => by
    rw [← hw1]
    show (((((w.alloc _).alloc _).alloc _).alloc _)).heap[k]? = _
    rw [Below.heap_alloc _ _ _ (by simp; omega), Below.heap_alloc _ _ _ (by simp; omega), Below.heap_alloc _ _ _ (by simp; omega), Below.heap_alloc _ _ _ hk]
  have g0 : w1.heap[w.heap.size]? = some (.cells cs 3 (0, 0)) := by
    rw [← hw1]
    show (((((w.alloc _).alloc _).alloc _).alloc _)).heap[w.heap.size]? = _
    rw [Below.heap_alloc _ _ _ (by simp; omega), Below.heap_alloc _ _ _ (by simp; omega), Below.heap_alloc _ _ _ (by simp)]
    exact World.alloc_heap_new _ _
  have g1 : Boxed w1 (w.heap.size + 1) 27 (.slice (some ⟨w.heap.size, 0, none⟩) 0 N) := by
    rw [← hw1]
    refine Boxed.alloc (Boxed.alloc ?_ _) _
    have := Boxed.new (w.alloc (Obj.cells cs 3)) 27 (Value.slice (some ⟨w.heap.size, 0, none⟩) 0 N)
    rwa [World.size_alloc] at this
  have g2 : Boxed w1 (w.heap.size + 1 + 1) 24 (.int .u16 m) := by
    rw [← hw1]
    refine Boxed.alloc ?_ _
    have := Boxed.new ((w.alloc (Obj.cells cs 3)).alloc (Obj.cells #[Value.slice (some ⟨w.heap.size, 0, none⟩) 0 N] 27)) 24 (Value.int .u16 m)
    rwa [World.size_alloc, World.size_alloc] at this
  have g3 : Boxed w1 (w.heap.size + 1 + 1 + 1) 24 (.int .u16 (lowN (clampN c))) := by
    rw [← hw1]
    have := Boxed.new (((w.alloc (Obj.cells cs 3)).alloc (Obj.cells #[Value.slice (some ⟨w.heap.size, 0, none⟩) 0 N] 27)).alloc (Obj.cells #[Value.int IntKind.u16 m] 24)) 24 (Value.int .u16 (lowN (clampN c)))
    rwa [World.size_alloc, World.size_alloc, World.size_alloc] at this
  have hb1 : Below w.heap.size w w1 := by
    rw [← hw1]
    exact ((((Below.refl _ w).alloc (Nat.le_refl _) _).alloc (by simp) _).alloc (by simp; omega) _).alloc (by simp; omega) _ |>.drew
  rw [hw1]
  clear hw1
  refine wpR (α := Nat × Nat) (gf := 36) (lb := #[.pointer (some ⟨w.heap.size + 1 + 1, 0, none⟩), .pointer (some ⟨w.heap.size + 1 + 1 + 1, 0, none⟩)]) rfl (enters_of Tryd.func36 (by kernel_rfl) rfl)
    (from1_gives m (clampN c) hm (clampN_lt c) _ _ w1 g2.cell g3.cell) (fun _ => rfl) (fun k => k = w.heap.size + 1 ∨ k = w.heap.size) ?hA ?hR
    (CollI w.heap.size (w.heap.size + 1) 27 3 (fun x : Nat × Nat => Value.int .i64 x.2)) (fun _ _ _ _ => False) (collI_loc _ _ _ _ _) (fun _ _ _ _ _ hs _ => hs) ?h0
    (fun x => { tmps := #[.int .u16 m, .int .i64 c, undef, undef, .slice none 0 0, .pointer (some ⟨w.heap.size + 1, 0, none⟩), undef, .int .i64 x.2, .int .u16 m, .int .i64 N, .slice (some ⟨w.heap.size, 0, none⟩) 0 N, .int .u16 m, .int .i64 c,
      .func (.func 36) #[] #[.pointer (some ⟨w.heap.size + 1 + 1, 0, none⟩), .pointer (some ⟨w.heap.size + 1 + 1 + 1, 0, none⟩)], .int .i64 x.1, .int .i64 x.2, undef, undef, undef, undef, undef], defers := [] }) ?assign ?body ?done ?stop
  case hA => rintro k (rfl | rfl) <;> omega
  case hR =>
    rintro k (rfl | rfl)
    · exact ⟨by omega, rfl, by omega⟩
    · exact ⟨by omega, rfl, by omega⟩
  case h0 =>
    refine ⟨_, g1, ⟨rfl, .inr ⟨w.heap.size, N, cs, rfl, Nat.le_refl _, g0, Nat.zero_le _, hNb, by rw [hcs, Nat.mul_one], by simp⟩⟩, fun k => ?_⟩
    simp only [Value.ownBlock, Option.some.injEq]
    constructor
    · rintro (h | h)
      · exact .inl h
      · exact .inr h.symm
    · rintro (h | h)
      · exact .inl h
      · exact .inr h.symm
  case assign =>
    intro l x W K hK
    gi_wp2
    exact hK
  case body =>
    rintro l pre x A1 W ⟨v, hv, hrow, hAv⟩ hpre hbd
    have hc := hv.cell
    have hlt := hv.lt
    have hpl : pre.length + 1 ≤ 32 := by have := hpre.length_le; have h2 := aroundL_le m (clampN c); rw [numb_length] at this; simp at this; omega
    have HPR := Lib.hid hpre
    have HAV := Lib.hid hAv
    clear hpre hAv hmk hL
    gi_wp2_with (gi_at_builtin; refine wpListIn_where _ rfl _ _ 27 rfl w.heap.size 3 i0 (.int .i64 0) 1 8 Tryd.underlying27 hi hz0 hz1 hz2 rfl (by decide) _ _ _ rfl (hrow.alloc _) ⟨W.heap.size, 0, none⟩ 1 1 [.int .i64 x.2] rfl rfl (cell_one_new _ _ _) (by simp [Value.oneCell']) (by unfold maxLen; omega) (by omega) (by simp; omega) ?_; intro v' w2 hown' hgrow hwh; obtain ⟨g', cap', rfl⟩ := ownsRow_succ hown'; obtain ⟨hv1, hv2, hr2, ht2⟩ := app_trip hv (by decide) hrow hown' hgrow hwh; have hc1 := hv1.cell; have hf1 := hv1.frozen)
    exact ⟨_, ht2.from HAV.out, _, hv2, by simpa using hr2, fun _ => Iff.rfl⟩
  case done =>
    rintro D A2 W ht hnD hD ⟨v, hv, hrow, hAv⟩ hK
    have hc := hv.cell
    have HT := Lib.hid ht
    have HAV := Lib.hid hAv
    clear ht hAv hmk hL
    gi_wp2
    refine ⟨by simp, .inl ⟨_, _, rfl, run_takeDeferred hK, ?_⟩⟩
    refine ⟨_, results_tmp rfl _ _ _, v, rfl, ?_, ?_⟩
    · have h1 := ownsRow_putObj hrow (.deferred none) hK rfl
      rw [numb_snd, numb_length] at h1
      unfold OwnI
      rw [ints64_length]
      exact h1
    · exact hb1.trans ((HT.out.putObj hD _).below (fun k hk => by omega) (by omega))
  case stop =>
    rintro D c pre A2 W _ _ _ _ h _
    exact h.elim
end Go.Proofs.YtjfeaepjhnpbfaaDoor
