/- Masks: List, by slices.Collect over All. -/
import Derived.Test.YtjfeaepjhnpbfaaDoorKc
import Derived.Test.YtjfeaepjhnpbfaaDoorApp
import Derived.Test.YtjfeaepjhnpbfaaDoorMem
namespace Go.Proofs.YtjfeaepjhnpbfaaDoor
open Go.RowKit Go.Shelf
attribute [local go_sem] Oper.semAt_some wide_fn wide_depth

theorem info_int : (Tryd.prog.info? 3).map (fun i => (i.zero, i.size, i.bytes)) = some (some (.int .i64 0), 1, 8) := by kernel_rfl

/-- A list of natural numbers as Go's ints. -/
def ints64 (l : List Nat) : List Int := l.map fun (x : Nat) => (x : Int)
theorem ints64_length (l : List Nat) : (ints64 l).length = l.length := by simp [ints64]

set_option maxRecDepth 100000 in
set_option maxHeartbeats 1000000 in
/-- slices.AppendSeq(nil, seq). -/
theorem appendSeq_c (gf : Nat) (lb : Array Value) (xs : List Nat) (R : Nat → Prop) (w : World) (eg : ∀ args w, (callFunc gf args).run Tryd.prog w = .ok (.enter gf args) w)
    (hseq : Gives Tryd.prog gf lb (fun x : Nat => #[Value.int .i64 x]) xs R w) (hR : ∀ k, R k → k < w.heap.size) (hl : xs.length ≤ 1000) :
    Calls Tryd.prog 34 #[.slice none 0 0, .func (.func gf) #[] lb] w fun e w' => ∃ v, e = .returned v ∧ OwnI .i64 w' w.heap.size 3 v (ints64 xs) ∧ Below w.heap.size w w' := by
  obtain ⟨i0, hi, hz0, hz1, hz2⟩ := info_parts info_int
  refine (callsIn_wide (n := 0)).1 ?_
  refine callsIn_of_wp_marks Tryd.func34 rfl trivial ?_ rfl
  simp only [Tryd.ntmps34, List.size_toArray, List.length_cons, List.length_nil, Nat.reduceAdd, Nat.reduceSub, Array.replicate_succ, Array.replicate_zero, List.push_toArray, List.append_toArray, List.nil_append, List.cons_append]
  gi_wp2
  have bO := Boxed.new w 27 (.slice none 0 0)
  obtain ⟨w1, hw1⟩ : ∃ w1, w.alloc (Obj.cells #[Value.slice none 0 0] 27) = w1 := ⟨_, rfl⟩
  rw [hw1] at bO ⊢
  have hs1 : w1.heap.size = w.heap.size + 1 := by rw [← hw1]; simp
  have ho1 : ∀ k, k < w.heap.size → w1.heap[k]? = w.heap[k]? := fun k hk => by rw [← hw1]; exact Below.heap_alloc _ _ _ hk
  have hb1 : Below w.heap.size w w1 := by rw [← hw1]; exact (Below.refl _ _).alloc (Nat.le_refl _) _
  refine wpR (α := Nat) (gf := gf) (lb := lb) rfl eg hseq (fun _ => rfl) (fun k => k = w.heap.size) ?hA ?hR
    (CollI w.heap.size w.heap.size 27 3 (fun x : Nat => Value.int .i64 x)) (fun _ _ _ _ => False) (collI_loc _ _ _ _ _) (fun _ _ _ _ _ hs _ => hs) ?h0
    (fun x => { tmps := #[.slice none 0 0, .func (.func gf) #[] lb, .pointer (some ⟨w.heap.size, 0, none⟩), undef, .slice none 0 0, .int .i64 x, .func (.func gf) #[] lb, .int .i64 x, undef, undef, undef, undef, undef], defers := [] }) ?assign ?body ?done ?stop
  case hA => rintro k rfl; omega
  case hR =>
    intro k hk
    have := hR k hk
    exact ⟨by omega, ho1 k this, by omega⟩
  case h0 => exact ⟨_, bO, World.ownsRow_nil _ _ _ _, by simp [Value.ownBlock]⟩
  case assign =>
    intro l x W K hK
    gi_wp2
    exact hK
  case body =>
    rintro l pre x A1 W ⟨v, hv, hrow, hAv⟩ hpre hbd
    have hc := hv.cell
    have hlt := hv.lt
    have hpl : pre.length + 1 ≤ 1000 := by have := hpre.length_le; simp at this; omega
    have HPR := Lib.hid hpre
    have HAV := Lib.hid hAv
    clear hpre hAv
    gi_wp2_with (gi_at_builtin; refine wpListIn_where _ rfl _ _ 27 rfl w.heap.size 3 i0 (.int .i64 0) 1 8 Tryd.underlying27 hi hz0 hz1 hz2 rfl (by decide) _ _ _ rfl (hrow.alloc _) ⟨W.heap.size, 0, none⟩ 1 1 [.int .i64 x] rfl rfl (cell_one_new _ _ _) (by simp [Value.oneCell']) (by unfold maxLen; omega) (by omega) (by simp; omega) ?_; intro v' w2 hown' hgrow hwh; obtain ⟨g', cap', rfl⟩ := ownsRow_succ hown'; obtain ⟨hv1, hv2, hr2, ht2⟩ := app_trip hv (by decide) hrow hown' hgrow hwh; have hc1 := hv1.cell; have hf1 := hv1.frozen)
    exact ⟨_, ht2.from HAV.out, _, hv2, by simpa using hr2, fun _ => Iff.rfl⟩
  case done =>
    rintro D A2 W ht hnD hD ⟨v, hv, hrow, hAv⟩ hK
    have hc := hv.cell
    have HT := Lib.hid ht
    have HAV := Lib.hid hAv
    clear ht hAv
    gi_wp2
    refine ⟨by simp, .inl ⟨_, _, rfl, run_takeDeferred hK, ?_⟩⟩
    refine ⟨_, results_tmp rfl _ _ _, v, rfl, ?_, ?_⟩
    · have h1 := ownsRow_putObj hrow (.deferred none) hK rfl
      unfold OwnI ints64
      rw [List.length_map, List.map_map]
      exact h1
    · exact hb1.trans ((HT.out.putObj hD _).below (fun k hk => by omega) (by omega))
  case stop =>
    rintro D c pre A2 W _ _ _ _ h _
    exact h.elim

set_option maxHeartbeats 1000000 in
/-- slices.Collect(seq). -/
theorem collect_c (gf : Nat) (lb : Array Value) (xs : List Nat) (R : Nat → Prop) (w : World) (eg : ∀ args w, (callFunc gf args).run Tryd.prog w = .ok (.enter gf args) w)
    (hseq : Gives Tryd.prog gf lb (fun x : Nat => #[Value.int .i64 x]) xs R w) (hR : ∀ k, R k → k < w.heap.size) (hl : xs.length ≤ 1000) :
    Calls Tryd.prog 24 #[.func (.func gf) #[] lb] w fun e w' => ∃ v, e = .returned v ∧ OwnI .i64 w' w.heap.size 3 v (ints64 xs) ∧ Below w.heap.size w w' := by
  go_enter Tryd.func24, Tryd.ntmps24
  go_wp2_with (go_at_call 34; refine (appendSeq_c gf lb xs R _ eg hseq hR hl).mono ?_; rintro e w' ⟨v, rfl, h1, h2⟩; obtain ⟨A, c, rfl, _, _, _⟩ := h1.form)
  go_ret
  exact ⟨_, rfl, h1, h2⟩

set_option maxHeartbeats 1000000 in
/-- m.List(). -/
theorem list_c (m : Nat) (hm : m < 65536) (w : World) : Calls Tryd.prog 10 #[.int .u16 m] w fun e w' => ∃ v, e = .returned v ∧ OwnI .i64 w' w.heap.size 3 v (ints64 (coresL m)) ∧ Below w.heap.size w w' := by
  have bN := Boxed.new w 24 (.int .u16 m)
  have hseq := all1_gives m hm w.heap.size _ bN.cell
  have hC := collect_c 29 _ (coresL m) _ _ (enters_of Tryd.func29 (by kernel_rfl) rfl) hseq (fun k hk => by rw [hk]; simp) (by have := cores_length_le m; omega)
  clear hseq
  go_enter Tryd.func10, Tryd.ntmps10
  go_wp2_with (first
    | (go_at_call 21; refine (all_c _ _).mono ?_; rintro e w' ⟨rfl, rfl⟩)
    | (go_at_call 24; refine hC.mono ?_; rintro e w' ⟨v, rfl, h1, h2⟩; obtain ⟨A, c, rfl, _, _, _⟩ := h1.form))
  go_ret
  exact ⟨_, rfl, h1.base_le (by simp), ((Below.refl _ w).alloc (Nat.le_refl _) _).trans (h2.mono (by simp))⟩
end Go.Proofs.YtjfeaepjhnpbfaaDoor
