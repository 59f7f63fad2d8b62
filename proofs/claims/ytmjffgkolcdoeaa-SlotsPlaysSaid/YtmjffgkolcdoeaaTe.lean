/- Slots: New, Len. -/
import Derived.Test.YtmjffgkolcdoeaaTd
namespace Go.Proofs.Ytmjffgkolcdoeaa
open Go.RowKit

def clampS (most : Int) : Nat := if most < 1 then 1 else if 64 < most then 64 else most.toNat
theorem clampS_pos (most : Int) : 1 ≤ clampS most ∧ clampS most ≤ 64 := by unfold clampS; split <;> (try split) <;> omega
theorem info_slot : (Try.prog.info? 47).map (fun i => (i.zero, i.size, i.bytes)) = some (some (.agg #[.int .i64 0, .bool false]), 2, 16) := by kernel_rfl
theorem slot_parts {P : Program} {e : TypeId} {z : Value} {s b : Nat} (h : (P.info? e).map (fun i => (i.zero, i.size, i.bytes)) = some (some z, s, b)) : ∃ i, P.info? e = some i ∧ i.zero = some z ∧ i.size = s ∧ i.bytes = b := by
  cases hi : P.info? e with
  | none => rw [hi] at h; simp at h
  | some i => rw [hi] at h; simp at h; exact ⟨i, rfl, h.1, h.2.1, h.2.2⟩
theorem flatS_append (a b : List SL) : flatS (a ++ b) = flatS a ++ flatS b := by
  induction a with
  | nil => rfl
  | cons x xs ih => simp [flatS, ih]
theorem made_slots (n : Nat) : (madeCells (Value.agg #[.int .i64 0, .bool false]).cells (n * 2)).toList = flatS (List.replicate n (0, false)) := by
  have e : (Value.agg #[.int .i64 0, .bool false]).cells = #[.int .i64 0, .bool false] := by rfl
  rw [e]
  apply List.ext_getElem?
  intro i
  by_cases hi : i < n * 2
  · have hr : (List.replicate n ((0, false) : SL))[i / 2]? = some (0, false) := by
      rw [List.getElem?_replicate, if_pos (by omega)]
    have hL : (madeCells #[.int .i64 0, .bool false] (n * 2)).toList[i]? = some ((#[.int .i64 0, .bool false] : Array Value)[i % 2]!) := by
      simp [madeCells, hi]
    rw [hL]
    rcases Nat.mod_two_eq_zero_or_one i with hm | hm
    · have := flatS_get0 hr
      rw [show i / 2 * 2 = i by omega] at this
      rw [this, hm]
      rfl
    · have := flatS_get1 hr
      rw [show i / 2 * 2 + 1 = i by omega] at this
      rw [this, hm]
      rfl
  · rw [List.getElem?_eq_none (by simp [madeCells]; omega), List.getElem?_eq_none (by rw [flatS_length, List.length_replicate]; omega)]
theorem new_fin {w w1 : World} {n : Nat} (h1 : 1 ≤ n) (h2 : n ≤ 64) (ho : w1.ownsRow w.heap.size 47 2 (.slice (some ⟨w.heap.size, 0, none⟩) n n) n (madeCells (Value.agg #[.int .i64 0, .bool false]).cells (n * 2)).toList) (hg : w.grownBy w1 none) :
    IsS (w1.alloc (.cells #[.slice (some ⟨w.heap.size, 0, none⟩) n n] 42)) w1.heap.size w.heap.size (List.replicate n (0, false)) ∧ Below w.heap.size w (w1.alloc (.cells #[.slice (some ⟨w.heap.size, 0, none⟩) n n] 42)) := by
  have hb : Below w.heap.size w w1 := ⟨hg.os, hg.tape, hg.output, hg.size, fun k hk => hg.block k hk (by simp)⟩
  have hlt := (World.ownsRow.lt ho w.heap.size rfl).2
  rcases ho.2 with ⟨e, _⟩ | ⟨g, cap, cur, e, _, e2, _, _, e5, e6⟩
  · cases e
  · injection e with e' _ ec
    injection e' with e'
    injection e' with e'
    subst e' ec
    rw [List.take_of_length_le (by rw [Array.length_toList]; omega), made_slots] at e6
    refine ⟨⟨?_, ?_, by simpa using h1, by simpa using h2, by omega⟩, hb.alloc (by exact hg.size) _⟩
    · rw [List.length_replicate]; exact World.alloc_heap_new w1 _
    · rw [Below.heap_alloc _ _ _ hlt, e2, ← e6]

set_option maxRecDepth 100000 in
set_option maxHeartbeats 2000000 in
theorem new_c (most : Int) (w : World) :
    Calls Try.prog 7 #[.int .i64 most] w fun e w' => ∃ b, e = .returned (.pointer (some ⟨b, 0, none⟩)) ∧ IsS w' b w.heap.size (List.replicate (clampS most) (0, false)) ∧ w.heap.size ≤ b ∧ Below w.heap.size w w' := by
  obtain ⟨i0, hi, hz0, hz1, hz2⟩ := slot_parts info_slot
  by_cases h1 : most < 1
  · have e : clampS most = 1 := by unfold clampS; rw [if_pos h1]
    rw [e]
    go_enter Try.func7, Try.ntmps7
    go_wp2_with (refine wpList_make_full w rfl _ _ 40 rfl w.heap.size 47 i0 (.agg #[.int .i64 0, .bool false]) 2 Try.underlying40 hi hz0 hz1 .i64 .i64 _ _ 1 rfl rfl (by omega) (by omega) (by rw [hz2]; omega) (by unfold maxLen; omega) (by simp) ?_; intro w1 hown1 hgrow1; have HO := Lib.hid hown1; have HG := Lib.hid hgrow1; clear hown1 hgrow1)
    go_ret
    have h := new_fin (by omega) (by omega) HO.out HG.out
    exact ⟨_, rfl, h.1, HG.out.size, h.2⟩
  · by_cases h2 : 64 < most
    · have e : clampS most = 64 := by unfold clampS; rw [if_neg h1, if_pos h2]
      rw [e]
      go_enter Try.func7, Try.ntmps7
      go_wp2_with (refine wpList_make_full w rfl _ _ 40 rfl w.heap.size 47 i0 (.agg #[.int .i64 0, .bool false]) 2 Try.underlying40 hi hz0 hz1 .i64 .i64 _ _ 64 rfl rfl (by omega) (by omega) (by rw [hz2]; omega) (by unfold maxLen; omega) (by simp) ?_; intro w1 hown1 hgrow1; have HO := Lib.hid hown1; have HG := Lib.hid hgrow1; clear hown1 hgrow1)
      go_ret
      have h := new_fin (by omega) (by omega) HO.out HG.out
      exact ⟨_, rfl, h.1, HG.out.size, h.2⟩
    · obtain ⟨n, rfl⟩ : ∃ n : Nat, most = n := ⟨most.toNat, by omega⟩
      have e : clampS n = n := by unfold clampS; rw [if_neg h1, if_neg h2]; omega
      rw [e]
      clear e
      have k1 : 1 ≤ n := by omega
      have k2 : n ≤ 64 := by omega
      go_enter Try.func7, Try.ntmps7
      go_wp2_with (refine wpList_make_full w rfl _ _ 40 rfl w.heap.size 47 i0 (.agg #[.int .i64 0, .bool false]) 2 Try.underlying40 hi hz0 hz1 .i64 .i64 _ _ n rfl rfl (by omega) (by omega) (by rw [hz2]; omega) (by unfold maxLen; omega) (by simp) ?_; intro w1 hown1 hgrow1; have HO := Lib.hid hown1; have HG := Lib.hid hgrow1; clear hown1 hgrow1)
      go_ret
      have h := new_fin k1 k2 HO.out HG.out
      exact ⟨_, rfl, h.1, HG.out.size, h.2⟩

def LenAll (n b g k : Nat) : Prop := k = n ∨ k = n + 1 ∨ k = n + 2 ∨ k = b ∨ k = g
def LenI (n b g : Nat) (W3 : World) (pre : List Nat) (A : Nat → Prop) (W : World) : Prop :=
  Boxed W n 3 (.int .i64 pre.length) ∧ (∀ k, A k ↔ LenAll n b g k) ∧ ∀ k, SReads (n + 1) (n + 2) b g k → W.heap[k]? = W3.heap[k]?
theorem lenI_loc (n b g : Nat) (W3 : World) : Loc (LenI n b g W3) := by
  rintro s A X Y ⟨h1, h2, h3⟩ hs
  exact ⟨(hs _ ((h2 _).2 (.inl rfl))).trans h1, h2, fun k hk => (hs k ((h2 k).2 (.inr hk))).trans (h3 k hk)⟩
theorem placesL_length (S : List SL) (c : Bool) : (placesL S c).length ≤ S.length := by
  unfold placesL placesTo
  refine Nat.le_trans (List.length_filter_le _ _) ?_
  simp

attribute [local go_sem] Oper.semAt_some wide_fn wide_depth in
set_option maxRecDepth 100000 in
set_option maxHeartbeats 2000000 in
theorem len_c (b g : Nat) (S : List SL) (w : World) (h : IsS w b g S) :
    Calls Try.prog 14 #[.pointer (some ⟨b, 0, none⟩)] w fun e w' => e = .returned (.int .i64 (placesL S true).length) ∧ Below w.heap.size w w' := by
  refine (callsIn_wide (n := 0)).1 ?_
  refine callsIn_of_wp_marks Try.func14 rfl trivial ?_ rfl
  simp only [Try.ntmps14, List.size_toArray, List.length_cons, List.length_nil, Nat.reduceAdd, Nat.reduceSub, Array.replicate_succ, Array.replicate_zero, List.push_toArray, List.append_toArray, List.nil_append, List.cons_append]
  have KP := Lib.hid (places_c b true (w.alloc (.cells #[.int .i64 0] 3)) (w.heap.size + 1) (by simp))
  have HS := Lib.hid h
  have hle := Nat.le_trans (placesL_length S true) h.le
  clear h
  gi_wp2_with (gi_at_call 20; refine (callsIn_wide.2 (KP.out)).mono ?_; rintro e w5 ⟨rfl, p1, p2, p3, p4⟩)
  have hbn := HS.out.ltb
  have hgn := HS.out.ltg
  have hb5 : Below w.heap.size w w5 := ⟨p4.os, p4.tape, p4.output, by omega, fun k hk => (p4.block k (by omega)).trans (Below.heap_alloc w _ k hk)⟩
  have r1 := (p4.block w.heap.size (by omega)).trans (World.alloc_heap_new w _)
  have hs5 := HS.out.below hb5
  obtain ⟨n, hn⟩ : ∃ n, w.heap.size = n := ⟨_, rfl⟩
  have HB5 := Lib.hid hb5
  have HS5 := Lib.hid hs5
  have HN := Lib.hid hn
  clear KP p4 hb5 hs5
  rw [hn] at p1 p2 p3 r1 hbn hgn HB5
  simp only [hn]
  clear hn
  have hRd : ∀ k, SReads (n + 1) (n + 2) b g k → k < w5.heap.size := fun k hk => by unfold SReads at hk; omega
  refine wpR3 (α := Nat) (gf := 22) (lb := #[.pointer (some ⟨n + 1, 0, none⟩), .pointer (some ⟨n + 1 + 1, 0, none⟩)]) rfl (enters_of Try.func22 (by kernel_rfl) rfl)
    (places1_gives (n + 1) (n + 2) b g true S w5 p1 p2 HS5.out) (fun _ => rfl) (LenAll n b g) ?hA (LenI n b g w5) ?hR (fun _ _ _ _ => False) (lenI_loc _ _ _ _) (fun _ _ _ _ _ hs _ => hs) ?h0
    (fun x => { tmps := #[.pointer (some ⟨b, 0, none⟩), undef, .int .i64 0, .pointer (some ⟨n, 0, none⟩), .pointer (some ⟨b, 0, none⟩),
      .func (.func 22) #[] #[.pointer (some ⟨n + 1, 0, none⟩), .pointer (some ⟨n + 1 + 1, 0, none⟩)], .int .i64 x, undef, undef, undef], defers := [] }) ?assign ?body ?done ?stop
  case hA => intro k hk; unfold LenAll at hk; omega
  case hR =>
    rintro pre A1 W1 ⟨_, _, h3⟩ k hk
    have h4 := h3 k hk
    refine ⟨?_, h4⟩
    rw [Array.getElem?_eq_getElem (hRd k hk)] at h4
    exact (Array.getElem?_eq_some_iff.1 h4).1
  case h0 => exact ⟨r1, fun _ => Iff.rfl, fun _ _ => rfl⟩
  case assign =>
    intro l x W K hK
    gi_wp2
    first | exact hK | (simp; exact hK) | simpa using hK
  case body =>
    rintro l pre x A1 W ⟨b1, hA1, hW⟩ hpre hbd
    have hpl : pre.length + 1 ≤ 64 := by
      have := hpre.length_le
      simp at this
      omega
    have b1c := b1.cell
    have b1f := b1.frozen
    have T1 : Trip A1 W A1 (W.setCell ⟨n, 0, none⟩ (.int .i64 ((pre.length : Int) + 1))) := Trip.setAt _ hbd ((hA1 n).2 (.inl rfl))
    have X1 : LenI n b g w5 (pre ++ [x]) A1 (W.setCell ⟨n, 0, none⟩ (.int .i64 ((pre.length : Int) + 1))) :=
      ⟨by have := b1.set (.int .i64 ((pre.length : Int) + 1)); simpa using this, hA1, fun k hk => (setCell_o _ (by unfold SReads at hk; omega)).trans (hW k hk)⟩
    have HT1 := Lib.hid T1
    have HX1 := Lib.hid X1
    clear T1 X1 b1 hA1 hW hpre hbd r1 p1 p2
    gi_wp2
    exact ⟨A1, HT1.out, HX1.out⟩
  case done =>
    rintro D A2 W ht hnD hD ⟨b1, hA2, hW⟩ hK
    have b1c := b1.cell
    have hB : Below n w W := by
      have h1 := HB5.out.size
      have h2 := ht.size
      refine ⟨ht.os.trans HB5.out.os, ht.tape.trans HB5.out.tape, ht.output.trans HB5.out.output, by omega, fun k hk => ?_⟩
      by_cases hk' : k = b ∨ k = g
      · exact (hW k (.inr (.inr hk'))).trans (HB5.out.block k hk)
      · exact (ht.block k (by omega) (fun h => by unfold LenAll at h; omega)).trans (HB5.out.block k hk)
    have HB := Lib.hid hB
    have HNN := HN.out
    clear hB ht hA2 hW r1 p1 p2 b1
    gi_wp2
    refine ⟨by simp, .inl ⟨_, _, rfl, run_takeDeferred hK, ?_⟩⟩
    refine ⟨_, results_tmp rfl _ _ _, rfl, ?_⟩
    have hB := HB.out
    rw [HNN]
    exact ⟨hB.os, hB.tape, hB.output, by rw [World.putObj_size]; exact hB.size, fun k hk => (World.putObj_heap_other (by omega)).trans (hB.block k hk)⟩
  case stop => rintro D cd pre A2 W ht hnD hD hpre hf hK; exact hf.elim
end Go.Proofs.Ytmjffgkolcdoeaa
