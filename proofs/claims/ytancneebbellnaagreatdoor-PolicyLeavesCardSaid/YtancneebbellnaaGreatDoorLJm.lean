/- Who leaves and is put in again: plain theory. PolicyLeaves. -/
import Derived.Test.YtancneebbellnaaGreatDoorJg
import Derived.Test.YtancneebbellnaaGreatDoorJl
namespace Go.Proofs.YtancneebbellnaaGreatDoor.Po
open Go.RowKit Go.Maps

theorem find_in {id : Int} {l : List RI} {x : RI} (h : findV id l = some x) : x ∈ l ∧ x.1 = id := by
  unfold findV at h
  refine ⟨List.mem_of_find?_eq_some h, ?_⟩
  have := List.find?_some h
  unfold idIs at this
  simpa using this
theorem find_only {id : Int} {l : List RI} {x : RI} (hx : x ∈ l) (hi : x.1 = id) (hu : ∀ r ∈ l, r.1 = id → r = x) : findV id l = some x := by
  cases h : findV id l with
  | none =>
    unfold findV at h
    rw [List.find?_eq_none] at h
    exact absurd (by unfold idIs; simpa using hi) (h x hx)
  | some r =>
    obtain ⟨h1, h2⟩ := find_in h
    rw [hu r h1 h2]
/-- What is left when one has left: the base, who has the core, the tasks. -/
def lvB (l : List RI) (id : Int) : Int := raiseM 0 (cutL (delU (seedU 0 l) id))
def lvC (f0 id : Int) : Int := if f0 = id then -1 else f0
def lvT (l : List RI) (id : Int) : List TI := delU (seedU 0 l) id
section
variable {f0 id : Int} {l : List RI} {x : RI}
theorem seed_mem (hx : x ∈ l) : newU 0 x ∈ seedU 0 l := List.mem_map.2 ⟨x, hx, rfl⟩
theorem lv_has (h : findV id l = some x) : hasI (cutL (seedU 0 l)) id = true := by
  obtain ⟨h1, h2⟩ := find_in h
  exact hasU_iff.2 ⟨newU 0 x, seed_mem h1, h2⟩
theorem lv_get (hw : WfS 0 f0 (cutL (seedU 0 l))) (h : findV id l = some x) : getU (seedU 0 l) id = newU 0 x := by
  obtain ⟨h1, h2⟩ := find_in h
  have := getU_of hw.asc (seed_mem h1)
  have e : (newU 0 x).1 = id := h2
  rwa [e] at this
theorem lv_leave (hw : WfS 0 f0 (cutL (seedU 0 l))) (h : findV id l = some x) : leaveU 0 f0 (seedU 0 l) id = (x.2.2, 0, lvB l id, lvC f0 id, lvT l id) := by
  unfold leaveU
  rw [if_pos (lv_has h), lv_get hw h]
  have e : 0 - (newU 0 x).2.2.1 = x.2.2 := by show 0 - (0 - x.2.2) = x.2.2; omega
  rw [e]
  rfl
theorem lv_len (hw : WfS 0 f0 (cutL (seedU 0 l))) (h : findV id l = some x) : (lvT l id).length + 1 = l.length := by
  obtain ⟨h1, h2⟩ := find_in h
  have hp := (delU_perm hw.asc (seed_mem h1)).length_eq
  have e : (newU 0 x).1 = id := h2
  rw [e, seedU_length] at hp
  simp at hp
  unfold lvT
  omega
theorem lv_lag (hg : goodV f0 l = true) (hw : WfS 0 f0 (cutL (seedU 0 l))) (h : findV id l = some x) : LagB (lvB l id) (cutL (lvT l id)) ∧ Low (lvB l id) (cutL (lvT l id)) ∧ 0 ≤ lvB l id ∧ lvB l id ≤ 1125899906842624 := by
  have hs := seed_lag (base := 0) hg
  rw [← seedU_cut] at hs
  have := leave_lag (cur := f0) id hs.1 hs.2
  rw [lv_leave hw h] at this
  simpa using this
/-- Somebody is not ahead. -/
theorem lv_front (hg : goodV f0 l = true) (hw : WfS 0 f0 (cutL (seedU 0 l))) (h : findV id l = some x) (h2 : 2 ≤ l.length) : someL (formU (lvB l id) (lvT l id)) = true ∧ ¬ (frontV (formU (lvB l id) (lvT l id))).2.2 < 0 := by
  have hl := lv_len hw h
  have hne : lvT l id ≠ [] := fun e => by rw [e] at hl; simp at hl; omega
  obtain ⟨y, hy, hy1, _⟩ := low_mem hne (lv_lag hg hw h).2.1
  have hm : ((cutT y).1, (cutT y).2.1, lvB l id - (cutT y).2.2) ∈ formU (lvB l id) (lvT l id) := List.mem_map.2 ⟨cutT y, cut_mem hy, rfl⟩
  have hf := frontV_best hm
  have e : (cutT y).2.2 = y.2.2.1 := rfl
  rw [e] at hf
  refine ⟨?_, by simp only at hf; omega⟩
  cases hc : formU (lvB l id) (lvT l id) with
  | nil => rw [hc] at hm; cases hm
  | cons z zs => rfl
/-- It is put in again. -/
theorem lv_put (hg : goodV f0 l = true) (hw : WfS 0 f0 (cutL (seedU 0 l))) (h : findV id l = some x) (h2 : 2 ≤ l.length) :
    putU (lvB l id) (lvT l id) (id, x.2.1, x.2.2) = (0, lvB l id, insTT (lvT l id) (newU (lvB l id) (id, x.2.1, x.2.2))) := by
  obtain ⟨h1, h3⟩ := find_in h
  have hG := goodV_of hg
  have hi : itemB (id, x.2.1, x.2.2) = true := by rw [← h3]; exact hG.each x h1
  have hn : hasI (cutL (lvT l id)) id = false := hasU_no.2 (fun z hz => (mem_delU.1 hz).2)
  have hl := lv_len hw h
  have h64 := hG.len
  have hne : lvT l id ≠ [] := fun e => by rw [e] at hl; simp at hl; omega
  unfold putU
  simp only [hn]
  rw [if_pos hi, if_neg (by decide), if_neg (by omega)]
  obtain ⟨y, hy, hy1, _⟩ := low_mem hne (lv_lag hg hw h).2.1
  have hy2 : y ∈ insTT (lvT l id) (newU (lvB l id) (id, x.2.1, x.2.2)) := mem_insTT.2 (.inr hy)
  have hm := minR_le (cut_mem hy2)
  have e : (cutT y).2.2 = y.2.2.1 := rfl
  rw [e] at hm
  have hr : raiseM (lvB l id) (cutL (insTT (lvT l id) (newU (lvB l id) (id, x.2.1, x.2.2)))) = lvB l id := by
    unfold raiseM
    rw [if_neg (List.ne_nil_of_mem (cut_mem hy2))]
    omega
  rw [hr]
theorem lv_find (_hw : WfS 0 f0 (cutL (seedU 0 l))) (_h : findV id l = some x) : findV id (formU (lvB l id) (insTT (lvT l id) (newU (lvB l id) (id, x.2.1, x.2.2)))) = some (id, x.2.1, x.2.2) := by
  have hz : newU (lvB l id) (id, x.2.1, x.2.2) ∈ insTT (lvT l id) (newU (lvB l id) (id, x.2.1, x.2.2)) := mem_insTT.2 (.inl rfl)
  have e : lvB l id - (cutT (newU (lvB l id) (id, x.2.1, x.2.2))).2.2 = x.2.2 := by show lvB l id - (lvB l id - x.2.2) = x.2.2; omega
  refine find_only (List.mem_map.2 ⟨_, cut_mem hz, by rw [e]; rfl⟩) rfl (fun r hr he => ?_)
  obtain ⟨q, hq, rfl⟩ := List.mem_map.1 hr
  obtain ⟨y, hy, rfl⟩ := List.mem_map.1 hq
  rcases mem_insTT.1 hy with rfl | hy
  · rw [e]; rfl
  · exact absurd he (mem_delU.1 hy).2
theorem lv_good {c : Int} (hg : goodV f0 l = true) (hw : WfS 0 f0 (cutL (seedU 0 l))) (h : findV id l = some x) (h2 : 2 ≤ l.length) (hw2 : WfS (lvB l id) c (cutL (insTT (lvT l id) (newU (lvB l id) (id, x.2.1, x.2.2))))) :
    goodV c (formU (lvB l id) (insTT (lvT l id) (newU (lvB l id) (id, x.2.1, x.2.2)))) = true := by
  obtain ⟨h3, h4, _⟩ := lv_lag hg hw h
  have := put_lag (id, x.2.1, x.2.2) h3 h4
  rw [lv_put hg hw h h2] at this
  exact good_form hw2 this.1 this.2.1
end
end Go.Proofs.YtancneebbellnaaGreatDoor.Po

namespace Go.Proofs.YtancneebbellnaaGreatDoor.Po
open Go.RowKit Go.Maps

set_option maxRecDepth 100000 in
set_option maxHeartbeats 16000000 in
theorem sleaves_c (t f0 id : Int) (A : Option Addr) (c : Nat) (l : List RI) (w : World) (hk : Kinds w) (hid : wf64 id) (hr : TRow w A l) :
    Calls Tryz.prog 7 #[.int .i64 t, .agg #[.int .i64 f0, .slice A l.length c], .int .i64 id] w fun e w' => e = .returned (.bool true) ∧ Below w.heap.size w w' := by
  have hb1 := (Below.refl _ w).alloc (Nat.le_refl _) (.cells #[.int .i64 f0, .slice A l.length c] 30)
  have hf1 : FoAt (w.alloc (.cells #[.int .i64 f0, .slice A l.length c] 30)) w.heap.size f0 A l.length c := heap_alloc_new w _
  obtain ⟨w1, hw1⟩ : ∃ w1, w.alloc (.cells #[.int .i64 f0, .slice A l.length c] 30) = w1 := ⟨_, rfl⟩
  have hs1 : w1.heap.size = w.heap.size + 1 := by rw [← hw1]; simp
  rw [hw1] at hb1 hf1
  have KA := Lib.hid (awake14_c w1 (hk.below hb1 (Nat.le_refl _)))
  obtain ⟨n, hn⟩ : ∃ n, l.length = n := ⟨_, rfl⟩
  rw [hn] at hf1 hw1 ⊢
  have KG : Hid (∀ W, n ≤ 64 → Below w.heap.size w W → Calls Tryz.prog 34 #[.agg #[.int .i64 f0, .slice A n c]] W (Ret10 (.bool (goodV f0 l)) W)) := Lib.hid (fun W h64 hb => good_c f0 A n c l W hn (by omega) (hr.below hb (Nat.le_refl _)))
  have KS : Hid (∀ W, n ≤ 64 → Below w.heap.size w W → Calls Tryz.prog 10 #[.int .i64 t, .agg #[.int .i64 f0, .slice A n c], .int .i64 0] W (SeedP t 0 f0 l W)) := Lib.hid (fun W h64 hb => sseed_p f0 0 A n c l W t hn (by omega) (hr.below hb (Nat.le_refl _)))
  have KF : Hid (∀ W, n ≤ 64 → Below w.heap.size w W → Calls Tryz.prog 36 #[.agg #[.int .i64 f0, .slice A n c], .int .i64 id] W (Ret10 (.tuple #[.agg #[.int .i64 ((findV id l).getD (0, 0, 0)).1, .int .i64 ((findV id l).getD (0, 0, 0)).2.1, .int .i64 ((findV id l).getD (0, 0, 0)).2.2], .bool (findV id l).isSome]) W)) := Lib.hid (fun W h64 hb => find_c f0 A n c id l W hn (by omega) (hr.below hb (Nat.le_refl _)))
  have HB1 := Lib.hid hb1
  have HF1 := Lib.hid hf1
  have HN := Lib.hid hn
  have HI := Lib.hid hid
  clear hr hn hb1 hf1 hk hid
  go_enter Tryz.func7, Tryz.ntmps7
  go_wp2_with fail
  refine KA.out.mono ?_
  rintro e w2 ⟨rfl, hb⟩
  have HB2 := Lib.hid (HB1.out.trans (hb.mono (by omega)))
  have hf2 : FoAt w2 w.heap.size f0 A n c := BoxAt.next HF1.out hb (Nat.le_refl _)
  have HF2 := Lib.hid hf2
  obtain ⟨d0, d1, -, -⟩ := FoAt.cells hf2
  clear hb KA hf2 HF1 HB1 hs1 hw1
  by_cases h2 : (n : Int) < 2
  · go_wp2_with fail
    go_ret
    exact ⟨rfl, HB2.out⟩
  by_cases h64 : (64 : Int) < (n : Int)
  · go_wp2_with fail
    go_ret
    exact ⟨rfl, HB2.out⟩
  have HL := Lib.hid (show 2 ≤ n ∧ n ≤ 64 by omega)
  go_wp2_with fail
  refine (KG.out _ (by omega) HB2.out).mono ?_
  rintro e w3 ⟨rfl, hb⟩
  have HB3 := Lib.hid (HB2.out.trans (hb.mono HB2.out.size))
  have hf3 : FoAt w3 w.heap.size f0 A n c := BoxAt.next HF2.out hb (Nat.le_refl _)
  have HF3 := Lib.hid hf3
  obtain ⟨d0, d1, -, -⟩ := FoAt.cells hf3
  clear hb KG hf3 HF2 HB2
  cases hg : goodV f0 l
  case' false =>
    go_wp2_with fail
    go_ret
    exact ⟨rfl, HB3.out⟩
  have HG := Lib.hid hg
  clear hg
  go_wp2_with fail
  refine (KS.out _ HL.out.2 HB3.out).mono ?_
  intro e w4 h
  have hb34 : Below w3.heap.size w3 w4 := by
    unfold SeedP at h
    split at h
    · obtain ⟨_, _, _, _, _, _, _, _, hb⟩ := h
      exact hb
    · exact h.2
  have HB4 := Lib.hid (HB3.out.trans (hb34.mono HB3.out.size))
  have hf4 : FoAt w4 w.heap.size f0 A n c := BoxAt.next HF3.out hb34 (Nat.le_refl _)
  obtain ⟨d0, d1, -, -⟩ := FoAt.cells hf4
  clear hf4 KS HF3 hb34
  unfold SeedP at h
  by_cases ht : Tag t ∧ SdOk 0 f0 l
  case' neg =>
    rw [if_neg ht] at h
    obtain ⟨rfl, -⟩ := h
    clear ht
    go_wp2_with fail
    refine (KF.out _ HL.out.2 HB4.out).mono ?_
    rintro e w5 ⟨rfl, hb⟩
    have HB5 := Lib.hid ((HB4.out.trans (hb.mono HB4.out.size)).alloc (by have := HB4.out.size; have := hb.size; omega) (.cells #[.int .i64 ((findV id l).getD (0, 0, 0)).1, .int .i64 ((findV id l).getD (0, 0, 0)).2.1, .int .i64 ((findV id l).getD (0, 0, 0)).2.2] 68))
    clear hb
    generalize (findV id l).getD (0, 0, 0) = z at *
    generalize (findV id l).isSome = zb at *
    go_wp2_with fail
    go_ret
    exact ⟨rfl, HB5.out⟩
  rw [if_pos ht] at h
  obtain ⟨p, B, st, rfl, hq, s1, s2, hnn, hb⟩ := h
  have H4 : Hid (SIn t w w4 p 0 f0 (seedU 0 l) 4000 (fun _ => False)) := Lib.hid (seed_in HB3.out (fun _ h => h.elim) hq s1 s2 hnn hb)
  have HWF := Lib.hid hq.wf
  clear ht hq s1 s2 hnn hb
  go_wp2_with fail
  refine (KF.out _ HL.out.2 HB4.out).mono ?_
  rintro e w5 ⟨rfl, hb⟩
  have H5 := Lib.hid (H4.out.below hb)
  clear hb KF H4 HB3 HB4 d0 d1
  cases hf : findV id l with
  | none =>
    simp only [Option.getD_none, Option.isSome_none]
    have HB5 := Lib.hid (H5.out.frame.alloc H5.out.frame.size (.cells #[.int .i64 0, .int .i64 0, .int .i64 0] 68))
    clear hf
    go_wp2_with fail
    go_ret
    exact ⟨rfl, HB5.out⟩
  | some x =>
    simp only [Option.getD_some, Option.isSome_some]
    have hln : 2 ≤ l.length := by rw [HN.out]; exact HL.out.1
    have HLV := Lib.hid (lv_leave HWF.out hf)
    have HFR := Lib.hid (lv_front HG.out HWF.out hf hln)
    have HLG := Lib.hid (lv_lag HG.out HWF.out hf)
    have HPT := Lib.hid (lv_put HG.out HWF.out hf hln)
    have HFD := Lib.hid (lv_find HWF.out hf)
    have HGD := Lib.hid (fun c => lv_good (c := c) HG.out HWF.out hf hln)
    have HLN := Lib.hid (lv_len HWF.out hf)
    have HL2 := Lib.hid (length_insTT (lvT l id) (newU (lvB l id) (id, x.2.1, x.2.2)))
    clear hf hln
    generalize lvB l id = b1 at *
    generalize lvT l id = T1 at *
    generalize lvC f0 id = c1 at *
    obtain ⟨x0, x1, x2⟩ := x
    simp only at HLV HFR HLG HPT HFD HGD HL2 ⊢
    generalize insTT T1 (newU b1 (id, x1, x2)) = T2 at *
    generalize seedU 0 l = T0 at *
    -- the item's box
    have hb6 : Below w5.heap.size w5 (w5.alloc (.cells #[.int .i64 x0, .int .i64 x1, .int .i64 x2] 68)) := (Below.refl _ w5).alloc (Nat.le_refl _) _
    have hx6 : ItAt (w5.alloc (.cells #[.int .i64 x0, .int .i64 x1, .int .i64 x2] 68)) w5.heap.size (x0, x1, x2) := heap_alloc_new w5 _
    obtain ⟨w6, hw6⟩ : ∃ w6, w5.alloc (.cells #[.int .i64 x0, .int .i64 x1, .int .i64 x2] 68) = w6 := ⟨_, rfl⟩
    have hs6 : w6.heap.size = w5.heap.size + 1 := by rw [← hw6]; simp
    rw [hw6] at hb6 hx6
    have H6 : Hid (SIn t w w6 p 0 f0 T0 4000 (fun k => k = w5.heap.size)) := Lib.hid (H5.out.more hb6 (fun k hk => .inr (by omega)))
    have HX : Hid (∀ W : World, W.heap[w5.heap.size]? = w6.heap[w5.heap.size]? → W.cell? ⟨w5.heap.size, 1, none⟩ = some (.int .i64 x1) ∧ W.cell? ⟨w5.heap.size, 2, none⟩ = some (.int .i64 x2)) := Lib.hid (fun W h => by
      obtain ⟨-, q1, q2, -⟩ := ItAt.cells (show ItAt W w5.heap.size (x0, x1, x2) from h.trans hx6)
      exact ⟨q1, q2⟩)
    have HW6 := Lib.hid hw6
    have HS6 := Lib.hid hs6
    clear hb6 hx6 hw6 hs6 H5
    go_wp2_with fail
    rw [HW6.out]
    refine (sleave_in id H6.out HI.out (by decide)).mono ?_
    rintro e w7 ⟨rfl, hq, hF⟩
    rw [HLV.out] at hq ⊢
    simp only at hq ⊢
    have H7 := Lib.hid hq
    have HE7 := Lib.hid (hF _ rfl)
    obtain ⟨q1, q2⟩ := HX.out w7 HE7.out
    clear hq hF H6 HLV
    go_wp2_with fail
    refine (sform_in H7.out).mono ?_
    rintro e w8 ⟨A8, c8, rfl, hT, hb⟩
    have H8 := Lib.hid (H7.out.below hb)
    have HE8 : Hid (w8.heap[w5.heap.size]? = w6.heap[w5.heap.size]?) := Lib.hid ((hb.block _ (by have := HE7.out; have hl := H7.out; obtain ⟨_, _, _, _, _, _, _, h8⟩ := hl; exact (h8 _ rfl).1)).trans HE7.out)
    have KR := front_c c1 A8 T1.length c8 (formU b1 T1) w8 (formU_length _ _) (by have := HLN.out; have := HN.out; have := HL.out; omega) hT
    rw [HFR.out.1] at KR
    have HFR2 := Lib.hid HFR.out.2
    generalize frontV (formU b1 T1) = fr at *
    obtain ⟨r0, r1, r2⟩ := fr
    have KR := Lib.hid KR
    clear hT hb H7 HE7 HFR q1 q2
    go_wp2_with fail
    refine KR.out.mono ?_
    rintro e w9 ⟨rfl, hb⟩
    have hrr := HFR2.out
    have H9 := Lib.hid (H8.out.below hb)
    have hl8 : w5.heap.size < w8.heap.size := by obtain ⟨_, _, _, _, _, _, _, h8⟩ := H8.out; exact (h8 _ rfl).1
    have HE9 : Hid (w9.heap[w5.heap.size]? = w6.heap[w5.heap.size]?) := Lib.hid ((hb.block _ hl8).trans HE8.out)
    clear hb hl8 KR H8 HE8 HFR2
    have hb10 : Below w9.heap.size w9 (w9.alloc (.cells #[.int .i64 r0, .int .i64 r1, .int .i64 r2] 68)) := (Below.refl _ w9).alloc (Nat.le_refl _) _
    have hx10 : ItAt (w9.alloc (.cells #[.int .i64 r0, .int .i64 r1, .int .i64 r2] 68)) w9.heap.size (r0, r1, r2) := heap_alloc_new w9 _
    obtain ⟨w10, hw10⟩ : ∃ w10, w9.alloc (.cells #[.int .i64 r0, .int .i64 r1, .int .i64 r2] 68) = w10 := ⟨_, rfl⟩
    rw [hw10] at hb10 hx10
    have H10 := Lib.hid (H9.out.below hb10)
    have hl9 : w5.heap.size < w9.heap.size := by obtain ⟨_, _, _, _, _, _, _, h8⟩ := H9.out; exact (h8 _ rfl).1
    have HE10 : Hid (w10.heap[w5.heap.size]? = w6.heap[w5.heap.size]?) := Lib.hid ((hb10.block _ hl9).trans HE9.out)
    obtain ⟨-, -, y2, -⟩ := ItAt.cells hx10
    simp only at y2
    clear hb10 hx10 hl9 H9 HE9
    go_wp2_with fail
    refine (sform_in H10.out).mono ?_
    rintro e w11 ⟨A11, c11, rfl, hT, hb⟩
    have H11 := Lib.hid (H10.out.below hb)
    have hl10 : w5.heap.size < w10.heap.size := by obtain ⟨_, _, _, _, _, _, _, h8⟩ := H10.out; exact (h8 _ rfl).1
    have HE11 : Hid (w11.heap[w5.heap.size]? = w6.heap[w5.heap.size]?) := Lib.hid ((hb.block _ hl10).trans HE10.out)
    clear hT hb hl10 H10 HE10 hrr y2 hw10
    have hb12 : Below w11.heap.size w11 (w11.alloc (.cells #[.int .i64 c1, .slice A11 T1.length c11] 30)) := (Below.refl _ w11).alloc (Nat.le_refl _) _
    have hf12 : FoAt (w11.alloc (.cells #[.int .i64 c1, .slice A11 T1.length c11] 30)) w11.heap.size c1 A11 T1.length c11 := heap_alloc_new w11 _
    obtain ⟨w12, hw12⟩ : ∃ w12, w11.alloc (.cells #[.int .i64 c1, .slice A11 T1.length c11] 30) = w12 := ⟨_, rfl⟩
    have hs12 : w12.heap.size = w11.heap.size + 1 := by rw [← hw12]; simp
    rw [hw12] at hb12 hf12
    have H12 : Hid (SIn t w w12 p b1 c1 T1 4024 (fun k => k = w5.heap.size ∨ k = w11.heap.size)) := Lib.hid (H11.out.more hb12 (fun k hk => by rcases hk with rfl | rfl; exact .inl rfl; exact .inr (by omega)))
    have hl11 : w5.heap.size < w11.heap.size := by obtain ⟨_, _, _, _, _, _, _, h8⟩ := H11.out; exact (h8 _ rfl).1
    obtain ⟨q1, q2⟩ := HX.out w12 ((hb12.block _ hl11).trans HE11.out)
    have HF12 := Lib.hid hf12
    clear hb12 hf12 hs12 hl11 H11 HE11
    go_wp2_with fail
    refine (sput_in (id, x1, x2) H12.out (by have := HLG.out.2.2; omega) (by have := HLG.out.2.2; omega) (by decide)).mono ?_
    rintro e w13 ⟨rfl, hq, hF⟩
    rw [HPT.out] at hq ⊢
    simp only at hq ⊢
    have H13 := Lib.hid hq
    have HG2 := Lib.hid (HGD.out c1 hq.wf)
    have HF13 : Hid (FoAt w13 w11.heap.size c1 A11 T1.length c11) := Lib.hid ((hF _ (.inr rfl)).trans HF12.out)
    clear hq hF H12 HPT HGD HF12 q1 q2 hw12 HLG HX
    go_wp2_with fail
    refine (sform_in H13.out).mono ?_
    rintro e w14 ⟨A14, c14, rfl, hT, hb⟩
    have H14 := Lib.hid (H13.out.below hb)
    have HF14 : Hid (FoAt w14 w11.heap.size c1 A11 T1.length c11) := Lib.hid (BoxAt.next HF13.out hb (Nat.le_refl _))
    clear hb H13 HF13
    have hb15 : Below w14.heap.size w14 (w14.alloc (.cells #[.int .i64 c1, .slice A14 T2.length c14] 30)) := (Below.refl _ w14).alloc (Nat.le_refl _) _
    have hf15 : FoAt (w14.alloc (.cells #[.int .i64 c1, .slice A14 T2.length c14] 30)) w14.heap.size c1 A14 T2.length c14 := heap_alloc_new w14 _
    obtain ⟨w15, hw15⟩ : ∃ w15, w14.alloc (.cells #[.int .i64 c1, .slice A14 T2.length c14] 30) = w15 := ⟨_, rfl⟩
    rw [hw15] at hb15 hf15
    have H15 := Lib.hid (H14.out.below hb15)
    have hk2 : T2.length ≤ 1000 := by have := HL2.out; have := HLN.out; have := HN.out; have := HL.out; omega
    have HK2 := Lib.hid hk2
    have HT15 := Lib.hid (hT.below hb15 (Nat.le_refl _))
    have KF0 := find_c c1 A14 T2.length c14 id (formU b1 T2) w15 (formU_length _ _) (by omega) HT15.out
    rw [HFD.out] at KF0
    have KF := Lib.hid KF0
    have HF15 := Lib.hid (And.intro (BoxAt.next HF14.out hb15 (Nat.le_refl _)) hf15)
    obtain ⟨d0, d1, -, -⟩ := FoAt.cells hf15
    clear hT hb15 hf15 hk2 KF0 H14 HF14 HFD
    go_wp2_with fail
    refine KF.out.mono ?_
    rintro e w16 ⟨rfl, hb⟩
    simp only [Option.getD_some, Option.isSome_some]
    clear d0 d1 hw15
    have hb17 : Below w16.heap.size w16 (w16.alloc (.cells #[.int .i64 id, .int .i64 x1, .int .i64 x2] 68)) := (Below.refl _ w16).alloc (Nat.le_refl _) _
    have hx17 : ItAt (w16.alloc (.cells #[.int .i64 id, .int .i64 x1, .int .i64 x2] 68)) w16.heap.size (id, x1, x2) := heap_alloc_new w16 _
    obtain ⟨w17, hw17⟩ : ∃ w17, w16.alloc (.cells #[.int .i64 id, .int .i64 x1, .int .i64 x2] 68) = w17 := ⟨_, rfl⟩
    rw [hw17] at hb17 hx17
    have hbb : Below w15.heap.size w15 w17 := hb.trans (hb17.mono hb.size)
    obtain ⟨-, e1, -, -⟩ := FoAt.cells (show FoAt w17 w11.heap.size c1 A11 T1.length c11 from BoxAt.next HF15.out.1 hbb (Nat.le_refl _))
    obtain ⟨d0, d1, -, -⟩ := FoAt.cells (show FoAt w17 w14.heap.size c1 A14 T2.length c14 from BoxAt.next HF15.out.2 hbb (Nat.le_refl _))
    obtain ⟨-, -, z2, -⟩ := ItAt.cells hx17
    simp only at z2
    have KG2 := good_c c1 A14 T2.length c14 (formU b1 T2) w17 (formU_length _ _) (by have := HK2.out; omega) (HT15.out.below hbb (Nat.le_refl _))
    rw [HG2.out] at KG2
    have KG3 := Lib.hid KG2
    have HB17 := Lib.hid (H15.out.below hbb).frame
    have hlen : wrap64 ((T1.length : Int) + 1) = (T2.length : Int) := by
      have := HK2.out
      have := HL2.out
      unfold wrap64
      omega
    clear hb hb17 hx17 hbb KF KG2 HT15 H15 HF15 HG2
    go_wp2_with fail
    refine KG3.out.mono ?_
    rintro e w18 ⟨rfl, hb18⟩
    have HB18 := Lib.hid (HB17.out.trans (hb18.mono HB17.out.size))
    clear hb18 KG3
    go_wp2_with fail
    go_ret
    exact ⟨rfl, HB18.out⟩
end Go.Proofs.YtancneebbellnaaGreatDoor.Po
