/- GroupsChains: its walk. -/
import Derived.Test.YtbhcooomdjhoiaaVj
import Derived.Deep.RegionHeld3
import Derived.Deep.Cut
import Derived.Deep.DeepCutAuto
namespace Go.Proofs.Ytbhcooomdjhoiaa
open Go.RowKit Go.Shelf

set_option maxRecDepth 100000 in
set_option maxHeartbeats 8000000 in
theorem groupsChains_c (A0 : Option Addr) (n c0 : Nat) (l0 : List Int) (W : World) (hn : l0.length = n) (hm : n ≤ 9223372036854775807) (hr : IRow .i64 W W.heap.size A0 l0) :
    Calls Try.prog 6 #[.slice A0 n c0] W fun e w' => e = .returned (.bool true) ∧ Below W.heap.size W w' := by
  have HR := Lib.hid hr
  have HN := Lib.hid hn
  clear hr hn
  go_enter Try.func6, Try.ntmps6
  go_wp2_with fail
  refine (awake7_c W).mono ?_
  rintro e w1 ⟨rfl, hb1⟩
  have HB1 := Lib.hid hb1
  clear hb1
  by_cases h40 : n > 40
  · have hd : decide ((n : Int) > 40) = true := by simp; omega
    go_wp2_with fail
    go_ret
    exact ⟨rfl, HB1.out⟩
  · have hd : decide ((n : Int) > 40) = false := by simp; omega
    have h40' : n ≤ 40 := by omega
    go_wp2_with fail
    refine (new_in HB1.out).mono ?_
    rintro e w2 ⟨g, rfl, h2, _, _⟩
    have H2 := Lib.hid h2
    clear h2 HB1
    go_wp2_with fail
    go_loopw [4] (fun iv wr => ∃ (k : Nat) (G : List GR), iv = .int .i64 k ∧ k ≤ n ∧ Hid (GAt W wr g G)) (fun iv _ => n - (intOf iv).toNat)
    case atStart => exact ⟨0, _, rfl, by omega, H2⟩
    case round =>
      obtain ⟨k, G, rfl, hk, HG⟩ := hrel
      by_cases hlt : k < n
      · have hkl : k < l0.length := by rw [HN.out]; exact hlt
        obtain ⟨ad, rfl, _, hc⟩ := (HR.out.below HG.out.fr).at hkl
        obtain ⟨x, hx⟩ : ∃ x, x = l0[k] := ⟨_, rfl⟩
        rw [← hx] at hc
        clear hx
        obtain ⟨⟨r1, r2, G'⟩, hr⟩ : ∃ r, addG G x = r := ⟨_, rfl⟩
        have K1 := Lib.hid (add_in HG.out hr)
        clear hr
        go_wp2_with fail
        refine K1.out.mono ?_
        rintro e w3 ⟨rfl, h3, _⟩
        have H3 := Lib.hid h3
        clear h3 K1
        go_wp2_with fail
        go_roundw
        case rel => first | exact ⟨k + 1, _, by go_num, by omega, H3⟩ | ((repeat apply Exists.intro); refine ⟨⟨k + 1, G', ?_, by omega, H3⟩, rfl⟩; go_num)
        case measure => simp [intOf]; omega
      · obtain ⟨L, hL⟩ : ∃ L, numsL G true = L := ⟨_, rfl⟩
        obtain ⟨r0, hr0, hq16⟩ := HG.out.wf.nums
        rw [hL] at hr0 hq16
        obtain ⟨q, hq⟩ : ∃ q, L.length = q := ⟨_, rfl⟩
        rw [hq] at hq16
        have hq1 : 1 ≤ q := by rw [← hq, hr0]; simp
        have K1 := Lib.hid (all_in1 HG.out hL hq hq1)
        have HQ := Lib.hid hq
        have HL := Lib.hid hL
        have HR0 := Lib.hid hr0
        clear hq HG hL hr0
        go_wp2_with fail
        refine K1.out.mono ?_
        rintro e w3 ⟨ga, ca, rfl, hqc, hr3, h3, _⟩
        have HR3 := Lib.hid hr3
        have H3 := Lib.hid h3
        have hs3 : Hid (Below w3.heap.size w3 w3) := Lib.hid (Below.refl _ _)
        clear hr3 h3 K1
        go_wp2_with fail
        go_loopw [6] (fun iv wr => ∃ (i : Nat), iv = .int .i64 i ∧ i ≤ q ∧ Hid (GAt W wr g G) ∧ Hid (Below w3.heap.size w3 wr)) (fun iv _ => q - (intOf iv).toNat)
        case atStart => exact ⟨0, rfl, by omega, H3, hs3⟩
        case round =>
          obtain ⟨i, rfl, hi, HG, HB⟩ := hrel
          by_cases hil : i < q
          · have hic : i < L.length := by rw [HQ.out]; exact hil
            have hij : i < (ints64 L).length := by rw [ints64_length]; exact hic
            obtain ⟨x, hx⟩ : ∃ x, L[i] = x := ⟨_, rfl⟩
            obtain ⟨r, hr, hl4, hlast⟩ := HG.out.wf.there (x := x) (by rw [HL.out, ← hx]; exact List.getElem_mem hic)
            have CA : Hid (∀ w', Below w3.heap.size w3 w' → w'.cell? ⟨ga, i, none⟩ = some (.int .i64 x)) := Lib.hid (fun w' hb => (HR3.out.below hb).cell (by rw [List.getElem?_eq_getElem hij]; simp [ints64, hx]))
            have hcx := CA.out _ HB.out
            obtain ⟨m, hm'⟩ : ∃ m, (chI G (x : Int)).length = m := ⟨_, rfl⟩
            have hm1 : 1 ≤ m := by rw [← hm', hr]; simp
            have K1 := Lib.hid (chain_in1 (id := (x : Int)) HG.out rfl hm' hm1)
            have HLA := Lib.hid hlast
            have HRR := Lib.hid hr
            have HMM := Lib.hid hm'
            rw [hm'] at hl4
            have HWF := Lib.hid HG.out.wf
            clear hr hm' hlast hic hij hx HG
            go_wp2_with fail
            refine K1.out.mono ?_
            rintro e w4 ⟨gp, c2, rfl, hpc, hr4, h4, hb4⟩
            have HR4 := Lib.hid hr4
            have H4 := Lib.hid h4
            have HB4 := Lib.hid (HB.out.trans (hb4.mono HB.out.size))
            have hcx4 := CA.out _ HB4.out
            clear hr4 h4 K1 hb4 HB hcx
            have hm4 : m = 1 ∨ m = 2 ∨ m = 3 ∨ m = 4 := by omega
            rcases hm4 with rfl | rfl | rfl | rfl
            · obtain rfl : r = [] := by have := HMM.out; rw [HRR.out] at this; simpa using this
              obtain rfl : x = 0 := by have := HLA.out; rw [HRR.out] at this; simpa using this
              have CP : Hid (∀ w', Below w4.heap.size w4 w' → w'.cell? ⟨gp, 0, none⟩ = some (.int .i64 0)) := Lib.hid (fun w' hb => by
                have h := HR4.out.below hb
                rw [HRR.out] at h
                exact h.cell (j := 0) rfl)
              have hwr : IntKind.i64.wrap 0 = 0 := by decide
              have BD := Lib.hid ((Below.refl w4.heap.size w4).drew)
              have HD := Lib.hid (H4.out.below BD.out)
              have SF : Hid (∀ w', Below w4.heap.size w4 w' → (fun w' => w'.cell? ⟨ga, i, none⟩ = some (.int .i64 0) ∧ w'.cell? ⟨gp, 0, none⟩ = some (.int .i64 0)) w') := Lib.hid (fun w' hb => ⟨CA.out w' (HB4.out.trans (hb.mono HB4.out.size)), CP.out w' hb⟩)
              have SD := SF.out _ BD.out
              have KD := Lib.hid (fun (w : World) (h : GAt W w g G) => depth_in (id := 0) h HMM.out)
              clear HMM HLA hm1 hl4
              go_upto_region 15 with fail
              go_region_held3 (fun w' => w'.cell? ⟨ga, i, none⟩ = some (.int .i64 0) ∧ w'.cell? ⟨gp, 0, none⟩ = some (.int .i64 0)) (first | exact S1 | exact SD)
                (first
                  | (go_at_call 13; refine (KD.out _ HD.out).mono ?_; rintro e w5 ⟨rfl, h, hb⟩; have H5 := Lib.hid h; have B5 := Lib.hid (BD.out.trans (hb.mono (by first | exact BD.out.size | exact Nat.le_refl _))); have S1 := SF.out _ B5.out; clear h hb))
              have HF := Lib.hid (HB4.out.trans (B5.out.mono HB4.out.size))
              have hcx5 := S1.1
              clear SF SD S1 BD HD KD CP hwr
              go_wp2_with fail
              go_roundw
              case rel => exact ⟨i + 1, by go_num, by omega, H5, HF⟩
              case measure => simp [intOf]; omega
            · obtain ⟨y1, rfl⟩ : ∃ y1, r = [y1] := by
                have h := HMM.out
                rw [HRR.out] at h
                match r, h with
                | [y1], _ => exact ⟨y1, rfl⟩
              obtain rfl : y1 = 0 := by have := HLA.out; rw [HRR.out] at this; simpa using this
              have CP : Hid (∀ w', Below w4.heap.size w4 w' → w'.cell? ⟨gp, 0, none⟩ = some (.int .i64 (x : Nat)) ∧ w'.cell? ⟨gp, 1, none⟩ = some (.int .i64 0)) := Lib.hid (fun w' hb => by
                have h := HR4.out.below hb
                rw [HRR.out] at h
                exact ⟨h.cell (j := 0) rfl, h.cell (j := 1) rfl⟩)
              have hwr : IntKind.i64.wrap 1 = 1 := by decide
              have BD := Lib.hid ((Below.refl w4.heap.size w4).drew)
              have HD := Lib.hid (H4.out.below BD.out)
              have SF : Hid (∀ w', Below w4.heap.size w4 w' → (fun w' => w'.cell? ⟨ga, i, none⟩ = some (.int .i64 (x : Nat)) ∧ w'.cell? ⟨gp, 0, none⟩ = some (.int .i64 (x : Nat)) ∧ w'.cell? ⟨gp, 1, none⟩ = some (.int .i64 0)) w') := Lib.hid (fun w' hb => ⟨CA.out w' (HB4.out.trans (hb.mono HB4.out.size)), CP.out w' hb⟩)
              have SD := SF.out _ BD.out
              have KD := Lib.hid (fun (w : World) (h : GAt W w g G) => depth_in (id := (x : Int)) h HMM.out)
              clear HMM HLA hm1 hl4
              go_upto_region 15 with fail
              go_region_held3 (fun w' => w'.cell? ⟨ga, i, none⟩ = some (.int .i64 (x : Nat)) ∧ w'.cell? ⟨gp, 0, none⟩ = some (.int .i64 (x : Nat)) ∧ w'.cell? ⟨gp, 1, none⟩ = some (.int .i64 0)) (first | exact S1 | exact SD)
                (first
                  | (go_at_call 13; refine (KD.out _ HD.out).mono ?_; rintro e w5 ⟨rfl, h, hb⟩; have H5 := Lib.hid h; have B5 := Lib.hid (BD.out.trans (hb.mono (by first | exact BD.out.size | exact Nat.le_refl _))); have S1 := SF.out _ B5.out; clear h hb))
              have HF := Lib.hid (HB4.out.trans (B5.out.mono HB4.out.size))
              have hcx5 := S1.1
              obtain ⟨hup, hch⟩ := HWF.out.next HRR.out
              have KU := Lib.hid (up_in H5.out hup)
              have B5D := Lib.hid ((Below.refl w5.heap.size w5).drew)
              have H5D := Lib.hid (H5.out.below B5D.out)
              have SC : Hid (∀ w', Below w5.heap.size w5 w' → w'.cell? ⟨gp, 1, none⟩ = some (.int .i64 (0 : Nat))) := Lib.hid (fun w' hb => (SF.out w' (B5.out.trans (hb.mono B5.out.size))).2.2)
              have RP : Hid (∀ w', Below w5.heap.size w5 w' → IRow .i64 w' w'.heap.size (some ⟨gp, 1, none⟩) (ints64 [0])) := Lib.hid (fun w' hb => by
                have h := HR4.out.below (B5.out.trans (hb.mono B5.out.size))
                rw [HRR.out] at h
                intro j z hj
                refine ⟨_, rfl, ?_, ?_⟩
                · obtain ⟨_, e1, e2, _⟩ := h 0 _ rfl
                  injection e1 with e1
                  subst e1
                  have := B5.out.size
                  have := hb.size
                  simp at e2 ⊢
                  omega
                · have e3 : (⟨gp, 1, none⟩ : Addr).add j = ⟨gp, 1 + j, none⟩ := by unfold Addr.add; split <;> simp_all
                  rw [e3]
                  exact h.cell (j := 1 + j) (by rw [Nat.add_comm]; exact hj))
              have KC := Lib.hid (chain_in1 (id := (0 : Int)) H5D.out hch rfl (by simp))
              have SD5 := SC.out _ B5D.out
              clear SF SD S1 BD HD KD CP hup hch hwr
              go_wp2_with fail
              refine KU.out.mono ?_
              rintro e w6 ⟨rfl, rfl⟩
              go_upto_region 19 with fail
              go_region_held3 (fun w' => w'.cell? ⟨gp, 1, none⟩ = some (.int .i64 (0 : Nat))) (first | exact SZ | exact SY | exact SD5)
                (first
                  | (go_at_call 12; refine (KC.out).mono ?_; rintro e w7 ⟨g7, c7, rfl, _, hr7, h7, hb7⟩; have B7 := Lib.hid (B5D.out.trans (hb7.mono B5D.out.size)); have R7 := Lib.hid hr7; have H7 := Lib.hid h7; have SY := SC.out _ B7.out; clear hr7 h7 hb7)
                  | (go_at_call 19; refine (ints7_eq _ _ 1 _ _ _ (ints64 [0]) _ rfl (by decide) R7.out (RP.out _ B7.out)).mono ?_; rintro e w8 ⟨rfl, hb8⟩; have B8 := Lib.hid (B7.out.trans (hb8.mono B7.out.size)); have H8 := Lib.hid (H7.out.below hb8); have SZ := SC.out _ B8.out; clear hb8))
              have HF8 := Lib.hid (HF.out.trans (B8.out.mono HF.out.size))
              clear SC RP KC SD5 SY SZ
              go_wp2_with fail
              go_roundw
              case rel => exact ⟨i + 1, by go_num, by omega, H8, HF8⟩
              case measure => simp [intOf]; omega
            · obtain ⟨y1, y2, rfl⟩ : ∃ y1 y2, r = [y1, y2] := by
                have h := HMM.out
                rw [HRR.out] at h
                match r, h with
                | [y1, y2], _ => exact ⟨y1, y2, rfl⟩
              obtain rfl : y2 = 0 := by have := HLA.out; rw [HRR.out] at this; simpa using this
              have CP : Hid (∀ w', Below w4.heap.size w4 w' → w'.cell? ⟨gp, 0, none⟩ = some (.int .i64 (x : Nat)) ∧ w'.cell? ⟨gp, 2, none⟩ = some (.int .i64 0) ∧ w'.cell? ⟨gp, 1, none⟩ = some (.int .i64 (y1 : Nat))) := Lib.hid (fun w' hb => by
                have h := HR4.out.below hb
                rw [HRR.out] at h
                exact ⟨h.cell (j := 0) rfl, h.cell (j := 2) rfl, h.cell (j := 1) rfl⟩)
              have hwr : IntKind.i64.wrap 2 = 2 := by decide
              have BD := Lib.hid ((Below.refl w4.heap.size w4).drew)
              have HD := Lib.hid (H4.out.below BD.out)
              have SF : Hid (∀ w', Below w4.heap.size w4 w' → (fun w' => w'.cell? ⟨ga, i, none⟩ = some (.int .i64 (x : Nat)) ∧ w'.cell? ⟨gp, 0, none⟩ = some (.int .i64 (x : Nat)) ∧ w'.cell? ⟨gp, 2, none⟩ = some (.int .i64 0) ∧ w'.cell? ⟨gp, 1, none⟩ = some (.int .i64 (y1 : Nat))) w') := Lib.hid (fun w' hb => ⟨CA.out w' (HB4.out.trans (hb.mono HB4.out.size)), CP.out w' hb⟩)
              have SD := SF.out _ BD.out
              have KD := Lib.hid (fun (w : World) (h : GAt W w g G) => depth_in (id := (x : Int)) h HMM.out)
              clear HMM HLA hm1 hl4
              go_upto_region 15 with fail
              go_region_held3 (fun w' => w'.cell? ⟨ga, i, none⟩ = some (.int .i64 (x : Nat)) ∧ w'.cell? ⟨gp, 0, none⟩ = some (.int .i64 (x : Nat)) ∧ w'.cell? ⟨gp, 2, none⟩ = some (.int .i64 0) ∧ w'.cell? ⟨gp, 1, none⟩ = some (.int .i64 (y1 : Nat))) (first | exact S1 | exact SD)
                (first
                  | (go_at_call 13; refine (KD.out _ HD.out).mono ?_; rintro e w5 ⟨rfl, h, hb⟩; have H5 := Lib.hid h; have B5 := Lib.hid (BD.out.trans (hb.mono (by first | exact BD.out.size | exact Nat.le_refl _))); have S1 := SF.out _ B5.out; clear h hb))
              have HF := Lib.hid (HB4.out.trans (B5.out.mono HB4.out.size))
              have hcx5 := S1.1
              obtain ⟨hup, hch⟩ := HWF.out.next HRR.out
              have KU := Lib.hid (up_in H5.out hup)
              have B5D := Lib.hid ((Below.refl w5.heap.size w5).drew)
              have H5D := Lib.hid (H5.out.below B5D.out)
              have SC : Hid (∀ w', Below w5.heap.size w5 w' → w'.cell? ⟨gp, 1, none⟩ = some (.int .i64 (y1 : Nat))) := Lib.hid (fun w' hb => (SF.out w' (B5.out.trans (hb.mono B5.out.size))).2.2.2)
              have RP : Hid (∀ w', Below w5.heap.size w5 w' → IRow .i64 w' w'.heap.size (some ⟨gp, 1, none⟩) (ints64 [y1, 0])) := Lib.hid (fun w' hb => by
                have h := HR4.out.below (B5.out.trans (hb.mono B5.out.size))
                rw [HRR.out] at h
                intro j z hj
                refine ⟨_, rfl, ?_, ?_⟩
                · obtain ⟨_, e1, e2, _⟩ := h 0 _ rfl
                  injection e1 with e1
                  subst e1
                  have := B5.out.size
                  have := hb.size
                  simp at e2 ⊢
                  omega
                · have e3 : (⟨gp, 1, none⟩ : Addr).add j = ⟨gp, 1 + j, none⟩ := by unfold Addr.add; split <;> simp_all
                  rw [e3]
                  exact h.cell (j := 1 + j) (by rw [Nat.add_comm]; exact hj))
              have KC := Lib.hid (chain_in1 (id := (y1 : Int)) H5D.out hch rfl (by simp))
              have SD5 := SC.out _ B5D.out
              clear SF SD S1 BD HD KD CP hup hch hwr
              go_wp2_with fail
              refine KU.out.mono ?_
              rintro e w6 ⟨rfl, rfl⟩
              go_upto_region 19 with fail
              go_region_held3 (fun w' => w'.cell? ⟨gp, 1, none⟩ = some (.int .i64 (y1 : Nat))) (first | exact SZ | exact SY | exact SD5)
                (first
                  | (go_at_call 12; refine (KC.out).mono ?_; rintro e w7 ⟨g7, c7, rfl, _, hr7, h7, hb7⟩; have B7 := Lib.hid (B5D.out.trans (hb7.mono B5D.out.size)); have R7 := Lib.hid hr7; have H7 := Lib.hid h7; have SY := SC.out _ B7.out; clear hr7 h7 hb7)
                  | (go_at_call 19; refine (ints7_eq _ _ 2 _ _ _ (ints64 [y1, 0]) _ rfl (by decide) R7.out (RP.out _ B7.out)).mono ?_; rintro e w8 ⟨rfl, hb8⟩; have B8 := Lib.hid (B7.out.trans (hb8.mono B7.out.size)); have H8 := Lib.hid (H7.out.below hb8); have SZ := SC.out _ B8.out; clear hb8))
              have HF8 := Lib.hid (HF.out.trans (B8.out.mono HF.out.size))
              clear SC RP KC SD5 SY SZ
              go_wp2_with fail
              go_roundw
              case rel => exact ⟨i + 1, by go_num, by omega, H8, HF8⟩
              case measure => simp [intOf]; omega
            · obtain ⟨y1, y2, y3, rfl⟩ : ∃ y1 y2 y3, r = [y1, y2, y3] := by
                have h := HMM.out
                rw [HRR.out] at h
                match r, h with
                | [y1, y2, y3], _ => exact ⟨y1, y2, y3, rfl⟩
              obtain rfl : y3 = 0 := by have := HLA.out; rw [HRR.out] at this; simpa using this
              have CP : Hid (∀ w', Below w4.heap.size w4 w' → w'.cell? ⟨gp, 0, none⟩ = some (.int .i64 (x : Nat)) ∧ w'.cell? ⟨gp, 3, none⟩ = some (.int .i64 0) ∧ w'.cell? ⟨gp, 1, none⟩ = some (.int .i64 (y1 : Nat))) := Lib.hid (fun w' hb => by
                have h := HR4.out.below hb
                rw [HRR.out] at h
                exact ⟨h.cell (j := 0) rfl, h.cell (j := 3) rfl, h.cell (j := 1) rfl⟩)
              have hwr : IntKind.i64.wrap 3 = 3 := by decide
              have BD := Lib.hid ((Below.refl w4.heap.size w4).drew)
              have HD := Lib.hid (H4.out.below BD.out)
              have SF : Hid (∀ w', Below w4.heap.size w4 w' → (fun w' => w'.cell? ⟨ga, i, none⟩ = some (.int .i64 (x : Nat)) ∧ w'.cell? ⟨gp, 0, none⟩ = some (.int .i64 (x : Nat)) ∧ w'.cell? ⟨gp, 3, none⟩ = some (.int .i64 0) ∧ w'.cell? ⟨gp, 1, none⟩ = some (.int .i64 (y1 : Nat))) w') := Lib.hid (fun w' hb => ⟨CA.out w' (HB4.out.trans (hb.mono HB4.out.size)), CP.out w' hb⟩)
              have SD := SF.out _ BD.out
              have KD := Lib.hid (fun (w : World) (h : GAt W w g G) => depth_in (id := (x : Int)) h HMM.out)
              clear HMM HLA hm1 hl4
              go_upto_region 15 with fail
              go_region_held3 (fun w' => w'.cell? ⟨ga, i, none⟩ = some (.int .i64 (x : Nat)) ∧ w'.cell? ⟨gp, 0, none⟩ = some (.int .i64 (x : Nat)) ∧ w'.cell? ⟨gp, 3, none⟩ = some (.int .i64 0) ∧ w'.cell? ⟨gp, 1, none⟩ = some (.int .i64 (y1 : Nat))) (first | exact S1 | exact SD)
                (first
                  | (go_at_call 13; refine (KD.out _ HD.out).mono ?_; rintro e w5 ⟨rfl, h, hb⟩; have H5 := Lib.hid h; have B5 := Lib.hid (BD.out.trans (hb.mono (by first | exact BD.out.size | exact Nat.le_refl _))); have S1 := SF.out _ B5.out; clear h hb))
              have HF := Lib.hid (HB4.out.trans (B5.out.mono HB4.out.size))
              have hcx5 := S1.1
              obtain ⟨hup, hch⟩ := HWF.out.next HRR.out
              have KU := Lib.hid (up_in H5.out hup)
              have B5D := Lib.hid ((Below.refl w5.heap.size w5).drew)
              have H5D := Lib.hid (H5.out.below B5D.out)
              have SC : Hid (∀ w', Below w5.heap.size w5 w' → w'.cell? ⟨gp, 1, none⟩ = some (.int .i64 (y1 : Nat))) := Lib.hid (fun w' hb => (SF.out w' (B5.out.trans (hb.mono B5.out.size))).2.2.2)
              have RP : Hid (∀ w', Below w5.heap.size w5 w' → IRow .i64 w' w'.heap.size (some ⟨gp, 1, none⟩) (ints64 [y1, y2, 0])) := Lib.hid (fun w' hb => by
                have h := HR4.out.below (B5.out.trans (hb.mono B5.out.size))
                rw [HRR.out] at h
                intro j z hj
                refine ⟨_, rfl, ?_, ?_⟩
                · obtain ⟨_, e1, e2, _⟩ := h 0 _ rfl
                  injection e1 with e1
                  subst e1
                  have := B5.out.size
                  have := hb.size
                  simp at e2 ⊢
                  omega
                · have e3 : (⟨gp, 1, none⟩ : Addr).add j = ⟨gp, 1 + j, none⟩ := by unfold Addr.add; split <;> simp_all
                  rw [e3]
                  exact h.cell (j := 1 + j) (by rw [Nat.add_comm]; exact hj))
              have KC := Lib.hid (chain_in1 (id := (y1 : Int)) H5D.out hch rfl (by simp))
              have SD5 := SC.out _ B5D.out
              clear SF SD S1 BD HD KD CP hup hch hwr
              go_wp2_with fail
              refine KU.out.mono ?_
              rintro e w6 ⟨rfl, rfl⟩
              go_upto_region 19 with fail
              go_region_held3 (fun w' => w'.cell? ⟨gp, 1, none⟩ = some (.int .i64 (y1 : Nat))) (first | exact SZ | exact SY | exact SD5)
                (first
                  | (go_at_call 12; refine (KC.out).mono ?_; rintro e w7 ⟨g7, c7, rfl, _, hr7, h7, hb7⟩; have B7 := Lib.hid (B5D.out.trans (hb7.mono B5D.out.size)); have R7 := Lib.hid hr7; have H7 := Lib.hid h7; have SY := SC.out _ B7.out; clear hr7 h7 hb7)
                  | (go_at_call 19; refine (ints7_eq _ _ 3 _ _ _ (ints64 [y1, y2, 0]) _ rfl (by decide) R7.out (RP.out _ B7.out)).mono ?_; rintro e w8 ⟨rfl, hb8⟩; have B8 := Lib.hid (B7.out.trans (hb8.mono B7.out.size)); have H8 := Lib.hid (H7.out.below hb8); have SZ := SC.out _ B8.out; clear hb8))
              have HF8 := Lib.hid (HF.out.trans (B8.out.mono HF.out.size))
              clear SC RP KC SD5 SY SZ
              go_wp2_with fail
              go_roundw
              case rel => exact ⟨i + 1, by go_num, by omega, H8, HF8⟩
              case measure => simp [intOf]; omega
          · obtain rfl : i = q := by omega
            have hz : wr.cell? ⟨ga, 0, none⟩ = some (.int .i64 0) := by
              have h := HR3.out.below HB.out
              rw [HR0.out] at h
              exact h.cell (j := 0) rfl
            have HF := Lib.hid HG.out.fr
            go_wp2_with fail
            go_ret
            exact ⟨rfl, HF.out⟩
end Go.Proofs.Ytbhcooomdjhoiaa
