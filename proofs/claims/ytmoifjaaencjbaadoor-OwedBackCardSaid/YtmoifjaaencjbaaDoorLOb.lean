/- The walk of OwedBack. -/
import Derived.Test.YtmoifjaaencjbaaDoorZi
import Derived.Test.YtmoifjaaencjbaaDoorZh
import Derived.Test.YtmoifjaaencjbaaDoorZn
import Derived.Test.YtmoifjaaencjbaaDoorZp
namespace Go.Proofs.YtmoifjaaencjbaaDoor
open Go.RowKit Go.Shelf

set_option maxRecDepth 100000 in
set_option maxHeartbeats 8000000 in
theorem owedBack_c (f0 : Int) (A : Option Addr) (c : Nat) (l : List RI) (x0 x1 x2 : Int) (w : World) (hlc : l.length ≤ c) (hm : c ≤ maxLen) (hz : A = none → c = 0) (hr : TRow w A l) (ht : Tab w) :
    Calls Tryd.prog 4 #[.agg #[.int .i64 f0, .slice A l.length c], .agg #[.int .i64 x0, .int .i64 x1, .int .i64 x2]] w (Ret10 (.bool true) w) := by
  obtain ⟨n, hn⟩ : ∃ n, l.length = n := ⟨_, rfl⟩
  rw [hn] at hlc ⊢
  have hb0 : Below w.heap.size w ((w.alloc (.cells #[.int .i64 f0, .slice A n c] 25)).alloc (.cells #[.int .i64 x0, .int .i64 x1, .int .i64 x2] 27)) := ((Below.refl _ w).alloc (Nat.le_refl _) _).alloc (by simp) _
  have HB0 := Lib.hid hb0
  have HF0 := Lib.hid (show FoAt ((w.alloc (.cells #[.int .i64 f0, .slice A n c] 25)).alloc (.cells #[.int .i64 x0, .int .i64 x1, .int .i64 x2] 27)) w.heap.size f0 A n c from heap_alloc2_old w _ _)
  have HX0 := Lib.hid (show ItAt ((w.alloc (.cells #[.int .i64 f0, .slice A n c] 25)).alloc (.cells #[.int .i64 x0, .int .i64 x1, .int .i64 x2] 27)) (w.heap.size + 1) (x0, x1, x2) from heap_alloc2_new w _ _)
  have KA := Lib.hid (awake_c _ (ht.below hb0 (Nat.le_refl _)))
  clear hb0 ht
  by_cases h64 : n ≤ 64
  case neg =>
    have hd1 : decide ((64 : Int) < (n : Int)) = true := by simp; omega
    clear h64 hn hr hm hz hlc
    go_enter Tryd.func4, Tryd.ntmps4
    go_wp2_with fail
    refine KA.out.mono ?_
    rintro e w1 ⟨rfl, hb⟩
    obtain ⟨u0, u1, -, -⟩ := (show FoAt w1 w.heap.size f0 A n c from BoxAt.next HF0.out hb (Nat.le_refl _)).cells
    have HB1 := Lib.hid (HB0.out.trans (hb.mono HB0.out.size))
    clear hb HB0 HF0 KA
    go_wp2_with fail
    go_ret
    exact ⟨rfl, HB1.out⟩
  have hd1 : decide ((64 : Int) < (n : Int)) = false := by simp; omega
  have KG : Hid (∀ W, Below w.heap.size w W → Calls Tryd.prog 10 #[.agg #[.int .i64 f0, .slice A n c]] W (Ret10 (.bool (goodV f0 l)) W)) := Lib.hid (fun W hb => good_c f0 A n c l W hn (by omega) (hr.below hb (Nat.le_refl _)))
  have KP : Hid (∀ W, Below w.heap.size w W → Calls Tryd.prog 8 #[.agg #[.int .i64 f0, .slice A n c], .agg #[.int .i64 x0, .int .i64 x1, .int .i64 x2]] W (FRet (putO f0 l (x0, x1, x2)).2.1 (putO f0 l (x0, x1, x2)).2.2 (putO f0 l (x0, x1, x2)).1 W)) := Lib.hid (fun W hb => put_c f0 x0 x1 x2 A n c l W hn hlc hm hz (hr.below hb (Nat.le_refl _)) (by omega))
  have HR := Lib.hid hr
  have HN := Lib.hid hn
  have HN64 := Lib.hid h64
  cases hG : goodV f0 l
  · rw [hG] at KG
    clear hn hr hm hz hlc hG h64 KP HR HN
    go_enter Tryd.func4, Tryd.ntmps4
    go_wp2_with fail
    refine KA.out.mono ?_
    rintro e w1 ⟨rfl, hb⟩
    have HF1 := Lib.hid (show FoAt w1 w.heap.size f0 A n c from BoxAt.next HF0.out hb (Nat.le_refl _))
    obtain ⟨u0, u1, -, -⟩ := HF1.out.cells
    have HB1 := Lib.hid (HB0.out.trans (hb.mono HB0.out.size))
    clear hb HB0 HF0 KA
    go_wp2_with fail
    refine (KG.out _ HB1.out).mono ?_
    rintro e w2 ⟨rfl, hb⟩
    have HB2 := Lib.hid (HB1.out.trans (hb.mono HB1.out.size))
    clear hb HB1 KG
    go_wp2_with fail
    go_ret
    exact ⟨rfl, HB2.out⟩
  have hO : (putO f0 l (x0, x1, x2) = (4, 0, [])) ∨ (putO f0 l (x0, x1, x2) = (1, 0, [])) ∨ (putO f0 l (x0, x1, x2) = (0, f0, insA l (x0, x1, x2)) ∧ hasL x0 l = false ∧ goodV f0 (insA l (x0, x1, x2)) = true) := by
    unfold putO
    rw [if_neg (by simp [hG])]
    cases hH : hasL x0 l
    · rw [if_neg (by simp)]
      cases hG2 : goodV f0 (insA l (x0, x1, x2))
      · exact .inr (.inl (by simp))
      · exact .inr (.inr ⟨by simp, rfl, rfl⟩)
    · exact .inl (by simp)
  have HG := Lib.hid hG
  rw [hG] at KG
  clear hn hr hm hz hlc hG h64
  rcases hO with hO | hO | ⟨hO, hH, hG2⟩
  · rw [hO] at KP
    clear hO
    go_enter Tryd.func4, Tryd.ntmps4
    go_wp2_with fail
    refine KA.out.mono ?_
    rintro e w1 ⟨rfl, hb⟩
    have HF1 := Lib.hid (show FoAt w1 w.heap.size f0 A n c from BoxAt.next HF0.out hb (Nat.le_refl _))
    have HX1 := Lib.hid (show ItAt w1 (w.heap.size + 1) (x0, x1, x2) from BoxAt.next HX0.out hb (Nat.le_refl _))
    obtain ⟨u0, u1, -, -⟩ := HF1.out.cells
    have HB1 := Lib.hid (HB0.out.trans (hb.mono HB0.out.size))
    clear hb HB0 HF0 HX0 KA
    go_wp2_with fail
    refine (KG.out _ HB1.out).mono ?_
    rintro e w2 ⟨rfl, hb⟩
    have HF2 := Lib.hid (show FoAt w2 w.heap.size f0 A n c from BoxAt.next HF1.out hb (Nat.le_refl _))
    have HX2 := Lib.hid (show ItAt w2 (w.heap.size + 1) (x0, x1, x2) from BoxAt.next HX1.out hb (Nat.le_refl _))
    have HB2 := Lib.hid (HB1.out.trans (hb.mono HB1.out.size))
    clear hb HB1 HF1 HX1 KG u0 u1
    obtain ⟨u0, u1, -, -⟩ := HF2.out.cells
    obtain ⟨v0, v1, v2, -, -, -⟩ := HX2.out.cells
    simp only at v0 v1 v2
    go_wp2_with fail
    refine (KP.out _ HB2.out).mono ?_
    rintro e w3 ⟨B, cb, m, hbm, rfl, hbr, hbz, hbl, hbm2, hb⟩
    clear u0 u1 v0 v1 v2 KP
    have HB3 := Lib.hid (HB2.out.trans (hb.mono HB2.out.size))
    clear hb hbr hbm hbl hbm2 hbz
    go_wp2_with fail
    go_ret
    exact ⟨rfl, HB3.out.alloc HB3.out.size _⟩
  · rw [hO] at KP
    clear hO
    go_enter Tryd.func4, Tryd.ntmps4
    go_wp2_with fail
    refine KA.out.mono ?_
    rintro e w1 ⟨rfl, hb⟩
    have HF1 := Lib.hid (show FoAt w1 w.heap.size f0 A n c from BoxAt.next HF0.out hb (Nat.le_refl _))
    have HX1 := Lib.hid (show ItAt w1 (w.heap.size + 1) (x0, x1, x2) from BoxAt.next HX0.out hb (Nat.le_refl _))
    obtain ⟨u0, u1, -, -⟩ := HF1.out.cells
    have HB1 := Lib.hid (HB0.out.trans (hb.mono HB0.out.size))
    clear hb HB0 HF0 HX0 KA
    go_wp2_with fail
    refine (KG.out _ HB1.out).mono ?_
    rintro e w2 ⟨rfl, hb⟩
    have HF2 := Lib.hid (show FoAt w2 w.heap.size f0 A n c from BoxAt.next HF1.out hb (Nat.le_refl _))
    have HX2 := Lib.hid (show ItAt w2 (w.heap.size + 1) (x0, x1, x2) from BoxAt.next HX1.out hb (Nat.le_refl _))
    have HB2 := Lib.hid (HB1.out.trans (hb.mono HB1.out.size))
    clear hb HB1 HF1 HX1 KG u0 u1
    obtain ⟨u0, u1, -, -⟩ := HF2.out.cells
    obtain ⟨v0, v1, v2, -, -, -⟩ := HX2.out.cells
    simp only at v0 v1 v2
    go_wp2_with fail
    refine (KP.out _ HB2.out).mono ?_
    rintro e w3 ⟨B, cb, m, hbm, rfl, hbr, hbz, hbl, hbm2, hb⟩
    clear u0 u1 v0 v1 v2 KP
    have HB3 := Lib.hid (HB2.out.trans (hb.mono HB2.out.size))
    clear hb hbr hbm hbl hbm2 hbz
    go_wp2_with fail
    go_ret
    exact ⟨rfl, HB3.out.alloc HB3.out.size _⟩
  · have HK := Lib.hid (back_drop (x := (x0, x1, x2)) HG.out hH hG2)
    have HFI := Lib.hid (insA_idx (x := (x0, x1, x2)) hH).2
    have HLN := Lib.hid (insA_len l (x0, x1, x2))
    have HG2 := Lib.hid hG2
    clear hH hG2
    rw [hO] at KP
    clear hO
    go_enter Tryd.func4, Tryd.ntmps4
    go_wp2_with fail
    refine KA.out.mono ?_
    rintro e w1 ⟨rfl, hb⟩
    have HF1 := Lib.hid (show FoAt w1 w.heap.size f0 A n c from BoxAt.next HF0.out hb (Nat.le_refl _))
    have HX1 := Lib.hid (show ItAt w1 (w.heap.size + 1) (x0, x1, x2) from BoxAt.next HX0.out hb (Nat.le_refl _))
    obtain ⟨u0, u1, -, -⟩ := HF1.out.cells
    have HB1 := Lib.hid (HB0.out.trans (hb.mono HB0.out.size))
    clear hb HB0 HF0 HX0 KA
    go_wp2_with fail
    refine (KG.out _ HB1.out).mono ?_
    rintro e w2 ⟨rfl, hb⟩
    have HF2 := Lib.hid (show FoAt w2 w.heap.size f0 A n c from BoxAt.next HF1.out hb (Nat.le_refl _))
    have HX2 := Lib.hid (show ItAt w2 (w.heap.size + 1) (x0, x1, x2) from BoxAt.next HX1.out hb (Nat.le_refl _))
    have HB2 := Lib.hid (HB1.out.trans (hb.mono HB1.out.size))
    clear hb HB1 HF1 HX1 KG u0 u1
    obtain ⟨u0, u1, -, -⟩ := HF2.out.cells
    obtain ⟨v0, v1, v2, -, -, -⟩ := HX2.out.cells
    simp only at v0 v1 v2
    go_wp2_with fail
    refine (KP.out _ HB2.out).mono ?_
    rintro e w3 ⟨B, cb, m, hbm, rfl, hbr, hbz, hbl, hbm2, hb⟩
    clear u0 u1 v0 v1 v2 KP
    have hsa : Below w3.heap.size w3 (w3.alloc (.cells #[.int .i64 f0, .slice B m cb] 25)) := (Below.refl _ _).alloc (Nat.le_refl _) _
    have hF3 : FoAt w3 w.heap.size f0 A n c := BoxAt.next HF2.out hb (Nat.le_refl _)
    have hX3 : ItAt w3 (w.heap.size + 1) (x0, x1, x2) := BoxAt.next HX2.out hb (Nat.le_refl _)
    have hB3 := HB2.out.trans (hb.mono HB2.out.size)
    obtain ⟨L, hL⟩ : ∃ L, insA l (x0, x1, x2) = L := ⟨_, rfl⟩
    rw [hL] at hbm hbr HK HFI HLN HG2
    have hml : m = n + 1 := by rw [← hbm, HLN.out, HN.out]
    obtain ⟨W4, hW4⟩ : ∃ W4, w3.alloc (.cells #[.int .i64 f0, .slice B m cb] 25) = W4 := ⟨_, rfl⟩
    obtain ⟨Xa, hXa⟩ : ∃ Xa, w3.heap.size = Xa := ⟨_, rfl⟩
    have ha4 : FoAt W4 Xa f0 B m cb := by rw [← hW4, ← hXa]; exact heap_alloc_new w3 _
    rw [hW4] at hsa
    have HF4 := Lib.hid (show FoAt W4 w.heap.size f0 A n c from BoxAt.next hF3 hsa (Nat.le_refl _))
    have HX4 := Lib.hid (show ItAt W4 (w.heap.size + 1) (x0, x1, x2) from BoxAt.next hX3 hsa (Nat.le_refl _))
    have HB4 := Lib.hid (hB3.trans (hsa.mono hB3.size))
    have HA4 := Lib.hid ha4
    have HBR := Lib.hid (hbr.below hsa (Nat.le_refl _))
    have HBM := Lib.hid hbm
    have KD : Hid (∀ W, Below W4.heap.size W4 W → Calls Tryd.prog 9 #[.agg #[.int .i64 f0, .slice B m cb], .int .i64 x0] W (FRet (dropO f0 L x0).2.1 (dropO f0 L x0).2.2 (dropO f0 L x0).1 W)) := Lib.hid (fun W hb => drop_c f0 x0 B m cb L W hbm hbl hbm2 (by have := HN64.out; omega) (HBR.out.below hb (Nat.le_refl _)))
    have KF : Hid (∀ W, Below W4.heap.size W4 W → Calls Tryd.prog 13 #[.agg #[.int .i64 f0, .slice B m cb], .int .i64 x0] W (Ret10 (.tuple #[.agg #[.int .i64 ((findV x0 L).getD (0, 0, 0)).1, .int .i64 ((findV x0 L).getD (0, 0, 0)).2.1, .int .i64 ((findV x0 L).getD (0, 0, 0)).2.2], .bool (findV x0 L).isSome]) W)) := Lib.hid (fun W hb => find_c f0 B m cb x0 L W hbm (by have := HN64.out; omega) (HBR.out.below hb (Nat.le_refl _)))
    have KG2 : Hid (∀ W, Below W4.heap.size W4 W → Calls Tryd.prog 10 #[.agg #[.int .i64 f0, .slice B m cb]] W (Ret10 (.bool (goodV f0 L)) W)) := Lib.hid (fun W hb => good_c f0 B m cb L W hbm (by have := HN64.out; omega) (HBR.out.below hb (Nat.le_refl _)))
    rw [HG2.out] at KG2
    rw [HK.out] at KD
    rw [HFI.out] at KF
    simp only [Option.getD_some, Option.isSome_some] at KF
    simp only at KD
    have hme : ((m : Int) == (n : Int) + 1) = true := by simp; omega
    clear hml
    clear hbm hbr hbz hbl hbm2 hb hF3 hX3 hB3 hL ha4 hsa HK HFI HLN HG2 HF2 HX2 HB2 HG
    have HW4 := Lib.hid hW4
    have HXA := Lib.hid hXa
    clear hW4 hXa
    go_upto_region 8 with fail
    rw [HW4.out, HXA.out]
    clear HW4 HXA
    obtain ⟨v0, v1, v2, -, -, -⟩ := HX4.out.cells
    obtain ⟨a0, a1, -, -⟩ := HA4.out.cells
    simp only at v0 v1 v2
    go_wp2_with fail
    refine (KD.out _ (Below.refl _ _)).mono ?_
    rintro e w5 ⟨C, cc, q, hcm, rfl, hcr, -, -, -, hb⟩
    have hF5 : FoAt w5 w.heap.size f0 A n c := BoxAt.next HF4.out hb (Nat.le_refl _)
    have hX5 : ItAt w5 (w.heap.size + 1) (x0, x1, x2) := BoxAt.next HX4.out hb (Nat.le_refl _)
    have hA5 : FoAt w5 Xa f0 B m cb := BoxAt.next HA4.out hb (Nat.le_refl _)
    have hB5 : Below W4.heap.size W4 w5 := hb
    obtain rfl : q = n := by rw [← hcm]; exact HN.out
    obtain ⟨W6, hW6⟩ : ∃ W6, w5.alloc (.cells #[.int .i64 f0, .slice C q cc] 25) = W6 := ⟨_, rfl⟩
    obtain ⟨Xb, hXb⟩ : ∃ Xb, w5.heap.size = Xb := ⟨_, rfl⟩
    have hs6 : Below w5.heap.size w5 W6 := by rw [← hW6]; exact (Below.refl _ _).alloc (Nat.le_refl _) _
    have HC6 := Lib.hid (show FoAt W6 Xb f0 C q cc by rw [← hW6, ← hXb]; exact heap_alloc_new w5 _)
    have HF6 := Lib.hid (show FoAt W6 w.heap.size f0 A q c from BoxAt.next hF5 hs6 (Nat.le_refl _))
    have HX6 := Lib.hid (show ItAt W6 (w.heap.size + 1) (x0, x1, x2) from BoxAt.next hX5 hs6 (Nat.le_refl _))
    have HA6 := Lib.hid (show FoAt W6 Xa f0 B m cb from BoxAt.next hA5 hs6 (Nat.le_refl _))
    have HB6 := Lib.hid (hB5.trans (hs6.mono hB5.size))
    have HCR := Lib.hid (hcr.below hs6 (Nat.le_refl _))
    have HW6 := Lib.hid hW6
    have HXB := Lib.hid hXb
    clear hcm hcr hb hF5 hX5 hA5 hB5 hs6 hW6 hXb v0 v1 v2 a0 a1 KD HF4 HX4 HA4
    go_upto_region 9 with fail
    rw [HW6.out, HXB.out]
    clear HW6 HXB
    obtain ⟨v0, v1, v2, -, -, -⟩ := HX6.out.cells
    obtain ⟨a0, a1, -, -⟩ := HA6.out.cells
    simp only at v0 v1 v2
    go_wp2_with fail
    refine (KF.out _ HB6.out).mono ?_
    rintro e w7 ⟨rfl, hb⟩
    have hF7 : FoAt w7 w.heap.size f0 A q c := BoxAt.next HF6.out hb (Nat.le_refl _)
    have hX7 : ItAt w7 (w.heap.size + 1) (x0, x1, x2) := BoxAt.next HX6.out hb (Nat.le_refl _)
    have hA7 : FoAt w7 Xa f0 B m cb := BoxAt.next HA6.out hb (Nat.le_refl _)
    have hC7 : FoAt w7 Xb f0 C q cc := BoxAt.next HC6.out hb (Nat.le_refl _)
    have hB7 := HB6.out.trans (hb.mono HB6.out.size)
    have hcr7 := HCR.out.below hb (Nat.le_refl _)
    obtain ⟨W8, hW8⟩ : ∃ W8, w7.alloc (.cells #[.int .i64 x0, .int .i64 x1, .int .i64 x2] 27) = W8 := ⟨_, rfl⟩
    obtain ⟨Xc, hXc⟩ : ∃ Xc, w7.heap.size = Xc := ⟨_, rfl⟩
    have hs8 : Below w7.heap.size w7 W8 := by rw [← hW8]; exact (Below.refl _ _).alloc (Nat.le_refl _) _
    have HY8 := Lib.hid (show ItAt W8 Xc (x0, x1, x2) by rw [← hW8, ← hXc]; exact heap_alloc_new w7 _)
    have HF8 := Lib.hid (show FoAt W8 w.heap.size f0 A q c from BoxAt.next hF7 hs8 (Nat.le_refl _))
    have HX8 := Lib.hid (show ItAt W8 (w.heap.size + 1) (x0, x1, x2) from BoxAt.next hX7 hs8 (Nat.le_refl _))
    have HA8 := Lib.hid (show FoAt W8 Xa f0 B m cb from BoxAt.next hA7 hs8 (Nat.le_refl _))
    have HC8 := Lib.hid (show FoAt W8 Xb f0 C q cc from BoxAt.next hC7 hs8 (Nat.le_refl _))
    have hB8 := hB7.trans (hs8.mono hB7.size)
    have KS := Lib.hid (same_c f0 f0 C A q cc q c l l W8 HN.out HN.out (by have := HN64.out; omega) (hcr7.below hs8 (Nat.le_refl _)) (HR.out.below (HB4.out.trans (hB8.mono HB4.out.size)) (Nat.le_refl _)))
    have HSV : Hid (sameB f0 f0 l l = true) := Lib.hid (by simp [sameB])
    rw [HSV.out] at KS
    have HB8 := Lib.hid hB8
    have HW8 := Lib.hid hW8
    have HXC := Lib.hid hXc
    clear hb hF7 hX7 hA7 hC7 hB7 hcr7 hs8 hB8 hW8 hXc v0 v1 v2 a0 a1 KF HF6 HX6 HA6 HC6 HB6 HCR
    go_upto_region 10 with fail
    rw [HW8.out, HXC.out]
    clear HW8 HXC
    obtain ⟨u0, u1, -, -⟩ := HF8.out.cells
    obtain ⟨c0, c1, -, -⟩ := HC8.out.cells
    go_wp2_with fail
    refine KS.out.mono ?_
    rintro e w9 ⟨rfl, hb⟩
    have HF9 := Lib.hid (show FoAt w9 w.heap.size f0 A q c from BoxAt.next HF8.out hb (Nat.le_refl _))
    have HA9 := Lib.hid (show FoAt w9 Xa f0 B m cb from BoxAt.next HA8.out hb (Nat.le_refl _))
    have HB9 := Lib.hid (HB8.out.trans (hb.mono HB8.out.size))
    obtain ⟨v0, v1, v2, -, -, -⟩ := (show ItAt w9 (w.heap.size + 1) (x0, x1, x2) from BoxAt.next HX8.out hb (Nat.le_refl _)).cells
    obtain ⟨y0, y1, y2, -, -, -⟩ := (show ItAt w9 Xc (x0, x1, x2) from BoxAt.next HY8.out hb (Nat.le_refl _)).cells
    obtain ⟨a0, a1, -, -⟩ := HA9.out.cells
    simp only at v0 v1 v2 y0 y1 y2
    clear hb KS u0 u1 c0 c1 HF8 HX8 HA8 HC8 HY8
    go_wp2_with fail
    refine (KG2.out _ HB9.out).mono ?_
    rintro e w10 ⟨rfl, hb⟩
    obtain ⟨u0, u1, -, -⟩ := (show FoAt w10 w.heap.size f0 A q c from BoxAt.next HF9.out hb (Nat.le_refl _)).cells
    obtain ⟨b0, b1, -, -⟩ := (show FoAt w10 Xa f0 B m cb from BoxAt.next HA9.out hb (Nat.le_refl _)).cells
    have HB10 := Lib.hid (HB4.out.trans ((HB9.out.trans (hb.mono HB9.out.size)).mono HB4.out.size))
    have hq64 : (q : Int) ≤ 64 := by have := HN64.out; omega
    clear hb KG2 v0 v1 v2 y0 y1 y2 a0 a1
    go_wp2_with fail
    go_ret
    exact ⟨rfl, HB10.out⟩
end Go.Proofs.YtmoifjaaencjbaaDoor
