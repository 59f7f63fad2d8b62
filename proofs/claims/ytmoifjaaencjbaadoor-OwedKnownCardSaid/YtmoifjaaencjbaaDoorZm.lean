/- Forms: Put, of a new item. -/
import Derived.Test.YtmoifjaaencjbaaDoorZmb
namespace Go.Proofs.YtmoifjaaencjbaaDoor
open Go.RowKit
attribute [local go_sem ↓] Go.wp_at_zero Go.wp_at_succ

set_option maxRecDepth 100000 in
set_option maxHeartbeats 16000000 in
theorem put_new (f0 x0 x1 x2 : Int) (A : Option Addr) (n c : Nat) (l : List RI) (w : World) (Q : Ending → World → Prop) (hn : l.length = n) (hl : n ≤ c) (hm : c ≤ maxLen) (hz : A = none → c = 0) (hr : TRow w A l) (hG : goodV f0 l = true) (hH : hasL x0 l = false)
    (hP : (goodV f0 (insA l (x0, x1, x2)) = false → ∀ e w', FRet 0 [] 1 w e w' → Q e w') ∧ (goodV f0 (insA l (x0, x1, x2)) = true → ∀ e w', FRet f0 (insA l (x0, x1, x2)) 0 w e w' → Q e w')) :
    Calls Tryd.prog 8 #[.agg #[.int .i64 f0, .slice A n c], .agg #[.int .i64 x0, .int .i64 x1, .int .i64 x2]] w Q := by
  have hn64 : n ≤ 64 := by rw [← hn]; unfold goodV at hG; simp at hG; exact hG.1.1.1
  obtain ⟨W, hW⟩ : ∃ W, ((w.alloc (.cells #[.int .i64 f0, .slice A n c] 25)).alloc (.cells #[.int .i64 x0, .int .i64 x1, .int .i64 x2] 27)).alloc (.cells #[.int .i64 0, .slice none 0 0] 25) = W := ⟨_, rfl⟩
  have hb : Below w.heap.size w W := by rw [← hW]; exact (((Below.refl _ w).alloc (Nat.le_refl _) _).alloc (by simp) _).alloc (by simp; omega) _
  have hf : FoAt W w.heap.size f0 A n c := by
    rw [← hW]
    exact BoxAt.next (heap_alloc2_old w _ _) ((Below.refl _ _).alloc (Nat.le_refl _) _) (Nat.le_refl _)
  have hx : ItAt W (w.heap.size + 1) (x0, x1, x2) := by
    rw [← hW]
    exact BoxAt.next (show ItAt _ (w.heap.size + 1) (x0, x1, x2) from heap_alloc2_new w _ _) ((Below.refl _ _).alloc (Nat.le_refl _) _) (Nat.le_refl _)
  have hz0 : FoAt W (w.heap.size + 1 + 1) 0 none 0 0 := by
    rw [← hW]
    have := heap_alloc_new ((w.alloc (.cells #[.int .i64 f0, .slice A n c] 25)).alloc (.cells #[.int .i64 x0, .int .i64 x1, .int .i64 x2] 27)) (.cells #[.int .i64 0, .slice none 0 0] 25)
    rwa [World.size_alloc, World.size_alloc] at this
  have KG : Hid (∀ W, Below w.heap.size w W → Calls Tryd.prog 10 #[.agg #[.int .i64 f0, .slice A n c]] W (Ret10 (.bool (goodV f0 l)) W)) := Lib.hid (fun W hb => good_c f0 A n c l W hn (by omega) (hr.below hb (Nat.le_refl _)))
  have KH : Hid (∀ W, Below w.heap.size w W → Calls Tryd.prog 17 #[.agg #[.int .i64 f0, .slice A n c], .int .i64 x0] W (Ret10 (.bool (hasL x0 l)) W)) := Lib.hid (fun W hb => has_c f0 A n c x0 l W hn (by omega) (hr.below hb (Nat.le_refl _)))
  have KI : Hid (∀ W, Below w.heap.size w W → ItAt W (w.heap.size + 1) (x0, x1, x2) → Calls Tryd.prog 18 #[.slice A n c, .func (.func 19) #[] #[.pointer (some ⟨w.heap.size + 1, 0, none⟩)]] W (Ret10 (.int .i64 (idxL (idOver x0) l 0)) W)) := Lib.hid (fun W hb hi => indexOver_c A n c (w.heap.size + 1) x0 l W hn (by omega) (hr.below hb (Nat.le_refl _)) hi.cells.1)
  rw [hG] at KG
  rw [hH] at KH
  have HW := Lib.hid hW
  have HB := Lib.hid hb
  have HF := Lib.hid hf
  have HX := Lib.hid hx
  have HZ := Lib.hid hz0
  have HR := Lib.hid hr
  have HN := Lib.hid hn
  have HI := Lib.hid (insK_spec x0 l)
  have HLM := Lib.hid (And.intro hl (And.intro hm hz))
  have HP := Lib.hid hP
  obtain ⟨u0, u1, -, -⟩ := hf.cells
  clear hW hb hf hx hz0 hr hn hG hH hl hm hz hP
  go_enter Tryd.func8, Tryd.ntmps8
  go_wp2_with fail
  rw [HW.out]
  refine (KG.out _ HB.out).mono ?_
  rintro e w1 ⟨rfl, hb1⟩
  have HF1 := Lib.hid (show FoAt w1 w.heap.size f0 A n c from BoxAt.next HF.out hb1 (Nat.le_refl _))
  have HX1 := Lib.hid (show ItAt w1 (w.heap.size + 1) (x0, x1, x2) from BoxAt.next HX.out hb1 (Nat.le_refl _))
  have HZ1 := Lib.hid (show FoAt w1 (w.heap.size + 1 + 1) 0 none 0 0 from BoxAt.next HZ.out hb1 (Nat.le_refl _))
  have HB1 := Lib.hid (HB.out.trans (hb1.mono HB.out.size))
  clear hb1 HB HF HX HZ HW KG u0 u1
  obtain ⟨u0, u1, -, -⟩ := HF1.out.cells
  obtain ⟨v0, v1, v2, -, -, -⟩ := HX1.out.cells
  simp only at v0 v1 v2
  go_wp2_with fail
  refine (KH.out _ HB1.out).mono ?_
  rintro e w2 ⟨rfl, hb1⟩
  have HF2 := Lib.hid (show FoAt w2 w.heap.size f0 A n c from BoxAt.next HF1.out hb1 (Nat.le_refl _))
  have HX2 := Lib.hid (show ItAt w2 (w.heap.size + 1) (x0, x1, x2) from BoxAt.next HX1.out hb1 (Nat.le_refl _))
  have HZ2 := Lib.hid (show FoAt w2 (w.heap.size + 1 + 1) 0 none 0 0 from BoxAt.next HZ1.out hb1 (Nat.le_refl _))
  have HB2 := Lib.hid (HB1.out.trans (hb1.mono HB1.out.size))
  clear hb1 HB1 HF1 HX1 HZ1 KH u0 u1 v0 v1 v2
  obtain ⟨u0, u1, -, -⟩ := HF2.out.cells
  go_wp2_with fail
  refine (KI.out _ HB2.out HX2.out).mono ?_
  rintro e w3 ⟨rfl, hb1⟩
  have HF3 := Lib.hid (show FoAt w3 w.heap.size f0 A n c from BoxAt.next HF2.out hb1 (Nat.le_refl _))
  have HX3 := Lib.hid (show ItAt w3 (w.heap.size + 1) (x0, x1, x2) from BoxAt.next HX2.out hb1 (Nat.le_refl _))
  have HZ3 := Lib.hid (show FoAt w3 (w.heap.size + 1 + 1) 0 none 0 0 from BoxAt.next HZ2.out hb1 (Nat.le_refl _))
  have HB3 := Lib.hid (HB2.out.trans (hb1.mono HB2.out.size))
  clear hb1 HB2 HF2 HX2 HZ2 KI u0 u1
  obtain ⟨u0, u1, -, -⟩ := HF3.out.cells
  obtain ⟨v0, v1, v2, -, -, -⟩ := HX3.out.cells
  simp only at v0 v1 v2
  rcases HI.out with ⟨e1, e2⟩ | ⟨k, e1, e2, e3⟩
  · rw [e1]
    rw [HN.out] at e2
    have HE := Lib.hid e2
    clear e1 e2 HI
    cases A with
    | none =>
      obtain rfl : n = 0 := by rw [← HN.out, HR.out.none_nil]; rfl
      obtain rfl := HLM.out.2.2 rfl
      go_upto_region 8 with fail
      have HSA : Hid (∀ W', Below w3.heap.size w3 W' → W'.cell? ⟨w.heap.size, 0, none⟩ = some (.int .i64 f0) ∧ W'.cell? ⟨w.heap.size, 1, none⟩ = some (.slice none 0 0) ∧ W'.cell? ⟨w.heap.size + 1, 0, none⟩ = some (.int .i64 x0) ∧ W'.cell? ⟨w.heap.size + 1, 1, none⟩ = some (.int .i64 x1) ∧ W'.cell? ⟨w.heap.size + 1, 2, none⟩ = some (.int .i64 x2)) := Lib.hid (fun W' hb => by
        obtain ⟨a0, a1, -, -⟩ := (show FoAt W' w.heap.size f0 none 0 0 from BoxAt.next HF3.out hb (Nat.le_refl _)).cells
        obtain ⟨b0, b1, b2, -, -, -⟩ := (show ItAt W' (w.heap.size + 1) (x0, x1, x2) from BoxAt.next HX3.out hb (Nat.le_refl _)).cells
        exact ⟨a0, a1, b0, b1, b2⟩)
      obtain ⟨L, hL⟩ : ∃ L, l.take 0 ++ [(x0, x1, x2)] ++ l.drop 0 = L := ⟨_, rfl⟩
      obtain ⟨NQ, hNQ⟩ : ∃ NQ, L.length = NQ := ⟨_, rfl⟩
      have hNQ2 : NQ ≤ 1000 := by
        rw [← hNQ, ← hL]
        have := HN.out
        simp
        omega
      have HNQ := Lib.hid hNQ
      have HIL : Hid (insA l (x0, x1, x2) = L) := Lib.hid (by unfold insA; rw [HE.out, hL])
      have hr3 := HR.out.below HB3.out (Nat.le_refl _)
      have KC : Hid (∀ Wq sb ib, Below w3.heap.size w3 Wq → BoxAt Wq sb 23 #[.slice none 0 0, .slice (some ⟨ib, 0, none⟩) 1 1, .slice none 0 0] → ItAt Wq ib (x0, x1, x2) → Calls Tryd.prog 20 #[.slice (some ⟨sb, 0, none⟩) 3 3] Wq (OwnRet Wq.heap.size L Wq)) := Lib.hid (fun Wq sb ib hb hs hi => by
        rw [← hL]
        exact joined_c (k := 0) HN.out (by omega) hr3 (fun _ => rfl) (Nat.le_refl _) rfl (by rw [HR.out.none_nil]; exact TRow.nil) (fun _ => rfl) hb hs hi)
      have h34 := BoxAt.lt HZ3.out
      have hsz3 := HB3.out.size
      have hwf := BoxAt.lt HF3.out
      have qA := three_new w3 #[.int .i64 0, .slice none 0 0] #[.int .i64 x0, .int .i64 x1, .int .i64 x2] #[.slice none 0 0, .slice (some ⟨w3.heap.size + 1, 0, none⟩) 1 1, .slice none 0 0] 25 27 23
      have kA := Lib.hid (KC.out _ _ _ qA.2.2.2 qA.2.2.1 qA.2.1)
      have qB := three_new w3 #[.int .i64 x0, .int .i64 x1, .int .i64 x2] #[.int .i64 0, .slice none 0 0] #[.slice none 0 0, .slice (some ⟨w3.heap.size, 0, none⟩) 1 1, .slice none 0 0] 27 25 23
      have kB := Lib.hid (KC.out _ _ _ qB.2.2.2 qB.2.2.1 qB.1)
      have qC := three_new w3 #[.int .i64 x0, .int .i64 x1, .int .i64 x2] #[.slice none 0 0, .slice (some ⟨w3.heap.size, 0, none⟩) 1 1, .slice none 0 0] #[.int .i64 0, .slice none 0 0] 27 23 25
      have kC := Lib.hid (KC.out _ _ _ qC.2.2.2 qC.2.1 qC.1)
      have qD := two_new w3 #[.int .i64 x0, .int .i64 x1, .int .i64 x2] #[.slice none 0 0, .slice (some ⟨w3.heap.size, 0, none⟩) 1 1, .slice none 0 0] 27 23
      have kD := Lib.hid (KC.out _ _ _ qD.2.2 qD.2.1 qD.1)
      have mA := Lib.hid (fun wq A cq ho hq => made_set (w := w) (wq := wq) (f0 := f0) (L := L) (A := A) (n := NQ) (cap := cq) (b4 := w.heap.size + 1 + 1) hNQ ho hq (show FoAt _ (w3.heap.size) 0 none 0 0 from qA.1) (HB3.out.trans (qA.2.2.2.mono hsz3)) (BoxAt.next HZ3.out qA.2.2.2 (Nat.le_refl _)) (by omega) (by omega))
      have fA := Lib.hid qA.2.2.2
      have bA := Lib.hid (show FoAt _ (w3.heap.size) 0 none 0 0 from qA.1)
      have mB := Lib.hid (fun wq A cq ho hq => made_set (w := w) (wq := wq) (f0 := f0) (L := L) (A := A) (n := NQ) (cap := cq) (b4 := w.heap.size + 1 + 1) hNQ ho hq (show FoAt _ (w3.heap.size + 1) 0 none 0 0 from qB.2.1) (HB3.out.trans (qB.2.2.2.mono hsz3)) (BoxAt.next HZ3.out qB.2.2.2 (Nat.le_refl _)) (by omega) (by omega))
      have fB := Lib.hid qB.2.2.2
      have bB := Lib.hid (show FoAt _ (w3.heap.size + 1) 0 none 0 0 from qB.2.1)
      have mC := Lib.hid (fun wq A cq ho hq => made_set (w := w) (wq := wq) (f0 := f0) (L := L) (A := A) (n := NQ) (cap := cq) (b4 := w.heap.size + 1 + 1) hNQ ho hq (show FoAt _ (w3.heap.size + 1 + 1) 0 none 0 0 from qC.2.2.1) (HB3.out.trans (qC.2.2.2.mono hsz3)) (BoxAt.next HZ3.out qC.2.2.2 (Nat.le_refl _)) (by omega) (by omega))
      have fC := Lib.hid qC.2.2.2
      have bC := Lib.hid (show FoAt _ (w3.heap.size + 1 + 1) 0 none 0 0 from qC.2.2.1)
      have mD := Lib.hid (fun wq A cq ho hq => made_new (w := w) (wq := wq) (f0 := f0) (L := L) (A := A) (n := NQ) (cap := cq) (b4 := w.heap.size + 1 + 1) hNQ ho hq (HB3.out.trans (qD.2.2.mono hsz3)) (BoxAt.next HZ3.out qD.2.2 (Nat.le_refl _)))
      have fD := Lib.hid qD.2.2
      have hSA := HSA.out _ fA.out
      have hSB := HSA.out _ fB.out
      have hSC := HSA.out _ fC.out
      have hSD := HSA.out _ fD.out
      have hS1 := HSA.out _ ((Below.refl w3.heap.size w3).alloc (Nat.le_refl _) (.cells #[.int .i64 x0, .int .i64 x1, .int .i64 x2] 27)).drew
      have hS2 := HSA.out _ ((Below.refl w3.heap.size w3).alloc (Nat.le_refl _) (.cells #[.int .i64 0, .slice none 0 0] 25)).drew
      have hS3 := HSA.out _ (((Below.refl w3.heap.size w3).alloc (Nat.le_refl _) (.cells #[.int .i64 x0, .int .i64 x1, .int .i64 x2] 27)).alloc (by simp) (.cells #[.int .i64 0, .slice none 0 0] 25)).drew
      have hS4 := HSA.out _ (((Below.refl w3.heap.size w3).alloc (Nat.le_refl _) (.cells #[.int .i64 0, .slice none 0 0] 25)).alloc (by simp) (.cells #[.int .i64 x0, .int .i64 x1, .int .i64 x2] 27)).drew
      have hS0 := HSA.out _ (Below.refl w3.heap.size w3).drew
      rw [HIL.out] at HP
      clear qA qB qC qD KC hr3 hL hNQ h34 hsz3 hwf HIL HE u0 u1 v0 v1 v2
      go_cut [7] (fun v wx => Hid (Made w f0 L (w.heap.size + 1 + 1) v wx))
      case first => as_aux_lemma =>
        go_region_held3 (fun w' => w'.cell? ⟨w.heap.size, 0, none⟩ = some (.int .i64 f0) ∧ w'.cell? ⟨w.heap.size, 1, none⟩ = some (.slice none 0 0) ∧ w'.cell? ⟨w.heap.size + 1, 0, none⟩ = some (.int .i64 x0) ∧ w'.cell? ⟨w.heap.size + 1, 1, none⟩ = some (.int .i64 x1) ∧ w'.cell? ⟨w.heap.size + 1, 2, none⟩ = some (.int .i64 x2)) (first | with_reducible exact hS0 | with_reducible exact hSq | with_reducible exact hSA | with_reducible exact hSB | with_reducible exact hSC | with_reducible exact hSD | with_reducible exact hS1 | with_reducible exact hS2 | with_reducible exact hS3 | with_reducible exact hS4 | with_reducible exact hSq2 | with_reducible exact hSq3 | with_reducible exact hSq4 | go_keep)
          (first
            | (go_at_call 20; (with_reducible refine (kA.out).mono ?_); rintro e wq ⟨vq, rfl, ho, hq⟩; obtain ⟨Aq, cq, hv, -, -, -, -⟩ := ho.row; rw [HNQ.out] at hv; subst hv; have HM1 := Lib.hid (mA.out wq Aq cq ho hq); obtain ⟨y0, y1, y2, y3⟩ := (show FoAt wq (w3.heap.size) 0 none 0 0 from BoxAt.next bA.out hq (Nat.le_refl _)).cells; have hbq := fA.out.trans (hq.mono fA.out.size); have hSq := HSA.out wq hbq; have hSq4 := HSA.out _ (Below.set2 hbq (show w3.heap.size ≤ w3.heap.size by omega) (.int .i64 f0) (.slice Aq NQ cq)); clear ho hq hbq)
            | (go_at_call 20; (with_reducible refine (kB.out).mono ?_); rintro e wq ⟨vq, rfl, ho, hq⟩; obtain ⟨Aq, cq, hv, -, -, -, -⟩ := ho.row; rw [HNQ.out] at hv; subst hv; have HM1 := Lib.hid (mB.out wq Aq cq ho hq); obtain ⟨y0, y1, y2, y3⟩ := (show FoAt wq (w3.heap.size + 1) 0 none 0 0 from BoxAt.next bB.out hq (Nat.le_refl _)).cells; have hbq := fB.out.trans (hq.mono fB.out.size); have hSq := HSA.out wq hbq; have hSq4 := HSA.out _ (Below.set2 hbq (show w3.heap.size ≤ w3.heap.size + 1 by omega) (.int .i64 f0) (.slice Aq NQ cq)); clear ho hq hbq)
            | (go_at_call 20; (with_reducible refine (kC.out).mono ?_); rintro e wq ⟨vq, rfl, ho, hq⟩; obtain ⟨Aq, cq, hv, -, -, -, -⟩ := ho.row; rw [HNQ.out] at hv; subst hv; have HM1 := Lib.hid (mC.out wq Aq cq ho hq); obtain ⟨y0, y1, y2, y3⟩ := (show FoAt wq (w3.heap.size + 1 + 1) 0 none 0 0 from BoxAt.next bC.out hq (Nat.le_refl _)).cells; have hbq := fC.out.trans (hq.mono fC.out.size); have hSq := HSA.out wq hbq; have hSq4 := HSA.out _ (Below.set2 hbq (show w3.heap.size ≤ w3.heap.size + 1 + 1 by omega) (.int .i64 f0) (.slice Aq NQ cq)); clear ho hq hbq)
            | (go_at_call 20; (with_reducible refine (kD.out).mono ?_); rintro e wq ⟨vq, rfl, ho, hq⟩; obtain ⟨Aq, cq, hv, -, -, -, -⟩ := ho.row; rw [HNQ.out] at hv; subst hv; have HM1 := Lib.hid (mD.out wq Aq cq ho hq); have hbq := fD.out.trans (hq.mono fD.out.size); have hSq := HSA.out wq hbq; have hSq2 := HSA.out _ (hbq.alloc hbq.size (.cells #[.int .i64 0, .slice none 0 0] 25)); have hSq3 := HSA.out _ (hbq.alloc hbq.size (.cells #[.int .i64 f0, .slice Aq NQ cq] 25)); clear ho hq hbq))
        all_goals
          go_wp2_with fail
          go_meet
          exact HM1
      case rest =>
        obtain ⟨X, Aq, cq, m, base, hm, rfl, hfx, ho, hb4, hb, h4, hne, hXl, -, -⟩ := hcut.out
        have hmm : m ≤ 1000 := by have := HNQ.out; omega
        obtain ⟨A9, c9, hv9, -, -, hr9, -⟩ := ho.row
        rw [hm] at hv9
        injection hv9 with hv91 hv92 hv93
        subst hv91 hv93
        have KG2 := Lib.hid (good_c f0 Aq m cq L wc hm (by omega) hr9)
        obtain ⟨t0, t1, -, -⟩ := FoAt.cells hfx
        have HFX := Lib.hid hfx
        have HO := Lib.hid ho
        have H4 := Lib.hid h4
        have HB := Lib.hid hb
        have HML := Lib.hid hm
        have hle := hb.size
        clear hfx ho h4 hb hm hcut hr9 hNQ2 HNQ HSA kA kB kC kD mA mB mC mD fA fB fC fD bA bB bC hSA hSB hSC hSD hS0 hS1 hS2 hS3 hS4 HZ3 HX3 HF3 HB3
        generalize goodV f0 L = G2 at *
        go_wp2_with fail
        refine KG2.out.mono ?_
        rintro e w5 ⟨rfl, hb5⟩
        have HO5 := Lib.hid (HO.out.below hb5 (Nat.le_refl _))
        have H45 := Lib.hid (show FoAt w5 (w.heap.size + 1 + 1) 0 none 0 0 from BoxAt.next H4.out hb5 (Nat.le_refl _))
        obtain ⟨t0, t1, -, -⟩ := (show FoAt w5 X f0 Aq m cq from BoxAt.next HFX.out hb5 (Nat.le_refl _)).cells
        obtain ⟨y0, y1, y2, y3⟩ := H45.out.cells
        have HB5 := Lib.hid (HB.out.trans (hb5.mono HB.out.size))
        clear hb5 KG2 HFX HO H4 HB
        cases G2
        · have HQ := Lib.hid (HP.out.1 rfl)
          clear HP
          go_wp2_with fail
          refine bodyPost_ret (res_box rfl _ (w.heap.size + 1 + 1) #[.int .i64 0, .slice none 0 0] _ _ rfl rfl (H45.out.set 0 none 0 0) Tryd.underlying25 rfl (by kernel_rfl)) rfl ?_
          exact HQ.out _ _ (FRet.fail (Below.set2 HB5.out (by omega) _ _))
        · have HQ := Lib.hid (HP.out.2 rfl)
          clear HP
          go_wp2_with fail
          refine bodyPost_ret (res_box rfl _ (w.heap.size + 1 + 1) #[.int .i64 f0, .slice Aq m cq] _ _ rfl rfl (H45.out.set f0 Aq m cq) Tryd.underlying25 rfl (by kernel_rfl)) rfl ?_
          have ho6 := (HO5.out.setCell (a := ⟨w.heap.size + 1 + 1, 0, none⟩) hb4 (.int .i64 f0)).setCell (a := ⟨w.heap.size + 1 + 1, 1, none⟩) hb4 (.slice Aq m cq)
          obtain ⟨A9, c9, hv9, hl9, hm9, hr9, hz9⟩ := ho6.row
          rw [HML.out] at hv9 hl9
          injection hv9 with hv91 hv92 hv93
          subst hv91 hv93
          exact HQ.out _ _ ⟨Aq, cq, m, HML.out, rfl, hr9, hz9, hl9, hm9, Below.set2 HB5.out (by omega) _ _⟩
    | some ad =>
      by_cases hcn : n = c
      · subst hcn
        have hcm : n ≤ 9223372036854775807 := HLM.out.2.1
        have i1 : (0 : Int) ≤ (n : Int) := by omega
        go_upto_region 8 with fail
        have HSA : Hid (∀ W', Below w3.heap.size w3 W' → W'.cell? ⟨w.heap.size, 0, none⟩ = some (.int .i64 f0) ∧ W'.cell? ⟨w.heap.size, 1, none⟩ = some (.slice (some ad) n n) ∧ W'.cell? ⟨w.heap.size + 1, 0, none⟩ = some (.int .i64 x0) ∧ W'.cell? ⟨w.heap.size + 1, 1, none⟩ = some (.int .i64 x1) ∧ W'.cell? ⟨w.heap.size + 1, 2, none⟩ = some (.int .i64 x2)) := Lib.hid (fun W' hb => by
          obtain ⟨a0, a1, -, -⟩ := (show FoAt W' w.heap.size f0 (some ad) n n from BoxAt.next HF3.out hb (Nat.le_refl _)).cells
          obtain ⟨b0, b1, b2, -, -, -⟩ := (show ItAt W' (w.heap.size + 1) (x0, x1, x2) from BoxAt.next HX3.out hb (Nat.le_refl _)).cells
          exact ⟨a0, a1, b0, b1, b2⟩)
        obtain ⟨L, hL⟩ : ∃ L, l.take n ++ [(x0, x1, x2)] ++ l.drop n = L := ⟨_, rfl⟩
        obtain ⟨NQ, hNQ⟩ : ∃ NQ, L.length = NQ := ⟨_, rfl⟩
        have hNQ2 : NQ ≤ 1000 := by
          rw [← hNQ, ← hL]
          have := HN.out
          simp
          omega
        have HNQ := Lib.hid hNQ
        have HIL : Hid (insA l (x0, x1, x2) = L) := Lib.hid (by unfold insA; rw [HE.out, hL])
        have hr3 := HR.out.below HB3.out (Nat.le_refl _)
        have KC : Hid (∀ Wq sb ib, Below w3.heap.size w3 Wq → BoxAt Wq sb 23 #[.slice (some ad) n n, .slice (some ⟨ib, 0, none⟩) 1 1, .slice (some ad) 0 0] → ItAt Wq ib (x0, x1, x2) → Calls Tryd.prog 20 #[.slice (some ⟨sb, 0, none⟩) 3 3] Wq (OwnRet Wq.heap.size L Wq)) := Lib.hid (fun Wq sb ib hb hs hi => by
          rw [← hL]
          exact joined_c (k := n) HN.out (by omega) hr3 (fun e => by cases e) (Nat.le_refl _) (Nat.sub_self _) (by rw [List.drop_of_length_le (by rw [HN.out]; exact Nat.le_refl _)]; exact TRow.nil) (fun _ => rfl) hb hs hi)
        have h34 := BoxAt.lt HZ3.out
        have hsz3 := HB3.out.size
        have hwf := BoxAt.lt HF3.out
        have qA := three_new w3 #[.int .i64 0, .slice none 0 0] #[.int .i64 x0, .int .i64 x1, .int .i64 x2] #[.slice (some ad) n n, .slice (some ⟨w3.heap.size + 1, 0, none⟩) 1 1, .slice (some ad) 0 0] 25 27 23
        have kA := Lib.hid (KC.out _ _ _ qA.2.2.2 qA.2.2.1 qA.2.1)
        have qB := three_new w3 #[.int .i64 x0, .int .i64 x1, .int .i64 x2] #[.int .i64 0, .slice none 0 0] #[.slice (some ad) n n, .slice (some ⟨w3.heap.size, 0, none⟩) 1 1, .slice (some ad) 0 0] 27 25 23
        have kB := Lib.hid (KC.out _ _ _ qB.2.2.2 qB.2.2.1 qB.1)
        have qC := three_new w3 #[.int .i64 x0, .int .i64 x1, .int .i64 x2] #[.slice (some ad) n n, .slice (some ⟨w3.heap.size, 0, none⟩) 1 1, .slice (some ad) 0 0] #[.int .i64 0, .slice none 0 0] 27 23 25
        have kC := Lib.hid (KC.out _ _ _ qC.2.2.2 qC.2.1 qC.1)
        have qD := two_new w3 #[.int .i64 x0, .int .i64 x1, .int .i64 x2] #[.slice (some ad) n n, .slice (some ⟨w3.heap.size, 0, none⟩) 1 1, .slice (some ad) 0 0] 27 23
        have kD := Lib.hid (KC.out _ _ _ qD.2.2 qD.2.1 qD.1)
        have mA := Lib.hid (fun wq A cq ho hq => made_set (w := w) (wq := wq) (f0 := f0) (L := L) (A := A) (n := NQ) (cap := cq) (b4 := w.heap.size + 1 + 1) hNQ ho hq (show FoAt _ (w3.heap.size) 0 none 0 0 from qA.1) (HB3.out.trans (qA.2.2.2.mono hsz3)) (BoxAt.next HZ3.out qA.2.2.2 (Nat.le_refl _)) (by omega) (by omega))
        have fA := Lib.hid qA.2.2.2
        have bA := Lib.hid (show FoAt _ (w3.heap.size) 0 none 0 0 from qA.1)
        have mB := Lib.hid (fun wq A cq ho hq => made_set (w := w) (wq := wq) (f0 := f0) (L := L) (A := A) (n := NQ) (cap := cq) (b4 := w.heap.size + 1 + 1) hNQ ho hq (show FoAt _ (w3.heap.size + 1) 0 none 0 0 from qB.2.1) (HB3.out.trans (qB.2.2.2.mono hsz3)) (BoxAt.next HZ3.out qB.2.2.2 (Nat.le_refl _)) (by omega) (by omega))
        have fB := Lib.hid qB.2.2.2
        have bB := Lib.hid (show FoAt _ (w3.heap.size + 1) 0 none 0 0 from qB.2.1)
        have mC := Lib.hid (fun wq A cq ho hq => made_set (w := w) (wq := wq) (f0 := f0) (L := L) (A := A) (n := NQ) (cap := cq) (b4 := w.heap.size + 1 + 1) hNQ ho hq (show FoAt _ (w3.heap.size + 1 + 1) 0 none 0 0 from qC.2.2.1) (HB3.out.trans (qC.2.2.2.mono hsz3)) (BoxAt.next HZ3.out qC.2.2.2 (Nat.le_refl _)) (by omega) (by omega))
        have fC := Lib.hid qC.2.2.2
        have bC := Lib.hid (show FoAt _ (w3.heap.size + 1 + 1) 0 none 0 0 from qC.2.2.1)
        have mD := Lib.hid (fun wq A cq ho hq => made_new (w := w) (wq := wq) (f0 := f0) (L := L) (A := A) (n := NQ) (cap := cq) (b4 := w.heap.size + 1 + 1) hNQ ho hq (HB3.out.trans (qD.2.2.mono hsz3)) (BoxAt.next HZ3.out qD.2.2 (Nat.le_refl _)))
        have fD := Lib.hid qD.2.2
        have hSA := HSA.out _ fA.out
        have hSB := HSA.out _ fB.out
        have hSC := HSA.out _ fC.out
        have hSD := HSA.out _ fD.out
        have hS1 := HSA.out _ ((Below.refl w3.heap.size w3).alloc (Nat.le_refl _) (.cells #[.int .i64 x0, .int .i64 x1, .int .i64 x2] 27)).drew
        have hS2 := HSA.out _ ((Below.refl w3.heap.size w3).alloc (Nat.le_refl _) (.cells #[.int .i64 0, .slice none 0 0] 25)).drew
        have hS3 := HSA.out _ (((Below.refl w3.heap.size w3).alloc (Nat.le_refl _) (.cells #[.int .i64 x0, .int .i64 x1, .int .i64 x2] 27)).alloc (by simp) (.cells #[.int .i64 0, .slice none 0 0] 25)).drew
        have hS4 := HSA.out _ (((Below.refl w3.heap.size w3).alloc (Nat.le_refl _) (.cells #[.int .i64 0, .slice none 0 0] 25)).alloc (by simp) (.cells #[.int .i64 x0, .int .i64 x1, .int .i64 x2] 27)).drew
        have hS0 := HSA.out _ (Below.refl w3.heap.size w3).drew
        rw [HIL.out] at HP
        clear qA qB qC qD KC hr3 hL hNQ h34 hsz3 hwf HIL HE u0 u1 v0 v1 v2
        go_cut [7] (fun v wx => Hid (Made w f0 L (w.heap.size + 1 + 1) v wx))
        case first => as_aux_lemma =>
          go_region_held3 (fun w' => w'.cell? ⟨w.heap.size, 0, none⟩ = some (.int .i64 f0) ∧ w'.cell? ⟨w.heap.size, 1, none⟩ = some (.slice (some ad) n n) ∧ w'.cell? ⟨w.heap.size + 1, 0, none⟩ = some (.int .i64 x0) ∧ w'.cell? ⟨w.heap.size + 1, 1, none⟩ = some (.int .i64 x1) ∧ w'.cell? ⟨w.heap.size + 1, 2, none⟩ = some (.int .i64 x2)) (first | with_reducible exact hS0 | with_reducible exact hSq | with_reducible exact hSA | with_reducible exact hSB | with_reducible exact hSC | with_reducible exact hSD | with_reducible exact hS1 | with_reducible exact hS2 | with_reducible exact hS3 | with_reducible exact hS4 | with_reducible exact hSq2 | with_reducible exact hSq3 | with_reducible exact hSq4 | go_keep)
            (first
              | (go_at_call 20; (with_reducible refine (kA.out).mono ?_); rintro e wq ⟨vq, rfl, ho, hq⟩; obtain ⟨Aq, cq, hv, -, -, -, -⟩ := ho.row; rw [HNQ.out] at hv; subst hv; have HM1 := Lib.hid (mA.out wq Aq cq ho hq); obtain ⟨y0, y1, y2, y3⟩ := (show FoAt wq (w3.heap.size) 0 none 0 0 from BoxAt.next bA.out hq (Nat.le_refl _)).cells; have hbq := fA.out.trans (hq.mono fA.out.size); have hSq := HSA.out wq hbq; have hSq4 := HSA.out _ (Below.set2 hbq (show w3.heap.size ≤ w3.heap.size by omega) (.int .i64 f0) (.slice Aq NQ cq)); clear ho hq hbq)
              | (go_at_call 20; (with_reducible refine (kB.out).mono ?_); rintro e wq ⟨vq, rfl, ho, hq⟩; obtain ⟨Aq, cq, hv, -, -, -, -⟩ := ho.row; rw [HNQ.out] at hv; subst hv; have HM1 := Lib.hid (mB.out wq Aq cq ho hq); obtain ⟨y0, y1, y2, y3⟩ := (show FoAt wq (w3.heap.size + 1) 0 none 0 0 from BoxAt.next bB.out hq (Nat.le_refl _)).cells; have hbq := fB.out.trans (hq.mono fB.out.size); have hSq := HSA.out wq hbq; have hSq4 := HSA.out _ (Below.set2 hbq (show w3.heap.size ≤ w3.heap.size + 1 by omega) (.int .i64 f0) (.slice Aq NQ cq)); clear ho hq hbq)
              | (go_at_call 20; (with_reducible refine (kC.out).mono ?_); rintro e wq ⟨vq, rfl, ho, hq⟩; obtain ⟨Aq, cq, hv, -, -, -, -⟩ := ho.row; rw [HNQ.out] at hv; subst hv; have HM1 := Lib.hid (mC.out wq Aq cq ho hq); obtain ⟨y0, y1, y2, y3⟩ := (show FoAt wq (w3.heap.size + 1 + 1) 0 none 0 0 from BoxAt.next bC.out hq (Nat.le_refl _)).cells; have hbq := fC.out.trans (hq.mono fC.out.size); have hSq := HSA.out wq hbq; have hSq4 := HSA.out _ (Below.set2 hbq (show w3.heap.size ≤ w3.heap.size + 1 + 1 by omega) (.int .i64 f0) (.slice Aq NQ cq)); clear ho hq hbq)
              | (go_at_call 20; (with_reducible refine (kD.out).mono ?_); rintro e wq ⟨vq, rfl, ho, hq⟩; obtain ⟨Aq, cq, hv, -, -, -, -⟩ := ho.row; rw [HNQ.out] at hv; subst hv; have HM1 := Lib.hid (mD.out wq Aq cq ho hq); have hbq := fD.out.trans (hq.mono fD.out.size); have hSq := HSA.out wq hbq; have hSq2 := HSA.out _ (hbq.alloc hbq.size (.cells #[.int .i64 0, .slice none 0 0] 25)); have hSq3 := HSA.out _ (hbq.alloc hbq.size (.cells #[.int .i64 f0, .slice Aq NQ cq] 25)); clear ho hq hbq))
          all_goals
            go_wp2_with fail
            go_meet
            exact HM1
        case rest =>
          obtain ⟨X, Aq, cq, m, base, hm, rfl, hfx, ho, hb4, hb, h4, hne, hXl, -, -⟩ := hcut.out
          have hmm : m ≤ 1000 := by have := HNQ.out; omega
          obtain ⟨A9, c9, hv9, -, -, hr9, -⟩ := ho.row
          rw [hm] at hv9
          injection hv9 with hv91 hv92 hv93
          subst hv91 hv93
          have KG2 := Lib.hid (good_c f0 Aq m cq L wc hm (by omega) hr9)
          obtain ⟨t0, t1, -, -⟩ := FoAt.cells hfx
          have HFX := Lib.hid hfx
          have HO := Lib.hid ho
          have H4 := Lib.hid h4
          have HB := Lib.hid hb
          have HML := Lib.hid hm
          have hle := hb.size
          clear hfx ho h4 hb hm hcut hr9 hNQ2 HNQ HSA kA kB kC kD mA mB mC mD fA fB fC fD bA bB bC hSA hSB hSC hSD hS0 hS1 hS2 hS3 hS4 HZ3 HX3 HF3 HB3
          generalize goodV f0 L = G2 at *
          go_wp2_with fail
          refine KG2.out.mono ?_
          rintro e w5 ⟨rfl, hb5⟩
          have HO5 := Lib.hid (HO.out.below hb5 (Nat.le_refl _))
          have H45 := Lib.hid (show FoAt w5 (w.heap.size + 1 + 1) 0 none 0 0 from BoxAt.next H4.out hb5 (Nat.le_refl _))
          obtain ⟨t0, t1, -, -⟩ := (show FoAt w5 X f0 Aq m cq from BoxAt.next HFX.out hb5 (Nat.le_refl _)).cells
          obtain ⟨y0, y1, y2, y3⟩ := H45.out.cells
          have HB5 := Lib.hid (HB.out.trans (hb5.mono HB.out.size))
          clear hb5 KG2 HFX HO H4 HB
          cases G2
          · have HQ := Lib.hid (HP.out.1 rfl)
            clear HP
            go_wp2_with fail
            refine bodyPost_ret (res_box rfl _ (w.heap.size + 1 + 1) #[.int .i64 0, .slice none 0 0] _ _ rfl rfl (H45.out.set 0 none 0 0) Tryd.underlying25 rfl (by kernel_rfl)) rfl ?_
            exact HQ.out _ _ (FRet.fail (Below.set2 HB5.out (by omega) _ _))
          · have HQ := Lib.hid (HP.out.2 rfl)
            clear HP
            go_wp2_with fail
            refine bodyPost_ret (res_box rfl _ (w.heap.size + 1 + 1) #[.int .i64 f0, .slice Aq m cq] _ _ rfl rfl (H45.out.set f0 Aq m cq) Tryd.underlying25 rfl (by kernel_rfl)) rfl ?_
            have ho6 := (HO5.out.setCell (a := ⟨w.heap.size + 1 + 1, 0, none⟩) hb4 (.int .i64 f0)).setCell (a := ⟨w.heap.size + 1 + 1, 1, none⟩) hb4 (.slice Aq m cq)
            obtain ⟨A9, c9, hv9, hl9, hm9, hr9, hz9⟩ := ho6.row
            rw [HML.out] at hv9 hl9
            injection hv9 with hv91 hv92 hv93
            subst hv91 hv93
            exact HQ.out _ _ ⟨Aq, cq, m, HML.out, rfl, hr9, hz9, hl9, hm9, Below.set2 HB5.out (by omega) _ _⟩
      · have hck : ¬ (c = n) := fun e => hcn e.symm
        have hlc : n ≤ c := HLM.out.1
        have hcm : c ≤ 9223372036854775807 := HLM.out.2.1
        clear hcn
        have i1 : (0 : Int) ≤ (n : Int) := by omega
        have i4 : (n : Int) ≤ (c : Int) := by omega
        go_upto_region 8 with fail
        have HSA : Hid (∀ W', Below w3.heap.size w3 W' → W'.cell? ⟨w.heap.size, 0, none⟩ = some (.int .i64 f0) ∧ W'.cell? ⟨w.heap.size, 1, none⟩ = some (.slice (some ad) n c) ∧ W'.cell? ⟨w.heap.size + 1, 0, none⟩ = some (.int .i64 x0) ∧ W'.cell? ⟨w.heap.size + 1, 1, none⟩ = some (.int .i64 x1) ∧ W'.cell? ⟨w.heap.size + 1, 2, none⟩ = some (.int .i64 x2)) := Lib.hid (fun W' hb => by
          obtain ⟨a0, a1, -, -⟩ := (show FoAt W' w.heap.size f0 (some ad) n c from BoxAt.next HF3.out hb (Nat.le_refl _)).cells
          obtain ⟨b0, b1, b2, -, -, -⟩ := (show ItAt W' (w.heap.size + 1) (x0, x1, x2) from BoxAt.next HX3.out hb (Nat.le_refl _)).cells
          exact ⟨a0, a1, b0, b1, b2⟩)
        obtain ⟨L, hL⟩ : ∃ L, l.take n ++ [(x0, x1, x2)] ++ l.drop n = L := ⟨_, rfl⟩
        obtain ⟨NQ, hNQ⟩ : ∃ NQ, L.length = NQ := ⟨_, rfl⟩
        have hNQ2 : NQ ≤ 1000 := by
          rw [← hNQ, ← hL]
          have := HN.out
          simp
          omega
        have HNQ := Lib.hid hNQ
        have HIL : Hid (insA l (x0, x1, x2) = L) := Lib.hid (by unfold insA; rw [HE.out, hL])
        have hr3 := HR.out.below HB3.out (Nat.le_refl _)
        have KC : Hid (∀ Wq sb ib, Below w3.heap.size w3 Wq → BoxAt Wq sb 23 #[.slice (some ad) n c, .slice (some ⟨ib, 0, none⟩) 1 1, .slice (some (ad.add (n * 3))) 0 (c - n)] → ItAt Wq ib (x0, x1, x2) → Calls Tryd.prog 20 #[.slice (some ⟨sb, 0, none⟩) 3 3] Wq (OwnRet Wq.heap.size L Wq)) := Lib.hid (fun Wq sb ib hb hs hi => by
          rw [← hL]
          exact joined_c (k := n) HN.out (by omega) hr3 (fun e => by cases e) (Nat.le_refl _) (Nat.sub_self _) (by rw [List.drop_of_length_le (by rw [HN.out]; exact Nat.le_refl _)]; exact TRow.nil) (fun e => by cases e) hb hs hi)
        have h34 := BoxAt.lt HZ3.out
        have hsz3 := HB3.out.size
        have hwf := BoxAt.lt HF3.out
        have qA := three_new w3 #[.int .i64 0, .slice none 0 0] #[.int .i64 x0, .int .i64 x1, .int .i64 x2] #[.slice (some ad) n c, .slice (some ⟨w3.heap.size + 1, 0, none⟩) 1 1, .slice (some (ad.add (n * 3))) 0 (c - n)] 25 27 23
        have kA := Lib.hid (KC.out _ _ _ qA.2.2.2 qA.2.2.1 qA.2.1)
        have qB := three_new w3 #[.int .i64 x0, .int .i64 x1, .int .i64 x2] #[.int .i64 0, .slice none 0 0] #[.slice (some ad) n c, .slice (some ⟨w3.heap.size, 0, none⟩) 1 1, .slice (some (ad.add (n * 3))) 0 (c - n)] 27 25 23
        have kB := Lib.hid (KC.out _ _ _ qB.2.2.2 qB.2.2.1 qB.1)
        have qC := three_new w3 #[.int .i64 x0, .int .i64 x1, .int .i64 x2] #[.slice (some ad) n c, .slice (some ⟨w3.heap.size, 0, none⟩) 1 1, .slice (some (ad.add (n * 3))) 0 (c - n)] #[.int .i64 0, .slice none 0 0] 27 23 25
        have kC := Lib.hid (KC.out _ _ _ qC.2.2.2 qC.2.1 qC.1)
        have qD := two_new w3 #[.int .i64 x0, .int .i64 x1, .int .i64 x2] #[.slice (some ad) n c, .slice (some ⟨w3.heap.size, 0, none⟩) 1 1, .slice (some (ad.add (n * 3))) 0 (c - n)] 27 23
        have kD := Lib.hid (KC.out _ _ _ qD.2.2 qD.2.1 qD.1)
        have mA := Lib.hid (fun wq A cq ho hq => made_set (w := w) (wq := wq) (f0 := f0) (L := L) (A := A) (n := NQ) (cap := cq) (b4 := w.heap.size + 1 + 1) hNQ ho hq (show FoAt _ (w3.heap.size) 0 none 0 0 from qA.1) (HB3.out.trans (qA.2.2.2.mono hsz3)) (BoxAt.next HZ3.out qA.2.2.2 (Nat.le_refl _)) (by omega) (by omega))
        have fA := Lib.hid qA.2.2.2
        have bA := Lib.hid (show FoAt _ (w3.heap.size) 0 none 0 0 from qA.1)
        have mB := Lib.hid (fun wq A cq ho hq => made_set (w := w) (wq := wq) (f0 := f0) (L := L) (A := A) (n := NQ) (cap := cq) (b4 := w.heap.size + 1 + 1) hNQ ho hq (show FoAt _ (w3.heap.size + 1) 0 none 0 0 from qB.2.1) (HB3.out.trans (qB.2.2.2.mono hsz3)) (BoxAt.next HZ3.out qB.2.2.2 (Nat.le_refl _)) (by omega) (by omega))
        have fB := Lib.hid qB.2.2.2
        have bB := Lib.hid (show FoAt _ (w3.heap.size + 1) 0 none 0 0 from qB.2.1)
        have mC := Lib.hid (fun wq A cq ho hq => made_set (w := w) (wq := wq) (f0 := f0) (L := L) (A := A) (n := NQ) (cap := cq) (b4 := w.heap.size + 1 + 1) hNQ ho hq (show FoAt _ (w3.heap.size + 1 + 1) 0 none 0 0 from qC.2.2.1) (HB3.out.trans (qC.2.2.2.mono hsz3)) (BoxAt.next HZ3.out qC.2.2.2 (Nat.le_refl _)) (by omega) (by omega))
        have fC := Lib.hid qC.2.2.2
        have bC := Lib.hid (show FoAt _ (w3.heap.size + 1 + 1) 0 none 0 0 from qC.2.2.1)
        have mD := Lib.hid (fun wq A cq ho hq => made_new (w := w) (wq := wq) (f0 := f0) (L := L) (A := A) (n := NQ) (cap := cq) (b4 := w.heap.size + 1 + 1) hNQ ho hq (HB3.out.trans (qD.2.2.mono hsz3)) (BoxAt.next HZ3.out qD.2.2 (Nat.le_refl _)))
        have fD := Lib.hid qD.2.2
        have hSA := HSA.out _ fA.out
        have hSB := HSA.out _ fB.out
        have hSC := HSA.out _ fC.out
        have hSD := HSA.out _ fD.out
        have hS1 := HSA.out _ ((Below.refl w3.heap.size w3).alloc (Nat.le_refl _) (.cells #[.int .i64 x0, .int .i64 x1, .int .i64 x2] 27)).drew
        have hS2 := HSA.out _ ((Below.refl w3.heap.size w3).alloc (Nat.le_refl _) (.cells #[.int .i64 0, .slice none 0 0] 25)).drew
        have hS3 := HSA.out _ (((Below.refl w3.heap.size w3).alloc (Nat.le_refl _) (.cells #[.int .i64 x0, .int .i64 x1, .int .i64 x2] 27)).alloc (by simp) (.cells #[.int .i64 0, .slice none 0 0] 25)).drew
        have hS4 := HSA.out _ (((Below.refl w3.heap.size w3).alloc (Nat.le_refl _) (.cells #[.int .i64 0, .slice none 0 0] 25)).alloc (by simp) (.cells #[.int .i64 x0, .int .i64 x1, .int .i64 x2] 27)).drew
        have hS0 := HSA.out _ (Below.refl w3.heap.size w3).drew
        rw [HIL.out] at HP
        clear qA qB qC qD KC hr3 hL hNQ h34 hsz3 hwf HIL HE u0 u1 v0 v1 v2
        go_cut [7] (fun v wx => Hid (Made w f0 L (w.heap.size + 1 + 1) v wx))
        case first => as_aux_lemma =>
          go_region_held3 (fun w' => w'.cell? ⟨w.heap.size, 0, none⟩ = some (.int .i64 f0) ∧ w'.cell? ⟨w.heap.size, 1, none⟩ = some (.slice (some ad) n c) ∧ w'.cell? ⟨w.heap.size + 1, 0, none⟩ = some (.int .i64 x0) ∧ w'.cell? ⟨w.heap.size + 1, 1, none⟩ = some (.int .i64 x1) ∧ w'.cell? ⟨w.heap.size + 1, 2, none⟩ = some (.int .i64 x2)) (first | with_reducible exact hS0 | with_reducible exact hSq | with_reducible exact hSA | with_reducible exact hSB | with_reducible exact hSC | with_reducible exact hSD | with_reducible exact hS1 | with_reducible exact hS2 | with_reducible exact hS3 | with_reducible exact hS4 | with_reducible exact hSq2 | with_reducible exact hSq3 | with_reducible exact hSq4 | go_keep)
            (first
              | (go_at_call 20; (with_reducible refine (kA.out).mono ?_); rintro e wq ⟨vq, rfl, ho, hq⟩; obtain ⟨Aq, cq, hv, -, -, -, -⟩ := ho.row; rw [HNQ.out] at hv; subst hv; have HM1 := Lib.hid (mA.out wq Aq cq ho hq); obtain ⟨y0, y1, y2, y3⟩ := (show FoAt wq (w3.heap.size) 0 none 0 0 from BoxAt.next bA.out hq (Nat.le_refl _)).cells; have hbq := fA.out.trans (hq.mono fA.out.size); have hSq := HSA.out wq hbq; have hSq4 := HSA.out _ (Below.set2 hbq (show w3.heap.size ≤ w3.heap.size by omega) (.int .i64 f0) (.slice Aq NQ cq)); clear ho hq hbq)
              | (go_at_call 20; (with_reducible refine (kB.out).mono ?_); rintro e wq ⟨vq, rfl, ho, hq⟩; obtain ⟨Aq, cq, hv, -, -, -, -⟩ := ho.row; rw [HNQ.out] at hv; subst hv; have HM1 := Lib.hid (mB.out wq Aq cq ho hq); obtain ⟨y0, y1, y2, y3⟩ := (show FoAt wq (w3.heap.size + 1) 0 none 0 0 from BoxAt.next bB.out hq (Nat.le_refl _)).cells; have hbq := fB.out.trans (hq.mono fB.out.size); have hSq := HSA.out wq hbq; have hSq4 := HSA.out _ (Below.set2 hbq (show w3.heap.size ≤ w3.heap.size + 1 by omega) (.int .i64 f0) (.slice Aq NQ cq)); clear ho hq hbq)
              | (go_at_call 20; (with_reducible refine (kC.out).mono ?_); rintro e wq ⟨vq, rfl, ho, hq⟩; obtain ⟨Aq, cq, hv, -, -, -, -⟩ := ho.row; rw [HNQ.out] at hv; subst hv; have HM1 := Lib.hid (mC.out wq Aq cq ho hq); obtain ⟨y0, y1, y2, y3⟩ := (show FoAt wq (w3.heap.size + 1 + 1) 0 none 0 0 from BoxAt.next bC.out hq (Nat.le_refl _)).cells; have hbq := fC.out.trans (hq.mono fC.out.size); have hSq := HSA.out wq hbq; have hSq4 := HSA.out _ (Below.set2 hbq (show w3.heap.size ≤ w3.heap.size + 1 + 1 by omega) (.int .i64 f0) (.slice Aq NQ cq)); clear ho hq hbq)
              | (go_at_call 20; (with_reducible refine (kD.out).mono ?_); rintro e wq ⟨vq, rfl, ho, hq⟩; obtain ⟨Aq, cq, hv, -, -, -, -⟩ := ho.row; rw [HNQ.out] at hv; subst hv; have HM1 := Lib.hid (mD.out wq Aq cq ho hq); have hbq := fD.out.trans (hq.mono fD.out.size); have hSq := HSA.out wq hbq; have hSq2 := HSA.out _ (hbq.alloc hbq.size (.cells #[.int .i64 0, .slice none 0 0] 25)); have hSq3 := HSA.out _ (hbq.alloc hbq.size (.cells #[.int .i64 f0, .slice Aq NQ cq] 25)); clear ho hq hbq))
          all_goals
            go_wp2_with fail
            go_meet
            exact HM1
        case rest =>
          obtain ⟨X, Aq, cq, m, base, hm, rfl, hfx, ho, hb4, hb, h4, hne, hXl, -, -⟩ := hcut.out
          have hmm : m ≤ 1000 := by have := HNQ.out; omega
          obtain ⟨A9, c9, hv9, -, -, hr9, -⟩ := ho.row
          rw [hm] at hv9
          injection hv9 with hv91 hv92 hv93
          subst hv91 hv93
          have KG2 := Lib.hid (good_c f0 Aq m cq L wc hm (by omega) hr9)
          obtain ⟨t0, t1, -, -⟩ := FoAt.cells hfx
          have HFX := Lib.hid hfx
          have HO := Lib.hid ho
          have H4 := Lib.hid h4
          have HB := Lib.hid hb
          have HML := Lib.hid hm
          have hle := hb.size
          clear hfx ho h4 hb hm hcut hr9 hNQ2 HNQ HSA kA kB kC kD mA mB mC mD fA fB fC fD bA bB bC hSA hSB hSC hSD hS0 hS1 hS2 hS3 hS4 HZ3 HX3 HF3 HB3
          generalize goodV f0 L = G2 at *
          go_wp2_with fail
          refine KG2.out.mono ?_
          rintro e w5 ⟨rfl, hb5⟩
          have HO5 := Lib.hid (HO.out.below hb5 (Nat.le_refl _))
          have H45 := Lib.hid (show FoAt w5 (w.heap.size + 1 + 1) 0 none 0 0 from BoxAt.next H4.out hb5 (Nat.le_refl _))
          obtain ⟨t0, t1, -, -⟩ := (show FoAt w5 X f0 Aq m cq from BoxAt.next HFX.out hb5 (Nat.le_refl _)).cells
          obtain ⟨y0, y1, y2, y3⟩ := H45.out.cells
          have HB5 := Lib.hid (HB.out.trans (hb5.mono HB.out.size))
          clear hb5 KG2 HFX HO H4 HB
          cases G2
          · have HQ := Lib.hid (HP.out.1 rfl)
            clear HP
            go_wp2_with fail
            refine bodyPost_ret (res_box rfl _ (w.heap.size + 1 + 1) #[.int .i64 0, .slice none 0 0] _ _ rfl rfl (H45.out.set 0 none 0 0) Tryd.underlying25 rfl (by kernel_rfl)) rfl ?_
            exact HQ.out _ _ (FRet.fail (Below.set2 HB5.out (by omega) _ _))
          · have HQ := Lib.hid (HP.out.2 rfl)
            clear HP
            go_wp2_with fail
            refine bodyPost_ret (res_box rfl _ (w.heap.size + 1 + 1) #[.int .i64 f0, .slice Aq m cq] _ _ rfl rfl (H45.out.set f0 Aq m cq) Tryd.underlying25 rfl (by kernel_rfl)) rfl ?_
            have ho6 := (HO5.out.setCell (a := ⟨w.heap.size + 1 + 1, 0, none⟩) hb4 (.int .i64 f0)).setCell (a := ⟨w.heap.size + 1 + 1, 1, none⟩) hb4 (.slice Aq m cq)
            obtain ⟨A9, c9, hv9, hl9, hm9, hr9, hz9⟩ := ho6.row
            rw [HML.out] at hv9 hl9
            injection hv9 with hv91 hv92 hv93
            subst hv91 hv93
            exact HQ.out _ _ ⟨Aq, cq, m, HML.out, rfl, hr9, hz9, hl9, hm9, Below.set2 HB5.out (by omega) _ _⟩
  · have hkn : k < n := by rw [← HN.out]; exact e3
    rw [e1]
    have HE := Lib.hid e2
    clear e1 e2 e3 HI
    have hk0 : decide ((k : Int) < 0) = false := by simp
    cases A with
    | none => exact absurd hkn (by rw [← HN.out, HR.out.none_nil]; simp)
    | some ad =>
      have hck : ¬ (c = k) := by have := HLM.out.1; omega
      have hlc : n ≤ c := HLM.out.1
      have hcm : c ≤ 9223372036854775807 := HLM.out.2.1
      have i1 : (0 : Int) ≤ (k : Int) := by omega
      have i2 : (k : Int) ≤ (n : Int) := by omega
      have i3 : (k : Int) ≤ (c : Int) := by omega
      have i4 : (n : Int) ≤ (c : Int) := by omega
      go_upto_region 8 with fail
      have HSA : Hid (∀ W', Below w3.heap.size w3 W' → W'.cell? ⟨w.heap.size, 0, none⟩ = some (.int .i64 f0) ∧ W'.cell? ⟨w.heap.size, 1, none⟩ = some (.slice (some ad) n c) ∧ W'.cell? ⟨w.heap.size + 1, 0, none⟩ = some (.int .i64 x0) ∧ W'.cell? ⟨w.heap.size + 1, 1, none⟩ = some (.int .i64 x1) ∧ W'.cell? ⟨w.heap.size + 1, 2, none⟩ = some (.int .i64 x2)) := Lib.hid (fun W' hb => by
        obtain ⟨a0, a1, -, -⟩ := (show FoAt W' w.heap.size f0 (some ad) n c from BoxAt.next HF3.out hb (Nat.le_refl _)).cells
        obtain ⟨b0, b1, b2, -, -, -⟩ := (show ItAt W' (w.heap.size + 1) (x0, x1, x2) from BoxAt.next HX3.out hb (Nat.le_refl _)).cells
        exact ⟨a0, a1, b0, b1, b2⟩)
      obtain ⟨L, hL⟩ : ∃ L, l.take k ++ [(x0, x1, x2)] ++ l.drop k = L := ⟨_, rfl⟩
      obtain ⟨NQ, hNQ⟩ : ∃ NQ, L.length = NQ := ⟨_, rfl⟩
      have hNQ2 : NQ ≤ 1000 := by
        rw [← hNQ, ← hL]
        have := HN.out
        simp
        omega
      have HNQ := Lib.hid hNQ
      have HIL : Hid (insA l (x0, x1, x2) = L) := Lib.hid (by unfold insA; rw [HE.out, hL])
      have hr3 := HR.out.below HB3.out (Nat.le_refl _)
      have KC : Hid (∀ Wq sb ib, Below w3.heap.size w3 Wq → BoxAt Wq sb 23 #[.slice (some ad) k c, .slice (some ⟨ib, 0, none⟩) 1 1, .slice (some (ad.add (k * 3))) (n - k) (c - k)] → ItAt Wq ib (x0, x1, x2) → Calls Tryd.prog 20 #[.slice (some ⟨sb, 0, none⟩) 3 3] Wq (OwnRet Wq.heap.size L Wq)) := Lib.hid (fun Wq sb ib hb hs hi => by
        rw [← hL]
        exact joined_c HN.out (by omega) hr3 (fun e => by cases e) (by omega) rfl (hr3.drop k) (fun e => by cases e) hb hs hi)
      have h34 := BoxAt.lt HZ3.out
      have hsz3 := HB3.out.size
      have hwf := BoxAt.lt HF3.out
      have qA := three_new w3 #[.int .i64 0, .slice none 0 0] #[.int .i64 x0, .int .i64 x1, .int .i64 x2] #[.slice (some ad) k c, .slice (some ⟨w3.heap.size + 1, 0, none⟩) 1 1, .slice (some (ad.add (k * 3))) (n - k) (c - k)] 25 27 23
      have kA := Lib.hid (KC.out _ _ _ qA.2.2.2 qA.2.2.1 qA.2.1)
      have qB := three_new w3 #[.int .i64 x0, .int .i64 x1, .int .i64 x2] #[.int .i64 0, .slice none 0 0] #[.slice (some ad) k c, .slice (some ⟨w3.heap.size, 0, none⟩) 1 1, .slice (some (ad.add (k * 3))) (n - k) (c - k)] 27 25 23
      have kB := Lib.hid (KC.out _ _ _ qB.2.2.2 qB.2.2.1 qB.1)
      have qC := three_new w3 #[.int .i64 x0, .int .i64 x1, .int .i64 x2] #[.slice (some ad) k c, .slice (some ⟨w3.heap.size, 0, none⟩) 1 1, .slice (some (ad.add (k * 3))) (n - k) (c - k)] #[.int .i64 0, .slice none 0 0] 27 23 25
      have kC := Lib.hid (KC.out _ _ _ qC.2.2.2 qC.2.1 qC.1)
      have qD := two_new w3 #[.int .i64 x0, .int .i64 x1, .int .i64 x2] #[.slice (some ad) k c, .slice (some ⟨w3.heap.size, 0, none⟩) 1 1, .slice (some (ad.add (k * 3))) (n - k) (c - k)] 27 23
      have kD := Lib.hid (KC.out _ _ _ qD.2.2 qD.2.1 qD.1)
      have mA := Lib.hid (fun wq A cq ho hq => made_set (w := w) (wq := wq) (f0 := f0) (L := L) (A := A) (n := NQ) (cap := cq) (b4 := w.heap.size + 1 + 1) hNQ ho hq (show FoAt _ (w3.heap.size) 0 none 0 0 from qA.1) (HB3.out.trans (qA.2.2.2.mono hsz3)) (BoxAt.next HZ3.out qA.2.2.2 (Nat.le_refl _)) (by omega) (by omega))
      have fA := Lib.hid qA.2.2.2
      have bA := Lib.hid (show FoAt _ (w3.heap.size) 0 none 0 0 from qA.1)
      have mB := Lib.hid (fun wq A cq ho hq => made_set (w := w) (wq := wq) (f0 := f0) (L := L) (A := A) (n := NQ) (cap := cq) (b4 := w.heap.size + 1 + 1) hNQ ho hq (show FoAt _ (w3.heap.size + 1) 0 none 0 0 from qB.2.1) (HB3.out.trans (qB.2.2.2.mono hsz3)) (BoxAt.next HZ3.out qB.2.2.2 (Nat.le_refl _)) (by omega) (by omega))
      have fB := Lib.hid qB.2.2.2
      have bB := Lib.hid (show FoAt _ (w3.heap.size + 1) 0 none 0 0 from qB.2.1)
      have mC := Lib.hid (fun wq A cq ho hq => made_set (w := w) (wq := wq) (f0 := f0) (L := L) (A := A) (n := NQ) (cap := cq) (b4 := w.heap.size + 1 + 1) hNQ ho hq (show FoAt _ (w3.heap.size + 1 + 1) 0 none 0 0 from qC.2.2.1) (HB3.out.trans (qC.2.2.2.mono hsz3)) (BoxAt.next HZ3.out qC.2.2.2 (Nat.le_refl _)) (by omega) (by omega))
      have fC := Lib.hid qC.2.2.2
      have bC := Lib.hid (show FoAt _ (w3.heap.size + 1 + 1) 0 none 0 0 from qC.2.2.1)
      have mD := Lib.hid (fun wq A cq ho hq => made_new (w := w) (wq := wq) (f0 := f0) (L := L) (A := A) (n := NQ) (cap := cq) (b4 := w.heap.size + 1 + 1) hNQ ho hq (HB3.out.trans (qD.2.2.mono hsz3)) (BoxAt.next HZ3.out qD.2.2 (Nat.le_refl _)))
      have fD := Lib.hid qD.2.2
      have hSA := HSA.out _ fA.out
      have hSB := HSA.out _ fB.out
      have hSC := HSA.out _ fC.out
      have hSD := HSA.out _ fD.out
      have hS1 := HSA.out _ ((Below.refl w3.heap.size w3).alloc (Nat.le_refl _) (.cells #[.int .i64 x0, .int .i64 x1, .int .i64 x2] 27)).drew
      have hS2 := HSA.out _ ((Below.refl w3.heap.size w3).alloc (Nat.le_refl _) (.cells #[.int .i64 0, .slice none 0 0] 25)).drew
      have hS3 := HSA.out _ (((Below.refl w3.heap.size w3).alloc (Nat.le_refl _) (.cells #[.int .i64 x0, .int .i64 x1, .int .i64 x2] 27)).alloc (by simp) (.cells #[.int .i64 0, .slice none 0 0] 25)).drew
      have hS4 := HSA.out _ (((Below.refl w3.heap.size w3).alloc (Nat.le_refl _) (.cells #[.int .i64 0, .slice none 0 0] 25)).alloc (by simp) (.cells #[.int .i64 x0, .int .i64 x1, .int .i64 x2] 27)).drew
      have hS0 := HSA.out _ (Below.refl w3.heap.size w3).drew
      rw [HIL.out] at HP
      clear qA qB qC qD KC hr3 hL hNQ h34 hsz3 hwf HIL HE u0 u1 v0 v1 v2
      go_cut [7] (fun v wx => Hid (Made w f0 L (w.heap.size + 1 + 1) v wx))
      case first => as_aux_lemma =>
        go_region_held3 (fun w' => w'.cell? ⟨w.heap.size, 0, none⟩ = some (.int .i64 f0) ∧ w'.cell? ⟨w.heap.size, 1, none⟩ = some (.slice (some ad) n c) ∧ w'.cell? ⟨w.heap.size + 1, 0, none⟩ = some (.int .i64 x0) ∧ w'.cell? ⟨w.heap.size + 1, 1, none⟩ = some (.int .i64 x1) ∧ w'.cell? ⟨w.heap.size + 1, 2, none⟩ = some (.int .i64 x2)) (first | with_reducible exact hS0 | with_reducible exact hSq | with_reducible exact hSA | with_reducible exact hSB | with_reducible exact hSC | with_reducible exact hSD | with_reducible exact hS1 | with_reducible exact hS2 | with_reducible exact hS3 | with_reducible exact hS4 | with_reducible exact hSq2 | with_reducible exact hSq3 | with_reducible exact hSq4 | go_keep)
          (first
            | (go_at_call 20; (with_reducible refine (kA.out).mono ?_); rintro e wq ⟨vq, rfl, ho, hq⟩; obtain ⟨Aq, cq, hv, -, -, -, -⟩ := ho.row; rw [HNQ.out] at hv; subst hv; have HM1 := Lib.hid (mA.out wq Aq cq ho hq); obtain ⟨y0, y1, y2, y3⟩ := (show FoAt wq (w3.heap.size) 0 none 0 0 from BoxAt.next bA.out hq (Nat.le_refl _)).cells; have hbq := fA.out.trans (hq.mono fA.out.size); have hSq := HSA.out wq hbq; have hSq4 := HSA.out _ (Below.set2 hbq (show w3.heap.size ≤ w3.heap.size by omega) (.int .i64 f0) (.slice Aq NQ cq)); clear ho hq hbq)
            | (go_at_call 20; (with_reducible refine (kB.out).mono ?_); rintro e wq ⟨vq, rfl, ho, hq⟩; obtain ⟨Aq, cq, hv, -, -, -, -⟩ := ho.row; rw [HNQ.out] at hv; subst hv; have HM1 := Lib.hid (mB.out wq Aq cq ho hq); obtain ⟨y0, y1, y2, y3⟩ := (show FoAt wq (w3.heap.size + 1) 0 none 0 0 from BoxAt.next bB.out hq (Nat.le_refl _)).cells; have hbq := fB.out.trans (hq.mono fB.out.size); have hSq := HSA.out wq hbq; have hSq4 := HSA.out _ (Below.set2 hbq (show w3.heap.size ≤ w3.heap.size + 1 by omega) (.int .i64 f0) (.slice Aq NQ cq)); clear ho hq hbq)
            | (go_at_call 20; (with_reducible refine (kC.out).mono ?_); rintro e wq ⟨vq, rfl, ho, hq⟩; obtain ⟨Aq, cq, hv, -, -, -, -⟩ := ho.row; rw [HNQ.out] at hv; subst hv; have HM1 := Lib.hid (mC.out wq Aq cq ho hq); obtain ⟨y0, y1, y2, y3⟩ := (show FoAt wq (w3.heap.size + 1 + 1) 0 none 0 0 from BoxAt.next bC.out hq (Nat.le_refl _)).cells; have hbq := fC.out.trans (hq.mono fC.out.size); have hSq := HSA.out wq hbq; have hSq4 := HSA.out _ (Below.set2 hbq (show w3.heap.size ≤ w3.heap.size + 1 + 1 by omega) (.int .i64 f0) (.slice Aq NQ cq)); clear ho hq hbq)
            | (go_at_call 20; (with_reducible refine (kD.out).mono ?_); rintro e wq ⟨vq, rfl, ho, hq⟩; obtain ⟨Aq, cq, hv, -, -, -, -⟩ := ho.row; rw [HNQ.out] at hv; subst hv; have HM1 := Lib.hid (mD.out wq Aq cq ho hq); have hbq := fD.out.trans (hq.mono fD.out.size); have hSq := HSA.out wq hbq; have hSq2 := HSA.out _ (hbq.alloc hbq.size (.cells #[.int .i64 0, .slice none 0 0] 25)); have hSq3 := HSA.out _ (hbq.alloc hbq.size (.cells #[.int .i64 f0, .slice Aq NQ cq] 25)); clear ho hq hbq))
        all_goals
          go_wp2_with fail
          go_meet
          exact HM1
      case rest =>
        obtain ⟨X, Aq, cq, m, base, hm, rfl, hfx, ho, hb4, hb, h4, hne, hXl, -, -⟩ := hcut.out
        have hmm : m ≤ 1000 := by have := HNQ.out; omega
        obtain ⟨A9, c9, hv9, -, -, hr9, -⟩ := ho.row
        rw [hm] at hv9
        injection hv9 with hv91 hv92 hv93
        subst hv91 hv93
        have KG2 := Lib.hid (good_c f0 Aq m cq L wc hm (by omega) hr9)
        obtain ⟨t0, t1, -, -⟩ := FoAt.cells hfx
        have HFX := Lib.hid hfx
        have HO := Lib.hid ho
        have H4 := Lib.hid h4
        have HB := Lib.hid hb
        have HML := Lib.hid hm
        have hle := hb.size
        clear hfx ho h4 hb hm hcut hr9 hNQ2 HNQ HSA kA kB kC kD mA mB mC mD fA fB fC fD bA bB bC hSA hSB hSC hSD hS0 hS1 hS2 hS3 hS4 HZ3 HX3 HF3 HB3
        generalize goodV f0 L = G2 at *
        go_wp2_with fail
        refine KG2.out.mono ?_
        rintro e w5 ⟨rfl, hb5⟩
        have HO5 := Lib.hid (HO.out.below hb5 (Nat.le_refl _))
        have H45 := Lib.hid (show FoAt w5 (w.heap.size + 1 + 1) 0 none 0 0 from BoxAt.next H4.out hb5 (Nat.le_refl _))
        obtain ⟨t0, t1, -, -⟩ := (show FoAt w5 X f0 Aq m cq from BoxAt.next HFX.out hb5 (Nat.le_refl _)).cells
        obtain ⟨y0, y1, y2, y3⟩ := H45.out.cells
        have HB5 := Lib.hid (HB.out.trans (hb5.mono HB.out.size))
        clear hb5 KG2 HFX HO H4 HB
        cases G2
        · have HQ := Lib.hid (HP.out.1 rfl)
          clear HP
          go_wp2_with fail
          refine bodyPost_ret (res_box rfl _ (w.heap.size + 1 + 1) #[.int .i64 0, .slice none 0 0] _ _ rfl rfl (H45.out.set 0 none 0 0) Tryd.underlying25 rfl (by kernel_rfl)) rfl ?_
          exact HQ.out _ _ (FRet.fail (Below.set2 HB5.out (by omega) _ _))
        · have HQ := Lib.hid (HP.out.2 rfl)
          clear HP
          go_wp2_with fail
          refine bodyPost_ret (res_box rfl _ (w.heap.size + 1 + 1) #[.int .i64 f0, .slice Aq m cq] _ _ rfl rfl (H45.out.set f0 Aq m cq) Tryd.underlying25 rfl (by kernel_rfl)) rfl ?_
          have ho6 := (HO5.out.setCell (a := ⟨w.heap.size + 1 + 1, 0, none⟩) hb4 (.int .i64 f0)).setCell (a := ⟨w.heap.size + 1 + 1, 1, none⟩) hb4 (.slice Aq m cq)
          obtain ⟨A9, c9, hv9, hl9, hm9, hr9, hz9⟩ := ho6.row
          rw [HML.out] at hv9 hl9
          injection hv9 with hv91 hv92 hv93
          subst hv91 hv93
          exact HQ.out _ _ ⟨Aq, cq, m, HML.out, rfl, hr9, hz9, hl9, hm9, Below.set2 HB5.out (by omega) _ _⟩
end Go.Proofs.YtmoifjaaencjbaaDoor
