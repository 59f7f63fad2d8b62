/- Forms: Drop. -/
import Derived.Test.YtmoifjaaencjbaaDoorZmb
namespace Go.Proofs.YtmoifjaaencjbaaDoor
open Go.RowKit
attribute [local go_sem ↓] Go.wp_at_zero Go.wp_at_succ

/-- A list without the item at a place. -/
def delA (l : List RI) (k : Nat) : List RI := l.take k ++ l.drop (k + 1)
theorem OwnR.setOther {w : World} {base : Nat} {v : Value} {l : List RI} (h : OwnR w base v l) {a : Addr} (ha : ∀ g, v.ownBlock = some g → g ≠ a.block) (u : Value) : OwnR (w.setCell a u) base v l := by
  unfold OwnR at *
  refine ⟨h.1, ?_⟩
  rcases h.2 with h2 | ⟨g, cap, cur, h1, h2, h3, h4⟩
  · exact .inl h2
  · exact .inr ⟨g, cap, cur, h1, h2, (Below.heap_setCell w a u g (ha g (by rw [h1]; rfl))).trans h3, h4⟩
/-- Two parts of a list, joined. -/
theorem joined2_c {w3 Wq : World} {sb k n c kc nl : Nat} {ad : Addr} {D : Option Addr} {l : List RI} (hn : l.length = n) (hn64 : n ≤ 1000) (hr : TRow w3 (some ad) l) (hk : k < n) (hnl : n - (k + 1) = nl) (hD : TRow w3 D (l.drop (k + 1))) (hDz : D = none → kc = 0) (hb : Below w3.heap.size w3 Wq)
    (hs : BoxAt Wq sb 23 #[.slice (some ad) k c, .slice D nl kc]) :
    Calls Tryd.prog 20 #[.slice (some ⟨sb, 0, none⟩) 2 2] Wq (OwnRet Wq.heap.size (delA l k) Wq) := by
  subst hnl
  have e : catL [(.slice (some ad) k c, l.take k), (.slice D (n - (k + 1)) kc, l.drop (k + 1))] = delA l k := by simp [catL, delA]
  rw [← e]
  have hlt : (l.take k).length = k := by rw [List.length_take]; omega
  have hld : (l.drop (k + 1)).length = n - (k + 1) := by rw [List.length_drop]; omega
  refine concat_c sb 2 2 _ Wq rfl (by omega) (by rw [e]; simp [delA]; omega) (BoxAt.lt hs) (fun j p hp => ?_)
  match j, hp with
  | 0, hp => simp at hp; subst hp; exact ⟨hs.cell, some ad, c, by rw [hlt], (hr.below hb (Nat.le_refl _)).take k, fun e => by cases e⟩
  | 1, hp => simp at hp; subst hp; exact ⟨hs.cell, D, kc, by rw [hld], hD.below hb (Nat.le_refl _), hDz⟩
  | j + 2, hp => simp at hp

/-- What Drop answers: the error, the form. -/
def dropO (f0 : Int) (l : List RI) (id : Int) : Int × Int × List RI :=
  if goodV f0 l = false then (1, 0, []) else if idxL (idIs id) l 0 < 0 then (2, 0, []) else (0, if f0 = id then -1 else f0, delA l (idxL (idIs id) l 0).toNat)

set_option maxRecDepth 100000 in
set_option maxHeartbeats 16000000 in
theorem drop_c (f0 id : Int) (A : Option Addr) (n c : Nat) (l : List RI) (w : World) (hn : l.length = n) (hl : n ≤ c) (hm : c ≤ maxLen) (hl2 : n ≤ 4611686018427387904) (hr : TRow w A l) :
    Calls Tryd.prog 9 #[.agg #[.int .i64 f0, .slice A n c], .int .i64 id] w (FRet (dropO f0 l id).2.1 (dropO f0 l id).2.2 (dropO f0 l id).1 w) := by
  obtain ⟨W, hW⟩ : ∃ W, (w.alloc (.cells #[.int .i64 f0, .slice A n c] 25)).alloc (.cells #[.int .i64 0, .slice none 0 0] 25) = W := ⟨_, rfl⟩
  have hb : Below w.heap.size w W := by rw [← hW]; exact ((Below.refl _ w).alloc (Nat.le_refl _) _).alloc (by simp) _
  have hf : FoAt W w.heap.size f0 A n c := by rw [← hW]; exact heap_alloc2_old w _ _
  have hz0 : FoAt W (w.heap.size + 1) 0 none 0 0 := by rw [← hW]; exact heap_alloc2_new w _ _
  have KG := Lib.hid (good_c f0 A n c l W hn hl2 (hr.below hb (Nat.le_refl _)))
  have HR := Lib.hid hr
  have HN := Lib.hid hn
  have HW := Lib.hid hW
  have HB := Lib.hid hb
  have HF := Lib.hid hf
  have HZ := Lib.hid hz0
  have HLM := Lib.hid (And.intro hl hm)
  obtain ⟨u0, u1, -, -⟩ := hf.cells
  cases hG : goodV f0 l
  · have HV : Hid (dropO f0 l id = (1, 0, [])) := Lib.hid (by unfold dropO; rw [if_pos hG])
    rw [HV.out]
    rw [hG] at KG
    clear hW hb hf hz0 hr hn hG hl hm HV HR HLM
    go_enter Tryd.func9, Tryd.ntmps9
    go_wp2_with fail
    rw [HW.out]
    refine KG.out.mono ?_
    rintro e w1 ⟨rfl, hb1⟩
    have HZ1 := Lib.hid (show FoAt w1 (w.heap.size + 1) 0 none 0 0 from BoxAt.next HZ.out hb1 (Nat.le_refl _))
    have HB1 := Lib.hid (HB.out.trans (hb1.mono HB.out.size))
    obtain ⟨y0, y1, y2, y3⟩ := HZ1.out.cells
    clear hb1 KG
    go_wp2_with fail
    refine bodyPost_ret (res_box rfl _ (w.heap.size + 1) #[.int .i64 0, .slice none 0 0] _ _ rfl rfl (HZ1.out.set 0 none 0 0) Tryd.underlying25 rfl (by kernel_rfl)) rfl ?_
    exact FRet.fail (Below.set2 HB1.out (by omega) _ _)
  have hn64 : n ≤ 64 := by rw [← hn]; unfold goodV at hG; simp at hG; exact hG.1.1.1
  have HG := Lib.hid hG
  rw [hG] at KG
  have KP : Hid (∀ W, Below w.heap.size w W → Calls Tryd.prog 21 #[.slice A n c, .int .i64 id] W (Ret10 (.int .i64 (idxL (idIs id) l 0)) W)) := Lib.hid (fun W hb => place_c A n c id l W hn (by omega) (hr.below hb (Nat.le_refl _)))
  rcases idxL_spec (idIs id) l 0 with ⟨h1, h2⟩ | ⟨k, r, h1, h2, h3, h4⟩
  · have HV : Hid (dropO f0 l id = (2, 0, [])) := Lib.hid (by unfold dropO; rw [if_neg (by simp [hG]), if_pos (by rw [h1]; decide)])
    rw [HV.out]
    rw [h1] at KP
    clear hW hb hf hz0 hr hn hG hl hm HV HR HLM h1 h2
    go_enter Tryd.func9, Tryd.ntmps9
    go_wp2_with fail
    rw [HW.out]
    refine KG.out.mono ?_
    rintro e w1 ⟨rfl, hb1⟩
    have HF1 := Lib.hid (show FoAt w1 w.heap.size f0 A n c from BoxAt.next HF.out hb1 (Nat.le_refl _))
    have HZ1 := Lib.hid (show FoAt w1 (w.heap.size + 1) 0 none 0 0 from BoxAt.next HZ.out hb1 (Nat.le_refl _))
    have HB1 := Lib.hid (HB.out.trans (hb1.mono HB.out.size))
    clear hb1 KG u0 u1
    obtain ⟨u0, u1, -, -⟩ := HF1.out.cells
    go_wp2_with fail
    refine (KP.out _ HB1.out).mono ?_
    rintro e w2 ⟨rfl, hb1⟩
    have HZ2 := Lib.hid (show FoAt w2 (w.heap.size + 1) 0 none 0 0 from BoxAt.next HZ1.out hb1 (Nat.le_refl _))
    have HB2 := Lib.hid (HB1.out.trans (hb1.mono HB1.out.size))
    obtain ⟨y0, y1, y2, y3⟩ := HZ2.out.cells
    clear hb1 KP
    go_wp2_with fail
    refine bodyPost_ret (res_box rfl _ (w.heap.size + 1) #[.int .i64 0, .slice none 0 0] _ _ rfl rfl (HZ2.out.set 0 none 0 0) Tryd.underlying25 rfl (by kernel_rfl)) rfl ?_
    exact FRet.fail (Below.set2 HB2.out (by omega) _ _)
  rw [Nat.zero_add] at h1
  rw [h1] at KP
  have hkn : k < n := by have := (List.getElem?_eq_some_iff.1 h2).1; omega
  obtain ⟨ad, rfl⟩ : ∃ ad, A = some ad := by
    cases A with
    | none => rw [hr.none_nil] at h2; simp at h2
    | some ad => exact ⟨ad, rfl⟩
  have HV : Hid (dropO f0 l id = (0, if f0 = id then -1 else f0, delA l k)) := Lib.hid (by
    unfold dropO
    rw [if_neg (by simp [hG]), if_neg (by rw [h1]; omega), h1]
    rfl)
  rw [HV.out]
  obtain ⟨C0, hC0⟩ : ∃ C0 : Int, (if f0 = id then -1 else f0) = C0 := ⟨_, rfl⟩
  dsimp only
  rw [hC0]
  obtain ⟨L, hL⟩ : ∃ L, delA l k = L := ⟨_, rfl⟩
  rw [hL]
  have HLD := Lib.hid hL
  clear hL
  have HC0 := Lib.hid hC0
  clear hC0
  have hlc : n ≤ c := hl
  have hcm : c ≤ 9223372036854775807 := hm
  clear hW hb hf hz0 hr hn hG hl hm HV h1 h2 h3 h4
  have hk0 : decide ((k : Int) < 0) = false := by simp
  go_enter Tryd.func9, Tryd.ntmps9
  go_wp2_with fail
  rw [HW.out]
  refine KG.out.mono ?_
  rintro e w1 ⟨rfl, hb1⟩
  have HF1 := Lib.hid (show FoAt w1 w.heap.size f0 (some ad) n c from BoxAt.next HF.out hb1 (Nat.le_refl _))
  have HZ1 := Lib.hid (show FoAt w1 (w.heap.size + 1) 0 none 0 0 from BoxAt.next HZ.out hb1 (Nat.le_refl _))
  have HB1 := Lib.hid (HB.out.trans (hb1.mono HB.out.size))
  clear hb1 KG u0 u1 HF HZ HB HW
  obtain ⟨u0, u1, -, -⟩ := HF1.out.cells
  go_wp2_with fail
  refine (KP.out _ HB1.out).mono ?_
  rintro e w3 ⟨rfl, hb1⟩
  have HF3 := Lib.hid (show FoAt w3 w.heap.size f0 (some ad) n c from BoxAt.next HF1.out hb1 (Nat.le_refl _))
  have HZ3 := Lib.hid (show FoAt w3 (w.heap.size + 1) 0 none 0 0 from BoxAt.next HZ1.out hb1 (Nat.le_refl _))
  have HB3 := Lib.hid (HB1.out.trans (hb1.mono HB1.out.size))
  clear hb1 KP u0 u1 HF1 HZ1 HB1
  go_upto_region 6 with fail
  have i1 : (0 : Int) ≤ (k : Int) := by omega
  have i2 : (k : Int) ≤ (n : Int) := by omega
  have i3 : (k : Int) ≤ (c : Int) := by omega
  have i4 : (n : Int) ≤ (c : Int) := by omega
  obtain ⟨p, hp⟩ : ∃ p, k + 1 = p := ⟨_, rfl⟩
  have HPP := Lib.hid hp
  have i5 : (p : Int) ≤ (n : Int) := by omega
  have i6 : (0 : Int) ≤ (p : Int) := by omega
  have i7 : (p : Int) ≤ (c : Int) := by omega
  have hwk : IntKind.i64.wrap ((k : Int) + 1) = (p : Int) := by rw [IntKind.wrap_i64]; omega
  by_cases hcn : c = p
  · obtain rfl : n = p := by omega
    obtain rfl : c = n := hcn
    clear hp
    have HSA : Hid (∀ W', Below w3.heap.size w3 W' → W'.cell? ⟨w.heap.size, 0, none⟩ = some (.int .i64 f0) ∧ W'.cell? ⟨w.heap.size, 1, none⟩ = some (.slice (some ad) c c)) := Lib.hid (fun W' hb => by
      obtain ⟨a0, a1, -, -⟩ := (show FoAt W' w.heap.size f0 (some ad) c c from BoxAt.next HF3.out hb (Nat.le_refl _)).cells
      exact ⟨a0, a1⟩)
    have hL := HLD.out
    obtain ⟨NQ, hNQ⟩ : ∃ NQ, L.length = NQ := ⟨_, rfl⟩
    have HNQ := Lib.hid hNQ
    have hr3 := HR.out.below HB3.out (Nat.le_refl _)
    have KC : Hid (∀ Wq sb, Below w3.heap.size w3 Wq → BoxAt Wq sb 23 #[.slice (some ad) k c, .slice (some ad) 0 0] → Calls Tryd.prog 20 #[.slice (some ⟨sb, 0, none⟩) 2 2] Wq (OwnRet Wq.heap.size L Wq)) := Lib.hid (fun Wq sb hb hs => by
      rw [← hL]
      exact joined2_c (k := k) HN.out (by omega) hr3 (by omega) (by have := HPP.out; omega) (by rw [List.drop_of_length_le (by rw [HN.out, HPP.out]; exact Nat.le_refl _)]; exact TRow.nil) (fun _ => rfl) hb hs)
    have h34 := BoxAt.lt HZ3.out
    have hsz3 := HB3.out.size
    have hwf := BoxAt.lt HF3.out
    have qA := two_new w3 #[.int .i64 0, .slice none 0 0] #[.slice (some ad) k c, .slice (some ad) 0 0] 25 23
    have kA := Lib.hid (KC.out _ _ qA.2.2 qA.2.1)
    have qC := two_new w3 #[.slice (some ad) k c, .slice (some ad) 0 0] #[.int .i64 0, .slice none 0 0] 23 25
    have kC := Lib.hid (KC.out _ _ qC.2.2 qC.1)
    have gD : Below w3.heap.size w3 (w3.alloc (.cells #[.slice (some ad) k c, .slice (some ad) 0 0] 23)).drew := ((Below.refl _ w3).alloc (Nat.le_refl _) _).drew
    have kD := Lib.hid (KC.out _ _ gD (show BoxAt _ w3.heap.size _ _ from heap_alloc_new w3 _))
    have mA := Lib.hid (fun wq A cq ho hq => made_set (w := w) (wq := wq) (f0 := f0) (L := L) (A := A) (n := NQ) (cap := cq) (b4 := w.heap.size + 1) hNQ ho hq (show FoAt _ (w3.heap.size) 0 none 0 0 from qA.1) (HB3.out.trans (qA.2.2.mono hsz3)) (BoxAt.next HZ3.out qA.2.2 (Nat.le_refl _)) (by omega) (by omega))
    have fA := Lib.hid qA.2.2
    have bA := Lib.hid (show FoAt _ (w3.heap.size) 0 none 0 0 from qA.1)
    have mC := Lib.hid (fun wq A cq ho hq => made_set (w := w) (wq := wq) (f0 := f0) (L := L) (A := A) (n := NQ) (cap := cq) (b4 := w.heap.size + 1) hNQ ho hq (show FoAt _ (w3.heap.size + 1) 0 none 0 0 from qC.2.1) (HB3.out.trans (qC.2.2.mono hsz3)) (BoxAt.next HZ3.out qC.2.2 (Nat.le_refl _)) (by omega) (by omega))
    have fC := Lib.hid qC.2.2
    have bC := Lib.hid (show FoAt _ (w3.heap.size + 1) 0 none 0 0 from qC.2.1)
    have mD := Lib.hid (fun wq A cq ho hq => made_new (w := w) (wq := wq) (f0 := f0) (L := L) (A := A) (n := NQ) (cap := cq) (b4 := w.heap.size + 1) hNQ ho hq (HB3.out.trans (gD.mono hsz3)) (BoxAt.next HZ3.out gD (Nat.le_refl _)))
    have fD := Lib.hid gD
    have hSA := HSA.out _ fA.out
    have hSC := HSA.out _ fC.out
    have hSD := HSA.out _ fD.out
    have hS2 := HSA.out _ ((Below.refl w3.heap.size w3).alloc (Nat.le_refl _) (.cells #[.int .i64 0, .slice none 0 0] 25)).drew
    have hS0 := HSA.out _ (Below.refl w3.heap.size w3).drew
    have HLL : Hid (L.length ≤ 1000) := Lib.hid (by rw [← hL]; have := HN.out; simp [delA]; omega)
    clear qA qC gD KC hr3 hL hNQ h34 hsz3 hwf
    go_cut [7] (fun v wx => Hid (Made w f0 L (w.heap.size + 1) v wx))
    case first => as_aux_lemma =>
      go_region_held3 (fun w' => w'.cell? ⟨w.heap.size, 0, none⟩ = some (.int .i64 f0) ∧ w'.cell? ⟨w.heap.size, 1, none⟩ = some (.slice (some ad) c c)) (first | with_reducible exact hS0 | with_reducible exact hSq | with_reducible exact hSA | with_reducible exact hSC | with_reducible exact hSD | with_reducible exact hS2 | with_reducible exact hSq2 | with_reducible exact hSq3 | with_reducible exact hSq4 | go_keep)
        (first
          | (go_at_call 20; (with_reducible refine (kA.out).mono ?_); rintro e wq ⟨vq, rfl, ho, hq⟩; obtain ⟨Aq, cq, hv, -, -, -, -⟩ := ho.row; rw [HNQ.out] at hv; subst hv; have HM1 := Lib.hid (mA.out wq Aq cq ho hq); obtain ⟨y0, y1, y2, y3⟩ := (show FoAt wq (w3.heap.size) 0 none 0 0 from BoxAt.next bA.out hq (Nat.le_refl _)).cells; have hbq := fA.out.trans (hq.mono fA.out.size); have hSq := HSA.out wq hbq; have hSq4 := HSA.out _ (Below.set2 hbq (show w3.heap.size ≤ w3.heap.size by omega) (.int .i64 f0) (.slice Aq NQ cq)); clear ho hq hbq)
          | (go_at_call 20; (with_reducible refine (kC.out).mono ?_); rintro e wq ⟨vq, rfl, ho, hq⟩; obtain ⟨Aq, cq, hv, -, -, -, -⟩ := ho.row; rw [HNQ.out] at hv; subst hv; have HM1 := Lib.hid (mC.out wq Aq cq ho hq); obtain ⟨y0, y1, y2, y3⟩ := (show FoAt wq (w3.heap.size + 1) 0 none 0 0 from BoxAt.next bC.out hq (Nat.le_refl _)).cells; have hbq := fC.out.trans (hq.mono fC.out.size); have hSq := HSA.out wq hbq; have hSq4 := HSA.out _ (Below.set2 hbq (show w3.heap.size ≤ w3.heap.size + 1 by omega) (.int .i64 f0) (.slice Aq NQ cq)); clear ho hq hbq)
          | (go_at_call 20; (with_reducible refine (kD.out).mono ?_); rintro e wq ⟨vq, rfl, ho, hq⟩; obtain ⟨Aq, cq, hv, -, -, -, -⟩ := ho.row; rw [HNQ.out] at hv; subst hv; have HM1 := Lib.hid (mD.out wq Aq cq ho hq); have hbq := fD.out.trans (hq.mono fD.out.size); have hSq := HSA.out wq hbq; have hSq2 := HSA.out _ (hbq.alloc hbq.size (.cells #[.int .i64 0, .slice none 0 0] 25)); have hSq3 := HSA.out _ (hbq.alloc hbq.size (.cells #[.int .i64 f0, .slice Aq NQ cq] 25)); clear ho hq hbq))
      all_goals
        go_wp2_with fail
        go_meet
        exact HM1
    case rest =>
      obtain ⟨X, Aq, cq, m, base, hm, rfl, hfx, ho, hb4, hb, h4, hne, hXl, hwX, hown⟩ := hcut.out
      obtain ⟨t0, t1, t2, t3⟩ := FoAt.cells hfx
      obtain ⟨y0, y1, y2, y3⟩ := FoAt.cells h4
      have HFX := Lib.hid hfx
      have HO := Lib.hid ho
      have H4 := Lib.hid h4
      have HB := Lib.hid hb
      have HML := Lib.hid hm
      have HOW := Lib.hid hown
      clear hfx ho h4 hb hm hcut hown HNQ HSA kA kC kD mA mC mD fA fC fD bA bC hSA hSC hSD hS0 hS2 HZ3 HF3 HB3
      by_cases hfi : f0 = id
      · subst hfi
        obtain rfl : C0 = -1 := by rw [← HC0.out, if_pos rfl]
        have HF2 := Lib.hid (show BoxAt (wc.setCell ⟨X, 0, none⟩ (.int .i64 (-1))) X 25 #[.int .i64 (-1), .slice Aq m cq] from BoxAt.set (j := 0) HFX.out (.int .i64 (-1)))
        obtain ⟨s0, s1, -, -⟩ := (show FoAt (wc.setCell ⟨X, 0, none⟩ (.int .i64 (-1))) X (-1) Aq m cq from HF2.out).cells
        have H42 := Lib.hid (show FoAt (wc.setCell ⟨X, 0, none⟩ (.int .i64 (-1))) (w.heap.size + 1) 0 none 0 0 from BoxAt.other (a := ⟨X, 0, none⟩) H4.out (Ne.symm hne) _)
        obtain ⟨r0, r1, r2, r3⟩ := H42.out.cells
        go_wp2_with fail
        refine bodyPost_ret (res_box rfl _ (w.heap.size + 1) #[.int .i64 (-1), .slice Aq m cq] _ _ rfl rfl (H42.out.set (-1) Aq m cq) Tryd.underlying25 rfl (by kernel_rfl)) rfl ?_
        have ho6 := ((HO.out.setOther (a := ⟨X, 0, none⟩) HOW.out (.int .i64 (-1))).setCell (a := ⟨w.heap.size + 1, 0, none⟩) hb4 (.int .i64 (-1))).setCell (a := ⟨w.heap.size + 1, 1, none⟩) hb4 (.slice Aq m cq)
        obtain ⟨A9, c9, hv9, hl9, hm9, hr9, hz9⟩ := ho6.row
        rw [HML.out] at hv9 hl9
        injection hv9 with hv91 hv92 hv93
        subst hv91 hv93
        exact ⟨Aq, cq, m, HML.out, rfl, hr9, hz9, hl9, hm9, Below.set2 (HB.out.setCell hwX _) (by omega) _ _⟩
      · obtain rfl : f0 = C0 := by rw [← HC0.out, if_neg hfi]
        have hfi' : (f0 == id) = false := by simp [hfi]
        go_wp2_with fail
        refine bodyPost_ret (res_box rfl _ (w.heap.size + 1) #[.int .i64 f0, .slice Aq m cq] _ _ rfl rfl (H4.out.set f0 Aq m cq) Tryd.underlying25 rfl (by kernel_rfl)) rfl ?_
        have ho6 := (HO.out.setCell (a := ⟨w.heap.size + 1, 0, none⟩) hb4 (.int .i64 f0)).setCell (a := ⟨w.heap.size + 1, 1, none⟩) hb4 (.slice Aq m cq)
        obtain ⟨A9, c9, hv9, hl9, hm9, hr9, hz9⟩ := ho6.row
        rw [HML.out] at hv9 hl9
        injection hv9 with hv91 hv92 hv93
        subst hv91 hv93
        exact ⟨Aq, cq, m, HML.out, rfl, hr9, hz9, hl9, hm9, Below.set2 HB.out (by omega) _ _⟩
  · have hck : ¬ (c = k) := by omega
    clear hp
    have HSA : Hid (∀ W', Below w3.heap.size w3 W' → W'.cell? ⟨w.heap.size, 0, none⟩ = some (.int .i64 f0) ∧ W'.cell? ⟨w.heap.size, 1, none⟩ = some (.slice (some ad) n c)) := Lib.hid (fun W' hb => by
      obtain ⟨a0, a1, -, -⟩ := (show FoAt W' w.heap.size f0 (some ad) n c from BoxAt.next HF3.out hb (Nat.le_refl _)).cells
      exact ⟨a0, a1⟩)
    have hL := HLD.out
    obtain ⟨NQ, hNQ⟩ : ∃ NQ, L.length = NQ := ⟨_, rfl⟩
    have HNQ := Lib.hid hNQ
    have hr3 := HR.out.below HB3.out (Nat.le_refl _)
    have KC : Hid (∀ Wq sb, Below w3.heap.size w3 Wq → BoxAt Wq sb 23 #[.slice (some ad) k c, .slice (some (ad.add (p * 3))) (n - p) (c - p)] → Calls Tryd.prog 20 #[.slice (some ⟨sb, 0, none⟩) 2 2] Wq (OwnRet Wq.heap.size L Wq)) := Lib.hid (fun Wq sb hb hs => by
      rw [← hL]
      exact joined2_c (k := k) HN.out (by omega) hr3 (by omega) (by rw [HPP.out]) (by rw [← HPP.out]; exact hr3.drop (k + 1)) (fun e => by cases e) hb hs)
    have h34 := BoxAt.lt HZ3.out
    have hsz3 := HB3.out.size
    have hwf := BoxAt.lt HF3.out
    have qA := two_new w3 #[.int .i64 0, .slice none 0 0] #[.slice (some ad) k c, .slice (some (ad.add (p * 3))) (n - p) (c - p)] 25 23
    have kA := Lib.hid (KC.out _ _ qA.2.2 qA.2.1)
    have qC := two_new w3 #[.slice (some ad) k c, .slice (some (ad.add (p * 3))) (n - p) (c - p)] #[.int .i64 0, .slice none 0 0] 23 25
    have kC := Lib.hid (KC.out _ _ qC.2.2 qC.1)
    have gD : Below w3.heap.size w3 (w3.alloc (.cells #[.slice (some ad) k c, .slice (some (ad.add (p * 3))) (n - p) (c - p)] 23)).drew := ((Below.refl _ w3).alloc (Nat.le_refl _) _).drew
    have kD := Lib.hid (KC.out _ _ gD (show BoxAt _ w3.heap.size _ _ from heap_alloc_new w3 _))
    have mA := Lib.hid (fun wq A cq ho hq => made_set (w := w) (wq := wq) (f0 := f0) (L := L) (A := A) (n := NQ) (cap := cq) (b4 := w.heap.size + 1) hNQ ho hq (show FoAt _ (w3.heap.size) 0 none 0 0 from qA.1) (HB3.out.trans (qA.2.2.mono hsz3)) (BoxAt.next HZ3.out qA.2.2 (Nat.le_refl _)) (by omega) (by omega))
    have fA := Lib.hid qA.2.2
    have bA := Lib.hid (show FoAt _ (w3.heap.size) 0 none 0 0 from qA.1)
    have mC := Lib.hid (fun wq A cq ho hq => made_set (w := w) (wq := wq) (f0 := f0) (L := L) (A := A) (n := NQ) (cap := cq) (b4 := w.heap.size + 1) hNQ ho hq (show FoAt _ (w3.heap.size + 1) 0 none 0 0 from qC.2.1) (HB3.out.trans (qC.2.2.mono hsz3)) (BoxAt.next HZ3.out qC.2.2 (Nat.le_refl _)) (by omega) (by omega))
    have fC := Lib.hid qC.2.2
    have bC := Lib.hid (show FoAt _ (w3.heap.size + 1) 0 none 0 0 from qC.2.1)
    have mD := Lib.hid (fun wq A cq ho hq => made_new (w := w) (wq := wq) (f0 := f0) (L := L) (A := A) (n := NQ) (cap := cq) (b4 := w.heap.size + 1) hNQ ho hq (HB3.out.trans (gD.mono hsz3)) (BoxAt.next HZ3.out gD (Nat.le_refl _)))
    have fD := Lib.hid gD
    have hSA := HSA.out _ fA.out
    have hSC := HSA.out _ fC.out
    have hSD := HSA.out _ fD.out
    have hS2 := HSA.out _ ((Below.refl w3.heap.size w3).alloc (Nat.le_refl _) (.cells #[.int .i64 0, .slice none 0 0] 25)).drew
    have hS0 := HSA.out _ (Below.refl w3.heap.size w3).drew
    have HLL : Hid (L.length ≤ 1000) := Lib.hid (by rw [← hL]; have := HN.out; simp [delA]; omega)
    clear qA qC gD KC hr3 hL hNQ h34 hsz3 hwf
    go_cut [7] (fun v wx => Hid (Made w f0 L (w.heap.size + 1) v wx))
    case first => as_aux_lemma =>
      go_region_held3 (fun w' => w'.cell? ⟨w.heap.size, 0, none⟩ = some (.int .i64 f0) ∧ w'.cell? ⟨w.heap.size, 1, none⟩ = some (.slice (some ad) n c)) (first | with_reducible exact hS0 | with_reducible exact hSq | with_reducible exact hSA | with_reducible exact hSC | with_reducible exact hSD | with_reducible exact hS2 | with_reducible exact hSq2 | with_reducible exact hSq3 | with_reducible exact hSq4 | go_keep)
        (first
          | (go_at_call 20; (with_reducible refine (kA.out).mono ?_); rintro e wq ⟨vq, rfl, ho, hq⟩; obtain ⟨Aq, cq, hv, -, -, -, -⟩ := ho.row; rw [HNQ.out] at hv; subst hv; have HM1 := Lib.hid (mA.out wq Aq cq ho hq); obtain ⟨y0, y1, y2, y3⟩ := (show FoAt wq (w3.heap.size) 0 none 0 0 from BoxAt.next bA.out hq (Nat.le_refl _)).cells; have hbq := fA.out.trans (hq.mono fA.out.size); have hSq := HSA.out wq hbq; have hSq4 := HSA.out _ (Below.set2 hbq (show w3.heap.size ≤ w3.heap.size by omega) (.int .i64 f0) (.slice Aq NQ cq)); clear ho hq hbq)
          | (go_at_call 20; (with_reducible refine (kC.out).mono ?_); rintro e wq ⟨vq, rfl, ho, hq⟩; obtain ⟨Aq, cq, hv, -, -, -, -⟩ := ho.row; rw [HNQ.out] at hv; subst hv; have HM1 := Lib.hid (mC.out wq Aq cq ho hq); obtain ⟨y0, y1, y2, y3⟩ := (show FoAt wq (w3.heap.size + 1) 0 none 0 0 from BoxAt.next bC.out hq (Nat.le_refl _)).cells; have hbq := fC.out.trans (hq.mono fC.out.size); have hSq := HSA.out wq hbq; have hSq4 := HSA.out _ (Below.set2 hbq (show w3.heap.size ≤ w3.heap.size + 1 by omega) (.int .i64 f0) (.slice Aq NQ cq)); clear ho hq hbq)
          | (go_at_call 20; (with_reducible refine (kD.out).mono ?_); rintro e wq ⟨vq, rfl, ho, hq⟩; obtain ⟨Aq, cq, hv, -, -, -, -⟩ := ho.row; rw [HNQ.out] at hv; subst hv; have HM1 := Lib.hid (mD.out wq Aq cq ho hq); have hbq := fD.out.trans (hq.mono fD.out.size); have hSq := HSA.out wq hbq; have hSq2 := HSA.out _ (hbq.alloc hbq.size (.cells #[.int .i64 0, .slice none 0 0] 25)); have hSq3 := HSA.out _ (hbq.alloc hbq.size (.cells #[.int .i64 f0, .slice Aq NQ cq] 25)); clear ho hq hbq))
      all_goals
        go_wp2_with fail
        go_meet
        exact HM1
    case rest =>
      obtain ⟨X, Aq, cq, m, base, hm, rfl, hfx, ho, hb4, hb, h4, hne, hXl, hwX, hown⟩ := hcut.out
      obtain ⟨t0, t1, t2, t3⟩ := FoAt.cells hfx
      obtain ⟨y0, y1, y2, y3⟩ := FoAt.cells h4
      have HFX := Lib.hid hfx
      have HO := Lib.hid ho
      have H4 := Lib.hid h4
      have HB := Lib.hid hb
      have HML := Lib.hid hm
      have HOW := Lib.hid hown
      clear hfx ho h4 hb hm hcut hown HNQ HSA kA kC kD mA mC mD fA fC fD bA bC hSA hSC hSD hS0 hS2 HZ3 HF3 HB3
      by_cases hfi : f0 = id
      · subst hfi
        obtain rfl : C0 = -1 := by rw [← HC0.out, if_pos rfl]
        have HF2 := Lib.hid (show BoxAt (wc.setCell ⟨X, 0, none⟩ (.int .i64 (-1))) X 25 #[.int .i64 (-1), .slice Aq m cq] from BoxAt.set (j := 0) HFX.out (.int .i64 (-1)))
        obtain ⟨s0, s1, -, -⟩ := (show FoAt (wc.setCell ⟨X, 0, none⟩ (.int .i64 (-1))) X (-1) Aq m cq from HF2.out).cells
        have H42 := Lib.hid (show FoAt (wc.setCell ⟨X, 0, none⟩ (.int .i64 (-1))) (w.heap.size + 1) 0 none 0 0 from BoxAt.other (a := ⟨X, 0, none⟩) H4.out (Ne.symm hne) _)
        obtain ⟨r0, r1, r2, r3⟩ := H42.out.cells
        go_wp2_with fail
        refine bodyPost_ret (res_box rfl _ (w.heap.size + 1) #[.int .i64 (-1), .slice Aq m cq] _ _ rfl rfl (H42.out.set (-1) Aq m cq) Tryd.underlying25 rfl (by kernel_rfl)) rfl ?_
        have ho6 := ((HO.out.setOther (a := ⟨X, 0, none⟩) HOW.out (.int .i64 (-1))).setCell (a := ⟨w.heap.size + 1, 0, none⟩) hb4 (.int .i64 (-1))).setCell (a := ⟨w.heap.size + 1, 1, none⟩) hb4 (.slice Aq m cq)
        obtain ⟨A9, c9, hv9, hl9, hm9, hr9, hz9⟩ := ho6.row
        rw [HML.out] at hv9 hl9
        injection hv9 with hv91 hv92 hv93
        subst hv91 hv93
        exact ⟨Aq, cq, m, HML.out, rfl, hr9, hz9, hl9, hm9, Below.set2 (HB.out.setCell hwX _) (by omega) _ _⟩
      · obtain rfl : f0 = C0 := by rw [← HC0.out, if_neg hfi]
        have hfi' : (f0 == id) = false := by simp [hfi]
        go_wp2_with fail
        refine bodyPost_ret (res_box rfl _ (w.heap.size + 1) #[.int .i64 f0, .slice Aq m cq] _ _ rfl rfl (H4.out.set f0 Aq m cq) Tryd.underlying25 rfl (by kernel_rfl)) rfl ?_
        have ho6 := (HO.out.setCell (a := ⟨w.heap.size + 1, 0, none⟩) hb4 (.int .i64 f0)).setCell (a := ⟨w.heap.size + 1, 1, none⟩) hb4 (.slice Aq m cq)
        obtain ⟨A9, c9, hv9, hl9, hm9, hr9, hz9⟩ := ho6.row
        rw [HML.out] at hv9 hl9
        injection hv9 with hv91 hv92 hv93
        subst hv91 hv93
        exact ⟨Aq, cq, m, HML.out, rfl, hr9, hz9, hl9, hm9, Below.set2 HB.out (by omega) _ _⟩
end Go.Proofs.YtmoifjaaencjbaaDoor
