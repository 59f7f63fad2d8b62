/- CoreKnown. -/
import Derived.Test.YtandmngfajoinaaGreatDoorCab
import Derived.Test.YtandmngfajoinaaGreatDoorYi
namespace Go.Proofs.YtandmngfajoinaaGreatDoor.Po
open Go.RowKit Go.Maps

def ck1 : List TI := [(1, 2, 0, 465585120)]
def ck2 : List TI := [(1, 2, 0, 465585120), (2, 3, -50, 310390030)]
def ck3 : List TI := [(1, 2, 0, 465585120), (2, 3, 77597470, 310390030)]
def ck4 : List TI := [(1, 4, 0, 232792560), (2, 3, 77597470, 310390030)]
def ckL : List RI := [(1, 4, 0), (2, 3, -77597470)]
theorem ck_enter : entC 0 false 0 [] (1, 2, 0) = (0, 0, ck1) ∧ entC 0 true 0 ck1 (2, 3, 50) = (0, 0, ck2) ∧ entC 0 false 0 ck2 (2, 3, 50) = (4, 0, ck2) := by
  refine ⟨?_, ?_, ?_⟩ <;> decide +kernel
theorem quad4 {α β γ δ : Type} {p : α × β × γ × δ} {a : α} {b : β} {c : γ} {d : δ} (h1 : p.1 = a) (h2 : p.2.1 = b) (h3 : p.2.2.1 = c) (h4 : p.2.2.2 = d) : p = (a, b, c, d) := by
  obtain ⟨x, y, z, u⟩ := p
  simp only at h1 h2 h3 h4
  rw [h1, h2, h3, h4]
theorem quin5 {α β γ δ ε : Type} {p : α × β × γ × δ × ε} {a : α} {b : β} {c : γ} {d : δ} {e : ε} (h1 : p.1 = a) (h2 : p.2.1 = b) (h3 : p.2.2.1 = c) (h4 : p.2.2.2.1 = d) (h5 : p.2.2.2.2 = e) : p = (a, b, c, d, e) := by
  obtain ⟨x, y, z, u, v⟩ := p
  simp only at h1 h2 h3 h4 h5
  rw [h1, h2, h3, h4, h5]
theorem ck_run : chargeU 0 (pickPC 0 (-1) ck2) ck2 = (2, 0, 0, ck3) ∧ pickPC 0 (-1) ck2 = 2 :=
  ⟨quad4 (by decide +kernel) (by decide +kernel) (by decide +kernel) (by decide +kernel), by decide +kernel⟩
theorem ck_more : leaveU 0 2 ck3 9 = (0, 2, 0, 2, ck3) ∧ weighU ck3 1 4 = (0, ck4) ∧ allT ck4 = 7 :=
  ⟨quin5 (by decide +kernel) (by decide +kernel) (by decide +kernel) (by decide +kernel) (by decide +kernel), by decide +kernel, by decide +kernel⟩
theorem ck_form : formU 0 ck2 = [(1, 2, 0), (2, 3, 50)] ∧ formU 0 ck4 = ckL ∧ goodV 2 ckL = true ∧ goodV 0 [] = false := by
  refine ⟨?_, ?_, ?_, ?_⟩ <;> decide +kernel
theorem ck_same : sameB (-1) 2 (formU 0 (seedU 0 [])) ckL = false ∧ sameB 2 2 ckL ckL = true := by
  refine ⟨?_, ?_⟩ <;> decide +kernel
theorem ck_ten {n : Nat} (h : ¬ n < 10) : Lib.decDigits n = Lib.decDigits (n / 10) ++ [UInt8.ofNat (48 + n % 10)] := by rw [Lib.decDigits, dif_neg h]
theorem ck_fifty : Lib.itoa 50 = [53, 48] := by
  have e : (50 : Int) = ((50 : Nat) : Int) := rfl
  rw [e, Lib.itoa_nonneg, ck_ten (by decide), Lib.decDigits_one (by decide)]
  rfl
theorem ck_text : textL (-1) [(1, 2, 0), (2, 3, 50)] = [45, 49, 58, 32, 49, 47, 50, 47, 48, 32, 50, 47, 51, 47, 53, 48] := by
  have e0 : Lib.itoa 0 = [48] := itoa_digit (n := 0) (by omega)
  have e1 : Lib.itoa 1 = [49] := itoa_digit (n := 1) (by omega)
  have e2 : Lib.itoa 2 = [50] := itoa_digit (n := 2) (by omega)
  have e3 : Lib.itoa 3 = [51] := itoa_digit (n := 3) (by omega)
  have em : Lib.itoa (-1) = [45, 49] := itoa_minus (n := 1) (by omega) (by omega)
  simp [textL, itemsT, itemT, ck_fifty, e0, e1, e2, e3, em]
theorem ck_small : ∀ r ∈ ([(1, 2, 0), (2, 3, 50)] : List RI), SmR r := by
  intro r hr
  simp at hr
  rcases hr with rfl | rfl <;> refine ⟨⟨?_, ?_⟩, ⟨?_, ?_⟩, ⟨?_, ?_⟩⟩ <;> decide

set_option maxRecDepth 100000 in
set_option maxHeartbeats 16000000 in
theorem cknown_c (W : World) (ht : Tab W) : Calls Tryz.prog 3 #[] W fun e w' => e = .returned (.bool true) ∧ Below W.heap.size W w' := by
  have HT := Lib.hid ht
  clear ht
  have K0 := Lib.hid (awake15_c W)
  go_enter Tryz.func3, Tryz.ntmps3
  go_wp2_with fail
  refine K0.out.mono ?_
  rintro e w1 ⟨rfl, hb⟩
  have K := Lib.hid (cnew_in 3 0 hb (F := fun _ => False) (fun _ h => h.elim))
  have B1 := Lib.hid hb
  clear hb K0
  go_wp2_with fail
  refine K.out.mono ?_
  intro e w2 h
  unfold CSeedP at h
  rw [if_neg (fun hh => by have := hh.1; unfold Tag at this; omega)] at h
  obtain ⟨rfl, hb⟩ := h
  have B2 := Lib.hid (B1.out.trans (hb.mono B1.out.size))
  have K := Lib.hid (cseed_in 0 0 0 none 0 0 [] (W := W) (w := w2) (F := fun _ => False) rfl (by omega) TRow.nil B2.out (fun _ h => h.elim))
  clear hb B1
  go_wp2_with fail
  refine K.out.mono ?_
  intro e w3 h
  unfold CSeedP at h
  rw [if_neg (fun hh => by have := hh.2.1; rw [ck_form.2.2.2] at this; exact Bool.false_ne_true this)] at h
  obtain ⟨rfl, hb⟩ := h
  have B3 := Lib.hid (B2.out.trans (hb.mono B2.out.size))
  have K := Lib.hid (cnew_in 0 0 B3.out (F := fun _ => False) (fun _ h => h.elim))
  clear hb B2
  go_wp2_with fail
  refine K.out.mono ?_
  intro e w4 h
  unfold CSeedP at h
  rw [if_pos ⟨.inl rfl, good_none, by decide, by decide⟩] at h
  obtain ⟨o, rfl, hc, -⟩ := h
  have K := center_in (1, 2, 0) false hc (by omega) (by omega) (by omega) (by omega)
  rw [show seedU 0 [] = [] from rfl, ck_enter.1] at K
  have K := Lib.hid K
  clear hc B3
  go_wp2_with fail
  refine K.out.mono ?_
  rintro e w5 ⟨rfl, hc, -⟩
  have K := center_in (2, 3, 50) true hc (by omega) (by omega) (by omega) (by omega)
  rw [ck_enter.2.1] at K
  have K := Lib.hid K
  clear hc
  go_wp2_with fail
  refine K.out.mono ?_
  rintro e w6 ⟨rfl, hc, -⟩
  have K := center_in (2, 3, 50) false hc (by omega) (by omega) (by omega) (by omega)
  rw [ck_enter.2.2] at K
  have K := Lib.hid K
  clear hc
  go_wp2_with fail
  refine K.out.mono ?_
  rintro e w7 ⟨rfl, hc, -⟩
  have H : Hid (CIn 0 W w7 o 0 (-1) ck2 (fun _ => 0) 0 2 4072 3 (fun _ => False)) := Lib.hid hc
  have K := cform_in hc
  rw [ck_form.1, show ck2.length = 2 from rfl] at K
  have K := Lib.hid K
  clear hc
  go_wp2_with fail
  refine K.out.mono ?_
  rintro e w8 ⟨A, c, rfl, hT, hb⟩
  have hc := H.out.below hb
  have K1 := text_c (-1) A 2 c [(1, 2, 0), (2, 3, 50)] w8 rfl (by decide) hT (HT.out.below hc.frame (Nat.le_refl _)) ⟨by decide, by decide⟩ ck_small
  rw [ck_text] at K1
  have K1 := Lib.hid K1
  have H2 := Lib.hid hc
  clear hT hb hc K H
  go_wp2_with fail
  refine K1.out.mono ?_
  rintro e w9 ⟨rfl, hb⟩
  have hc := H2.out.below hb
  have K := crun_ok ck_run.1 (wf64_of (by omega) (by omega)) hc (by omega) (by omega)
  rw [ck_run.2] at K
  have K := Lib.hid K
  clear hc hb H2 K1
  go_wp2_with fail
  refine K.out.mono ?_
  rintro e w10 ⟨rfl, hc, -⟩
  have K := cleave_in 9 hc (wf64_of (by omega) (by omega)) (by omega) (by omega)
  rw [ck_more.1] at K
  have K := Lib.hid K
  clear hc
  go_wp2_with fail
  refine K.out.mono ?_
  rintro e w11 ⟨rfl, hc, -⟩
  have K := cweigh_in 1 4 hc (wf64_of (by omega) (by omega)) (wf64_of (by omega) (by omega)) (by omega) (by omega)
  rw [ck_more.2.1] at K
  have K := Lib.hid K
  clear hc
  go_wp2_with fail
  refine K.out.mono ?_
  rintro e w12 ⟨rfl, hc, -⟩
  have H : Hid (CIn 0 W w12 o 0 2 ck4 (incC (fun _ => 0) 2) 0 4 4144 7 (fun _ => False)) := Lib.hid hc
  have K := cload_in hc
  rw [ck_more.2.2] at K
  have K := Lib.hid K
  clear hc
  go_wp2_with fail
  refine K.out.mono ?_
  rintro e w13 ⟨rfl, hb⟩
  have hc := H.out.below hb
  have H2 := Lib.hid hc
  have KG := Lib.hid (cage_in hc)
  clear hb hc K H
  go_wp2_with fail
  refine KG.out.mono ?_
  rintro e w14 ⟨rfl, rfl⟩
  have K := cform_in H2.out
  rw [ck_form.2.1, show ck4.length = 2 from rfl] at K
  have K := Lib.hid K
  clear KG
  go_wp2_with fail
  refine K.out.mono ?_
  rintro e w15 ⟨A, c, rfl, hT, hb⟩
  have hc := H2.out.below hb
  have K1 := Lib.hid (sseed_p 2 12345 A 2 c ckL w15 1 rfl (by omega) hT)
  have H := Lib.hid hc
  clear hT hb hc K H2
  go_wp2_with fail
  refine K1.out.mono ?_
  intro e w16 h
  unfold SeedP at h
  rw [if_pos ⟨.inr (.inl rfl), ck_form.2.2.1, by decide, by decide⟩] at h
  obtain ⟨q, Aq, st, rfl, hq, s1, s2, hn, hb⟩ := h
  have hqs : SIn 1 W w16 q 12345 2 (seedU 12345 ckL) 4000 (fun k => k < w15.heap.size) := seed_in H.out.frame (fun _ h => h) hq s1 s2 hn hb
  have HQ := Lib.hid (And.intro hb hqs)
  have K := Lib.hid (pnew_p 1 0 w16)
  clear hq s1 s2 hn hb hqs K1
  go_wp2_with fail
  refine K.out.mono ?_
  intro e w17 h
  unfold SeedP at h
  rw [if_pos ⟨.inr (.inl rfl), good_none, by decide, by decide⟩] at h
  obtain ⟨q2, Aq, st, rfl, hq, s1, s2, hn, hb⟩ := h
  have hbq := HQ.out.1
  have hbW := H.out.frame.trans (hbq.mono H.out.frame.size)
  have hq2 : SIn 1 W w17 q2 0 (-1) (seedU 0 []) 4000 (fun k => k < w15.heap.size) := seed_in hbW (fun k hk => by have := hbq.size; omega) hq s1 s2 hn hb
  have hb17 : Below w15.heap.size w15 w17 := hbq.trans (hb.mono hbq.size)
  have HQ2 := Lib.hid (And.intro hb17 (And.intro hq2 (HQ.out.2.below hb)))
  have K := Lib.hid (cchange_nil (H.out.below hb17))
  clear hq s1 s2 hn hb hbq hbW hq2 hb17 HQ
  go_wp2_with fail
  refine K.out.mono ?_
  rintro e w18 ⟨rfl, rfl⟩
  have K := cchange_in H.out HQ2.out.1 HQ2.out.2.1
  rw [ck_form.2.1, ck_same.1] at K
  have K := Lib.hid K
  go_wp2_with fail
  refine K.out.mono ?_
  intro e w18 h
  rw [if_neg (by decide)] at h
  obtain ⟨rfl, hb⟩ := h
  have K := cchange_in H.out (HQ2.out.1.trans (hb.mono HQ2.out.1.size)) (HQ2.out.2.2.below hb)
  rw [formU_seed, ck_form.2.1, ck_same.2] at K
  have K := Lib.hid K
  clear hb HQ2 H
  go_wp2_with fail
  refine K.out.mono ?_
  intro e w19 h
  rw [if_pos trivial] at h
  obtain ⟨rfl, hc, -⟩ := h
  have KT := Lib.hid (ctag_in hc)
  have KG := Lib.hid (cage_in hc)
  have K2 := Lib.hid (cserved_in 2 (wf64_of (by omega) (by omega)) hc)
  have K1 := Lib.hid (cserved_in 1 (wf64_of (by omega) (by omega)) hc)
  have KI := Lib.hid (cidle_in hc)
  have HB := Lib.hid hc.frame
  rw [show incC (fun _ => 0) 2 2 = 1 from rfl] at K2
  rw [show incC (fun _ => 0) 2 1 = 0 from rfl] at K1
  clear hc K
  go_wp2_with fail
  refine KT.out.mono ?_
  rintro e w20 ⟨rfl, rfl⟩
  go_wp2_with fail
  refine KG.out.mono ?_
  rintro e w20 ⟨rfl, rfl⟩
  go_wp2_with fail
  refine K2.out.mono ?_
  rintro e w20 ⟨rfl, rfl⟩
  go_wp2_with fail
  refine K1.out.mono ?_
  rintro e w20 ⟨rfl, rfl⟩
  go_wp2_with fail
  refine KI.out.mono ?_
  rintro e w20 ⟨rfl, rfl⟩
  clear KT KG K2 K1 KI
  go_wp2_with fail
  go_ret
  exact ⟨rfl, HB.out⟩
end Go.Proofs.YtandmngfajoinaaGreatDoor.Po
