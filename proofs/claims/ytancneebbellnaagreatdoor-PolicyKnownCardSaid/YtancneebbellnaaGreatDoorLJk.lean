/- PolicyKnown. -/
import Derived.Test.YtancneebbellnaaGreatDoorJg
namespace Go.Proofs.YtancneebbellnaaGreatDoor.Po
open Go.RowKit Go.Maps

theorem known_no {t base f0 : Int} {l : List RI} {w w' : World} {e : Ending} (hn : ¬ (Tag t ∧ SdOk base f0 l)) (h : SeedP t base f0 l w e w') : e = .returned (.tuple #[.pointer none, .int .i64 1]) ∧ Below w.heap.size w w' := by
  unfold SeedP at h
  rwa [if_neg hn] at h
/-- A queue, whatever is laid behind it. -/
def QAt (t : Int) (wq : World) (p : Nat) : Prop := ∃ A st base cur T, IsW t wq p A st base cur T
theorem known_yes {t : Int} {w w' : World} {e : Ending} (ht : Tag t) (h : SeedP t 0 (-1) [] w e w') : ∃ p, e = .returned (.tuple #[.pointer (some ⟨p, 0, none⟩), .int .i64 0]) ∧ QAt t w' p ∧ Below w.heap.size w w' := by
  unfold SeedP at h
  rw [if_pos ⟨ht, good_none, by decide, by decide⟩] at h
  obtain ⟨p, A, st, he, hq, _, _, _, hb⟩ := h
  exact ⟨p, he, ⟨A, st, _, _, _, hq⟩, hb⟩
theorem QAt.below {t : Int} {w w' : World} {p : Nat} (h : QAt t w p) (hb : Below w.heap.size w w') : QAt t w' p := by
  obtain ⟨A, st, base, cur, T, h⟩ := h
  exact ⟨A, st, base, cur, T, h.below hb⟩
theorem QAt.held {t : Int} {wq W : World} {p : Nat} (x y : Int) (h : QAt t wq p) (hk : Kinds wq) (hb : Below wq.heap.size wq W) (h1 : -1125899906842624 ≤ x) (h2 : x ≤ 1125899906842624) (hy : heldP t x = y) :
    Calls Tryz.prog 13 #[.pointer (some ⟨p, 0, none⟩), .int .i64 x] W fun e w' => e = .returned (.int .i64 y) ∧ Below wq.heap.size wq w' := by
  obtain ⟨A, st, base, cur, T, h⟩ := h
  refine (pheld_k x (wf64_of (by omega) (by omega)) (h.below hb) (hk.below hb (Nat.le_refl _))).mono ?_
  rintro e w' ⟨he, hb'⟩
  exact ⟨by rw [he, hy], hb.trans (hb'.mono hb.size)⟩
set_option maxRecDepth 100000 in
set_option maxHeartbeats 16000000 in
theorem sknown_c (w : World) (hk : Kinds w) : Calls Tryz.prog 3 #[] w fun e w' => e = .returned (.bool true) ∧ Below w.heap.size w w' := by
  have HK := Lib.hid hk
  clear hk
  go_enter Tryz.func3, Tryz.ntmps3
  go_wp2_with fail
  refine (awake14_c w HK.out).mono ?_
  rintro e w0 ⟨rfl, hb⟩
  have HB0 := Lib.hid hb
  clear hb
  go_wp2_with fail
  refine (pnew_p 3 0 w0).mono ?_
  intro e w1 h
  obtain ⟨rfl, hb⟩ := known_no (fun hh => absurd hh.1 (by decide)) h
  have HB1 := Lib.hid (HB0.out.trans (hb.mono HB0.out.size))
  clear hb h
  go_wp2_with fail
  refine (pnew_p (-1) 0 w1).mono ?_
  intro e w2 h
  obtain ⟨rfl, hb⟩ := known_no (fun hh => absurd hh.1 (by decide)) h
  have HB2 := Lib.hid (HB1.out.trans (hb.mono HB1.out.size))
  clear hb h
  go_wp2_with fail
  refine (sseed_p (-1) 0 none 0 0 [] w2 3 rfl (by omega) TRow.nil).mono ?_
  intro e w3 h
  obtain ⟨rfl, hb⟩ := known_no (fun hh => absurd hh.1 (by decide)) h
  have HB3 := Lib.hid (HB2.out.trans (hb.mono HB2.out.size))
  clear hb h
  go_wp2_with fail
  refine (sseed_p 0 0 none 0 0 [] w3 0 rfl (by omega) TRow.nil).mono ?_
  intro e w4 h
  obtain ⟨rfl, hb⟩ := known_no (fun hh => absurd hh.2.1 (by decide +kernel)) h
  have HB4 := Lib.hid (HB3.out.trans (hb.mono HB3.out.size))
  clear hb h
  go_wp2_with fail
  refine (pnew_p 0 0 w4).mono ?_
  intro e w5 h
  obtain ⟨p0, rfl, hq, hb⟩ := known_yes (.inl rfl) h
  have HB5 := Lib.hid (HB4.out.trans (hb.mono HB4.out.size))
  have HQ0 := Lib.hid hq
  clear hb h hq
  go_wp2_with fail
  refine (pnew_p 1 0 w5).mono ?_
  intro e w6 h
  obtain ⟨p1, rfl, hq, hb⟩ := known_yes (.inr (.inl rfl)) h
  have HB6 := Lib.hid (HB5.out.trans (hb.mono HB5.out.size))
  have HQ1 := Lib.hid hq
  have HQ0 := Lib.hid (HQ0.out.below hb)
  clear hb h hq
  go_wp2_with fail
  refine (pnew_p 2 0 w6).mono ?_
  intro e w7 h
  obtain ⟨p2, rfl, hq, hb⟩ := known_yes (.inr (.inr rfl)) h
  have HB7 := Lib.hid (HB6.out.trans (hb.mono HB6.out.size))
  have HQ2 := Lib.hid hq
  have HQ0 := Lib.hid (HQ0.out.below hb)
  have HQ1 := Lib.hid (HQ1.out.below hb)
  clear hb h hq
  have HK7 := Lib.hid (HK.out.below HB7.out (Nat.le_refl _))
  have HR := Lib.hid (Below.refl w7.heap.size w7)
  clear HK HB0 HB1 HB2 HB3 HB4 HB5 HB6
  have kg0 := pgood_k 3 w7
  rw [decide_eq_false (show ¬ Tag 3 by decide)] at kg0
  have KG0 := Lib.hid kg0
  clear kg0
  have kg1 := pgood_k (-1) w7
  rw [decide_eq_false (show ¬ Tag (-1) by decide)] at kg1
  have KG1 := Lib.hid kg1
  clear kg1
  have kn0 := pname_k 0 w7 HK7.out
  rw [show nameP 0 = ⟨#[115, 116, 114, 105, 100, 101]⟩ from rfl] at kn0
  have KN0 := Lib.hid kn0
  clear kn0
  have kn1 := pname_k 2 w7 HK7.out
  rw [show nameP 2 = ⟨#[100, 117, 101]⟩ from rfl] at kn1
  have KN1 := Lib.hid kn1
  clear kn1
  have kn2 := pname_k 3 w7 HK7.out
  rw [show nameP 3 = ⟨#[63]⟩ from rfl] at kn2
  have KN2 := Lib.hid kn2
  clear kn2
  go_wp2_with fail
  refine KG0.out.mono ?_
  rintro e w8 ⟨rfl, rfl⟩
  go_wp2_with fail
  refine KG1.out.mono ?_
  rintro e w8 ⟨rfl, rfl⟩
  go_wp2_with fail
  refine KN0.out.mono ?_
  rintro e w8 ⟨rfl, rfl⟩
  go_wp2_with fail
  refine KN1.out.mono ?_
  rintro e w8 ⟨rfl, rfl⟩
  go_wp2_with fail
  refine KN2.out.mono ?_
  rintro e w8 ⟨rfl, rfl⟩
  clear KG0 KG1 KN0 KN1 KN2
  go_wp2_with fail
  refine (HQ0.out.held (W := w7) 5 0 HK7.out HR.out (by decide) (by decide) (by decide)).mono ?_
  rintro e v1 ⟨rfl, hb⟩
  have HR1 := Lib.hid hb
  clear hb
  go_wp2_with fail
  refine (HQ0.out.held (W := v1) (-5) (-5) HK7.out HR1.out (by decide) (by decide) (by decide)).mono ?_
  rintro e v2 ⟨rfl, hb⟩
  have HR2 := Lib.hid hb
  clear hb
  go_wp2_with fail
  refine (HQ1.out.held (W := v2) 1099511627776 698377680 HK7.out HR2.out (by decide) (by decide) (by decide)).mono ?_
  rintro e v3 ⟨rfl, hb⟩
  have HR3 := Lib.hid hb
  clear hb
  go_wp2_with fail
  refine (HQ1.out.held (W := v3) (-1099511627776) (-1099511627776) HK7.out HR3.out (by decide) (by decide) (by decide)).mono ?_
  rintro e v4 ⟨rfl, hb⟩
  have HR4 := Lib.hid hb
  clear hb
  go_wp2_with fail
  refine (HQ2.out.held (W := v4) 1099511627776 698377680 HK7.out HR4.out (by decide) (by decide) (by decide)).mono ?_
  rintro e v5 ⟨rfl, hb⟩
  have HR5 := Lib.hid hb
  clear hb
  go_wp2_with fail
  refine (HQ2.out.held (W := v5) (-1099511627776) (-698377680) HK7.out HR5.out (by decide) (by decide) (by decide)).mono ?_
  rintro e v6 ⟨rfl, hb⟩
  have HR6 := Lib.hid hb
  clear hb
  go_wp2_with fail
  refine (HQ2.out.held (W := v6) 7 7 HK7.out HR6.out (by decide) (by decide) (by decide)).mono ?_
  rintro e v7 ⟨rfl, hb⟩
  have HR7 := Lib.hid hb
  clear hb
  have KT : Hid (Calls Tryz.prog 14 #[.pointer (some ⟨p1, 0, none⟩)] v7 fun e w' => e = .returned (.int .i64 1) ∧ v7 = w') := Lib.hid (by
    obtain ⟨A, st, base, cur, T, h⟩ := HQ1.out
    exact ptag_k v7 (h.below HR7.out))
  go_wp2_with fail
  refine KT.out.mono ?_
  rintro e w8 ⟨rfl, rfl⟩
  have HBZ := Lib.hid (HB7.out.trans (HR7.out.mono HB7.out.size))
  clear KT HQ0 HQ1 HQ2 HR1 HR2 HR3 HR4 HR5 HR6 HR7 HR HK7
  go_wp2_with fail
  go_ret
  exact ⟨rfl, HBZ.out⟩
end Go.Proofs.YtancneebbellnaaGreatDoor.Po
