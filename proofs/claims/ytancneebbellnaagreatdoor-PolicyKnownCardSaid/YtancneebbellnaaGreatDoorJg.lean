/- policy's laws: awake; a queue made of a form, as a law makes it. -/
import Derived.Test.YtancneebbellnaaGreatDoorJd
namespace Go.Proofs.YtancneebbellnaaGreatDoor.Po
open Go.RowKit Go.Maps

theorem seed_in {t : Int} {W w w' : World} {p : Nat} {A F : Nat → Prop} {st base f0 : Int} {T : List TI} (hb : Below W.heap.size W w) (hF : ∀ k, F k → k < w.heap.size) (hq : IsW t w' p A st base f0 T) (s1 : 0 ≤ st) (s2 : st ≤ 4000) (hn : ∀ k, A k → w.heap.size ≤ k) (hb' : Below w.heap.size w w') : SIn t W w' p base f0 T 4000 F :=
  ⟨A, st, hq, s1, by omega, fun k hk => by have := hn k hk; have := hb.size; omega, hb.trans (hb'.mono hb.size), fun k hk => ⟨by have := hF k hk; have := hb'.size; omega, fun hq' => by have := hn k hq'; have := hF k hk; omega⟩⟩
theorem sheld_in {t : Int} {W w : World} {s S : Nat} {base cur : Int} {R : List TI} {F : Nat → Prop} (x : Int) (hx : wf64 x) (hk : Kinds W) (h : SIn t W w s base cur R S F) :
    Calls Tryz.prog 13 #[.pointer (some ⟨s, 0, none⟩), .int .i64 x] w fun e w' => e = .returned (.int .i64 (heldP t x)) ∧ Below w.heap.size w w' := by
  have hk' := hk.below h.frame (Nat.le_refl _)
  obtain ⟨A, st, h1, _⟩ := h
  exact pheld_k x hx h1 hk'
theorem run_none : chargeU 0 (pickPC 0 (-1) (seedU 0 [])) (seedU 0 []) = (0, 14, 0, []) := rfl
set_option maxRecDepth 100000 in
set_option maxHeartbeats 4000000 in
theorem awake14_c (w : World) (hk : Kinds w) : Calls Tryz.prog 8 #[] w fun e w' => e = .returned (.bool true) ∧ Below w.heap.size w w' := by
  have HK := Lib.hid hk
  clear hk
  go_enter Tryz.func8, Tryz.ntmps8
  go_wp2_with fail
  refine (pnew_p 0 0 w).mono ?_
  intro e w1 h
  unfold SeedP at h
  rw [if_pos ⟨.inl rfl, good_none, by decide, by decide⟩] at h
  obtain ⟨p, A, st, rfl, hq, s1, s2, hn, hb⟩ := h
  have KR0 := prun_k w1 hq s1 (by omega)
  rw [run_none] at KR0
  have KR := Lib.hid KR0
  have HB := Lib.hid (And.intro hn hb)
  clear hq s1 s2 hn hb KR0
  go_wp2_with fail
  refine KR.out.mono ?_
  rintro e w2 ⟨rfl, A2, st2, -, -, hq2, ht⟩
  have hb2 : Below w.heap.size w w2 := HB.out.2.trans (ht.below HB.out.1 HB.out.2.size)
  have KT := Lib.hid (ptag_k w2 hq2)
  have KN0 := pname_k 1 w2 (HK.out.below hb2 (Nat.le_refl _))
  have en : nameP 1 = ⟨#[102, 97, 105, 114]⟩ := rfl
  rw [en] at KN0
  have KN := Lib.hid KN0
  have KG0 := pgood_k 2 w2
  rw [decide_eq_true (show Tag 2 from .inr (.inr rfl))] at KG0
  have KG := Lib.hid KG0
  have HB2 := Lib.hid hb2
  clear hq2 ht hb2 KR HB HK en KN0 KG0
  go_wp2_with fail
  refine KT.out.mono ?_
  rintro e w3 ⟨rfl, rfl⟩
  go_wp2_with fail
  refine KN.out.mono ?_
  rintro e w3 ⟨rfl, rfl⟩
  go_wp2_with fail
  refine KG.out.mono ?_
  rintro e w3 ⟨rfl, rfl⟩
  clear KT KN KG
  go_wp2_with fail
  go_ret
  exact ⟨rfl, HB2.out⟩
end Go.Proofs.YtancneebbellnaaGreatDoor.Po
