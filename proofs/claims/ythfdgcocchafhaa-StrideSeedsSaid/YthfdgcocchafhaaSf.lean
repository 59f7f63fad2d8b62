/- stride's queue: Weigh, Charge, New. -/
import Derived.Test.YthfdgcocchafhaaSe
namespace Go.Proofs.Ythfdgcocchafhaa
open Go.RowKit Go.Maps

section
variable {w w' : World} {s b mp mw : Nat} {v : Value} {st base cur : Int} {L : List QI} {R : List RI}

/-- What Weigh answers, and what it leaves. -/
def weighM (R : List RI) (id n : Int) : Int × List RI :=
  if hasI R id = true then (if goodB n = true then (0, wgtI R id n) else (1, R)) else (2, R)
theorem look_w (h : IsS w s b mp mw v st base cur L R) (id : Int) (hid : wf64 id) :
    (Instr.lookup 65 (.map (some mw)) (.int .i64 id) true).run Try.prog w = .ok (.tuple #[.int .i64 (if hasI R id = true then (getI R id).2.1 else 0), .bool (hasI R id)]) w := by
  cases hI : hasI R id with
  | true =>
    obtain ⟨hr, he⟩ := getI_mem hI
    rw [if_pos rfl]
    exact (h.wm.look id hid).1 ((getI R id).2.1, (getI R id).1) (mem_wL.2 ⟨_, hr, rfl, rfl⟩) he
  | false =>
    rw [if_neg (by decide)]
    refine (h.wm.look id hid).2 (fun x hx he => ?_)
    obtain ⟨r, hr, _, h2⟩ := mem_wL.1 hx
    exact hasI_no.1 hI r hr (h2.trans he)

set_option maxRecDepth 100000 in
set_option maxHeartbeats 4000000 in
theorem sweigh_c (id n : Int) (w : World) (h : IsS w s b mp mw v st base cur L R) (hid : wf64 id) (hn : wf64 n) :
    Calls Try.prog 22 #[.pointer (some ⟨s, 0, none⟩), .int .i64 id, .int .i64 n] w fun e w' => e = .returned (.int .i64 (weighM R id n).1) ∧ SPost s b mp mw v st base cur (weighM R id n).2 0 w w' := by
  obtain ⟨-, -, -, c3, -, -⟩ := h.box.cells
  have hrun := look_w h id hid
  have KG := Lib.hid (fun w => wgood_c n w)
  have POST := Lib.hid (SPost.same (K := 0) h (Below.refl _ w))
  cases hI : hasI R id with
  | false =>
    have hm : weighM R id n = (2, R) := by unfold weighM; rw [hI, if_neg (by decide)]
    rw [hm]
    rw [hI] at hrun
    clear h hm hI hid hn KG
    go_enter Try.func22, Try.ntmps22
    go_wp2_with fail
    go_ret
    exact ⟨rfl, POST.out⟩
  | true =>
    rw [hI, if_pos rfl] at hrun
    generalize (getI R id).2.1 = r1 at hrun
    cases hG : goodB n with
    | false =>
      have hm : weighM R id n = (1, R) := by unfold weighM; rw [hI, if_pos rfl, hG, if_neg (by decide)]
      rw [hm]
      rw [hG] at KG
      clear h hm hI hid hn hG
      go_enter Try.func22, Try.ntmps22
      go_wp2_with fail
      refine (KG.out _).mono ?_; rintro e w' ⟨rfl, rfl⟩
      go_wp2_with fail
      go_ret
      exact ⟨rfl, POST.out⟩
    | true =>
      have hm : weighM R id n = (0, wgtI R id n) := by unfold weighM; rw [hI, if_pos rfl, hG, if_pos rfl]
      rw [hm]
      rw [hG] at KG
      have hex : ∃ z ∈ wL R, z.2 = id := by
        obtain ⟨hr, he⟩ := getI_mem hI
        exact ⟨((getI R id).2.1, (getI R id).1), mem_wL.2 ⟨_, hr, rfl, rfl⟩, he⟩
      have hg := goodB_true.1 hG
      obtain ⟨w3, hrun2, m1, m2, m3⟩ := h.wm.store (G' := wL (wgtI R id n)) hid hn (by have := h.wf.len; unfold wL; rw [List.length_map]; omega) (fun D hD => by rw [wL_wgt]; exact hD.set hex)
      have FIN : Hid (SPost s b mp mw v st base cur (wgtI R id n) 0 w w3) := Lib.hid (by
        have hk3 : ∀ j, j < w.heap.size → j ≠ mw → w3.heap[j]? = w.heap[j]? := fun j hj hne => m2.block j hj (fun e => hne (Option.some.inj e))
        refine ⟨v, L, 0, Nat.le_refl _, ?_, ⟨m2.os, m2.tape, m2.output, by rw [m3]; exact Nat.le_refl _, fun j hj hn => hk3 j hj (fun e => hn (e ▸ .inr (.inl rfl))), fun j hj => .inl hj, fun j hj => by rw [m3]; exact h.lt j hj⟩⟩
        have e0 : st + ((0 : Nat) : Int) = st := by simp
        rw [e0]
        exact ⟨h.box.keep (hk3 s h.box.lt h.n1), h.q.keep (fun j hj => hk3 j (h.q.lt j hj) (fun e => h.n3 (e ▸ hj))), m1, by rw [pL_wgt]; exact h.perm, h.wf.wgt id n hg.1 hg.2, h.n1, h.n2, h.n3⟩)
      clear h hm hI hid hn hG m1 m2 m3 hg hex POST
      go_enter Try.func22, Try.ntmps22
      go_wp2_with fail
      refine (KG.out _).mono ?_; rintro e w' ⟨rfl, rfl⟩
      go_wp2_with fail
      go_ret
      exact ⟨rfl, FIN.out⟩

/-- Nothing but the count of draws differs. -/
def SameW (w W : World) : Prop := W.os = w.os ∧ W.tape = w.tape ∧ W.output = w.output ∧ W.heap = w.heap
theorem SameW.below {w W : World} (h : SameW w W) : Below w.heap.size w W := ⟨h.1, h.2.1, h.2.2.1, by rw [h.2.2.2]; exact Nat.le_refl _, fun k _ => by rw [h.2.2.2]⟩

/-- What Charge answers, and what it leaves: who, the error; the base, the tasks. -/
def chargeM (base cur : Int) (R : List RI) : Int × Int × Int × List RI :=
  if cur = -1 then (0, 14, base, R) else
    if 2305843009213693952 - stepV (getI R cur).2.1 < (getI R cur).2.2 then (0, 7, base, R) else
      (cur, 0, raiseM base (chgI R cur ((getI R cur).2.2 + stepV (getI R cur).2.1)), chgI R cur ((getI R cur).2.2 + stepV (getI R cur).2.1))

set_option maxRecDepth 100000 in
set_option maxHeartbeats 4000000 in
theorem scharge_c (w : World) (h : IsS w s b mp mw v st base cur L R) (hs : 0 ≤ st) (hs' : st < 1000000000000000) :
    Calls Try.prog 24 #[.pointer (some ⟨s, 0, none⟩)] w fun e w' => e = .returned (.tuple #[.int .i64 (chargeM base cur R).1, .int .i64 (chargeM base cur R).2.1]) ∧
      SPost s b mp mw v st (chargeM base cur R).2.2.1 cur (chargeM base cur R).2.2.2 16 w w' := by
  obtain ⟨-, c1, c2, c3, -, -⟩ := h.box.cells
  have POST := Lib.hid (fun w' => SPost.same (K := 16) (w' := w') h)
  by_cases hc : cur = -1
  · have hm : chargeM base cur R = (0, 14, base, R) := by unfold chargeM; rw [if_pos hc]
    rw [hm]
    have hcb : (cur == -1) = true := by simp [hc]
    clear h hm hs hs' c2 c3
    go_enter Try.func24, Try.ntmps24
    go_wp2_with fail
    go_ret2
    exact ⟨rfl, POST.out _ (Below.refl _ w)⟩
  · have hI : hasI R cur = true := by rcases h.wf.cur with h1 | h1; exact absurd h1 hc; exact h1
    obtain ⟨hr, he⟩ := getI_mem hI
    have hm : chargeM base cur R = if 2305843009213693952 - stepV (getI R cur).2.1 < (getI R cur).2.2 then (0, 7, base, R) else (cur, 0, raiseM base (chgI R cur ((getI R cur).2.2 + stepV (getI R cur).2.1)), chgI R cur ((getI R cur).2.2 + stepV (getI R cur).2.1)) := by unfold chargeM; rw [if_neg hc]
    rw [hm]
    have hkey : keyV L cur = ((getI R cur).2.2, true) := by rw [perm_key h.perm h.q.dist h.wf.asc, if_pos hI]
    have hwm : ((getI R cur).2.1, (getI R cur).1) ∈ wL R := mem_wL.2 ⟨_, hr, rfl, rfl⟩
    generalize getI R cur = r at *
    obtain ⟨r0, r1, r2⟩ := r
    simp only at he hkey hwm hm ⊢
    subst he
    have hcb : (r0 == -1) = false := by simp [hc]
    have hid := (h.id64 hr).1
    have heach := h.wf.each _ hr
    simp only at heach hid
    obtain ⟨i, hi⟩ := perm_at h.perm hr
    simp only at hi
    have hsv := stepV_bd r1
    have KK : Hid (∀ n, Calls Try.prog 52 #[.pointer (some ⟨b, 0, none⟩), .int .i64 r0] (w.drewN n) fun e w'' => e = .returned (.tuple #[.int .i64 r2, .bool true]) ∧ ∃ m, w'' = w.drewN m) := Lib.hid (fun n => by
      have := qkey_c b mp 64 st v L r0 (w.drewN n) (h.q.keep (fun _ _ => rfl)) hid
      rw [hkey] at this
      exact quiet_eq this)
    have KS : Hid (∀ (W : World) n, Calls Try.prog 53 #[.int .i64 r1] (W.drewN n) fun e w'' => e = .returned (.int .i64 (stepV r1)) ∧ ∃ m, w'' = W.drewN m) := Lib.hid (fun W n => quiet_eq (step_c r1 (W.drewN n)))
    have hrun : ∀ n, (Instr.lookup 65 (.map (some mw)) (.int .i64 r0) false).run Try.prog (w.drewN n) = .ok (.int .i64 r1) (w.drewN n) := fun n => (show WMap (w.drewN n) mw (wL R) from h.wm.keep rfl).look1 (x := (r1, r0)) hwm hid
    have KT : ∀ W : World, SameW w W → ¬ 2305843009213693952 - stepV r1 < r2 → Calls Try.prog 54 #[.pointer (some ⟨b, 0, none⟩), .int .i64 r0, .int .i64 (r2 + stepV r1)] W fun e w' => e = .returned (.bool true) ∧ SPost s b mp mw v st base r0 (chgI R r0 (r2 + stepV r1)) 16 w w' := fun W hW ho => by
      have hh : ∀ j : Nat, W.heap[j]? = w.heap[j]? := fun j => by rw [hW.2.2.2]
      refine (qset_yes b mp 64 st v L (r2, r0) (r2 + stepV r1) i 7 W (h.q.keep (fun j _ => hh j)) hi (wf64_of (by omega) (by omega)) (by have := h.len; omega) (by have := h.len; omega) (by omega) hs (by omega)).mono ?_
      rintro e w' ⟨he, v1, k, hk, hq, ht⟩
      obtain ⟨g1, g2, g3, g4, g5⟩ := (h.keep (w' := W) (fun j _ => hh j)).step hq ht
      exact ⟨he, v1, _, k, hk, ⟨g1, hq, by rw [wL_chg]; exact g2, perm_chg h.perm h.wf.asc hr hi _, h.wf.chg r0 _ (by omega) (by omega), h.n1, g3, g4⟩, ⟨g5.os.trans hW.1, g5.tape.trans hW.2.1, g5.output.trans hW.2.2.1, by have := g5.size; rw [hW.2.2.2] at this; exact this, fun j hj hn => (g5.block j (by rw [hW.2.2.2]; exact hj) hn).trans (hh j), fun j hj => by have := g5.sub j hj; rw [hW.2.2.2] at this; exact this, g5.bd⟩⟩
    have hw1 : IntKind.i64.wrap (2305843009213693952 - stepV r1) = 2305843009213693952 - stepV r1 := by rw [IntKind.wrap_i64]; omega
    have hw2 : IntKind.i64.wrap (r2 + stepV r1) = r2 + stepV r1 := by rw [IntKind.wrap_i64]; omega
    have KT' := Lib.hid KT
    clear h hm hs hs' hkey hwm hr hI hid heach hi hsv KT
    generalize stepV r1 = sv at *
    obtain ⟨M, hM⟩ : ∃ M : Int × Int × Int × List RI, (if 2305843009213693952 - sv < r2 then ((0, 7, base, R) : Int × Int × Int × List RI) else (r0, 0, raiseM base (chgI R r0 (r2 + sv)), chgI R r0 (r2 + sv))) = M := ⟨_, rfl⟩
    rw [hM]
    have HM := Lib.hid hM
    clear hM
    go_enter Try.func24, Try.ntmps24
    go_wp2_with fail
    go_big_quiet ((first | exact KK.out _))
    obtain ⟨w1, hw1'⟩ : ∃ w1, w.drewN nq = w1 := ⟨_, rfl⟩
    have HW1 : Hid (SameW w w1) := Lib.hid (by rw [← hw1']; exact ⟨rfl, rfl, rfl, rfl⟩)
    have e1 : w1.cell? ⟨s, 1, none⟩ = some (.int .i64 r0) := by rw [← hw1']; exact c1
    have e2 : w1.cell? ⟨s, 2, none⟩ = some (.pointer (some ⟨b, 0, none⟩)) := by rw [← hw1']; exact c2
    have e3 : w1.cell? ⟨s, 3, none⟩ = some (.map (some mw)) := by rw [← hw1']; exact c3
    have hrun1 : ∀ n, (Instr.lookup 65 (.map (some mw)) (.int .i64 r0) false).run Try.prog (w1.drewN n) = .ok (.int .i64 r1) (w1.drewN n) := by
      intro n
      rw [← hw1', World.drewN_drewN]
      exact hrun _
    rw [hw1']
    clear hw1' c1 c2 c3 hrun KK
    go_wp2_with fail
    go_big_quiet ((first | exact KS.out _ _))
    obtain ⟨w2, hw2'⟩ : ∃ w2, w1.drewN nq = w2 := ⟨_, rfl⟩
    have HW2 : Hid (SameW w w2) := Lib.hid (by rw [← hw2']; exact HW1.out)
    have e1' : w2.cell? ⟨s, 1, none⟩ = some (.int .i64 r0) := by rw [← hw2']; exact e1
    have e2' : w2.cell? ⟨s, 2, none⟩ = some (.pointer (some ⟨b, 0, none⟩)) := by rw [← hw2']; exact e2
    rw [hw2']
    clear hw2' e1 e2 e3 hrun1 KS HW1
    by_cases ho : 2305843009213693952 - sv < r2
    · have hm := HM.out
      rw [if_pos ho] at hm
      subst hm
      go_wp2_with fail
      go_ret2
      exact ⟨rfl, POST.out _ HW2.out.below⟩
    · have hm := HM.out
      rw [if_neg ho] at hm
      subst hm
      have KS := Lib.hid (KT'.out w2.drew HW2.out (by omega))
      clear KT' POST
      go_wp2_with fail
      go_still_tail 11, (by kernel_rfl)
      change wpList _ _ _ _ _ w2.drew
      go_wp2_with fail
      refine KS.out.mono ?_
      rintro e w3 ⟨rfl, v1, L1, k, hk, hq, ht⟩
      have KR := Lib.hid (sraise_c w3 hq)
      have HQ := Lib.hid (And.intro hk ht)
      clear hk hq ht KS
      go_wp2_with fail
      refine KR.out.mono ?_
      rintro e w4 ⟨rfl, hq, ht⟩
      obtain ⟨-, y1, -, -, -, -⟩ := hq.box.cells
      have HR := Lib.hid (And.intro hq ht)
      clear hq ht KR
      go_wp2_with fail
      go_ret2
      exact ⟨rfl, v1, L1, k, HQ.out.1, HR.out.1, HQ.out.2.trans HR.out.2⟩

set_option maxRecDepth 100000 in
set_option maxHeartbeats 2000000 in
/-- New: where the base may be. -/
theorem snew_c (base : Int) (w : World) (h1 : -1152921504606846976 ≤ base) (h2 : base ≤ 1152921504606846976) :
    Calls Try.prog 9 #[.int .i64 base] w fun e w' => ∃ s b mp mw, e = .returned (.tuple #[.pointer (some ⟨s, 0, none⟩), .int .i64 0]) ∧ IsS w' s b mp mw (.slice none 0 0) 0 base (-1) [] [] ∧ (∀ k, SOf s b mp mw (.slice none 0 0) k → w.heap.size ≤ k) ∧ Below w.heap.size w w' := by
  have KN := Lib.hid (qnew_c 64 w)
  have e64 : clampQ 64 = 64 := by decide
  rw [e64] at KN
  have hmm := @run_makeMap Try.prog
  have FIN : Hid (∀ w1, IsQ w1 (w.heap.size + 1) 64 0 [] (.slice none 0 0) w.heap.size → Below w.heap.size w w1 → ∀ w2, w2 = (w1.alloc (.map #[] 0)).alloc (.cells #[.int .i64 base, .int .i64 (-1), .pointer (some ⟨w.heap.size + 1, 0, none⟩), .map (some w1.heap.size)] 67) →
      IsS w2 (w1.heap.size + 1) (w.heap.size + 1) w.heap.size w1.heap.size (.slice none 0 0) 0 base (-1) [] [] ∧ (∀ k, SOf (w1.heap.size + 1) (w.heap.size + 1) w.heap.size w1.heap.size (.slice none 0 0) k → w.heap.size ≤ k) ∧ Below w.heap.size w w2) := Lib.hid (fun w1 hq hb w2 he => by
    have hlt := hq.lt
    have hs := hb.size
    have hb2 : Below w1.heap.size w1 w2 := by rw [he]; exact ((Below.refl _ w1).alloc (Nat.le_refl _) _).alloc (by simp) _
    have q1 := hlt _ (.inl rfl)
    have q2 := hlt _ (.inr (.inl rfl))
    refine ⟨⟨?_, isQ_below hq hb2, ?_, List.Perm.refl _, ⟨List.Pairwise.nil, by simp, by simp, by omega, by omega, .inl rfl⟩, by omega, fun hk => ?_, fun hk => ?_⟩, fun k hk => ?_, hb.trans (hb2.mono hs)⟩
    · rw [he]
      have := World.alloc_heap_new (w1.alloc (.map #[] 0)) (.cells #[.int .i64 base, .int .i64 (-1), .pointer (some ⟨w.heap.size + 1, 0, none⟩), .map (some w1.heap.size)] 67)
      rwa [World.size_alloc] at this
    · rw [he]
      exact (WMap.new w1).keep (Below.heap_alloc _ _ _ (by simp))
    · have := hlt _ hk; omega
    · have := hlt _ hk; omega
    · rcases hk with rfl | rfl | hk
      · omega
      · omega
      · rcases hk with rfl | rfl | hk
        · omega
        · omega
        · simp [Value.ownBlock] at hk)
  have hd1 : decide (base < -1152921504606846976) = false := by simp; omega
  have hd2 : decide (1152921504606846976 < base) = false := by simp; omega
  clear h1 h2 e64
  go_enter Try.func9, Try.ntmps9
  go_wp2_with fail
  refine KN.out.mono ?_
  rintro e w1 ⟨rfl, hq, hb⟩
  have H1 := Lib.hid (FIN.out w1 hq hb _ rfl)
  clear hq hb KN FIN
  go_wp2_with fail
  go_ret2
  exact ⟨_, _, _, _, rfl, H1.out.1, H1.out.2.1, H1.out.2.2⟩
set_option maxRecDepth 100000 in
set_option maxHeartbeats 2000000 in
/-- .. and where it may not. -/
theorem snew_no (base : Int) (w : World) (h : base < -1152921504606846976 ∨ 1152921504606846976 < base) :
    Calls Try.prog 9 #[.int .i64 base] w fun e w' => e = .returned (.tuple #[.pointer none, .int .i64 1]) ∧ w = w' := by
  by_cases h1 : base < -1152921504606846976
  · clear h
    go_enter Try.func9, Try.ntmps9
    go_wp2_with fail
    go_ret2
    exact ⟨rfl, rfl⟩
  · have h2 : 1152921504606846976 < base := by omega
    clear h
    go_enter Try.func9, Try.ntmps9
    go_wp2_with fail
    go_ret2
    exact ⟨rfl, rfl⟩
end
end Go.Proofs.Ythfdgcocchafhaa
