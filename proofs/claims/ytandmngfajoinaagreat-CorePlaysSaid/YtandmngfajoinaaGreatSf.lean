/- The queue of points: Weigh, Charge, New. -/
import Derived.Test.YtandmngfajoinaaGreatSe
namespace Go.Proofs.YtandmngfajoinaaGreat
open Go.RowKit Go.Maps

section
variable {w w' : World} {s b mp mw : Nat} {v : Value} {st base cur : Int} {L : List QI} {R : List RI}

/-- What Weigh answers, and what it leaves. -/
def weighM (R : List RI) (id n : Int) : Int × List RI :=
  if hasI R id = true then (if goodB n = true then (0, wgtI R id n) else (1, R)) else (2, R)
set_option maxRecDepth 100000 in
set_option maxHeartbeats 4000000 in
theorem sweigh_c (id n : Int) (w : World) (h : IsS w s b mp mw v st base cur L R) (hid : wf64 id) (hn : wf64 n) :
    Calls Tryz.prog 137 #[.pointer (some ⟨s, 0, none⟩), .int .i64 id, .int .i64 n] w fun e w' => e = .returned (.int .i64 (weighM R id n).1) ∧ SPost s b mp mw v st base cur (weighM R id n).2 0 w w' := by
  obtain ⟨-, -, -, c3, -, -⟩ := h.box.cells
  have hrun := look_w h id hid
  have KG := Lib.hid (fun w => wgood_c n w)
  have POST := Lib.hid (SPost.same (K := 0) h (Below.refl _ w))
  cases hI : hasI R id with
  | false =>
    have hm : weighM R id n = (2, R) := by unfold weighM; rw [hI, if_neg (by decide)]
    rw [hm]
    rw [hI] at hrun
    clear h hm hI hid hn KG
    go_enter Tryz.func137, Tryz.ntmps137
    go_wp2_with fail
    go_ret
    exact ⟨rfl, POST.out⟩
  | true =>
    rw [hI, if_pos rfl] at hrun
    generalize (getI R id).2.1 = r1 at hrun
    cases hG : goodB n with
    | false =>
      have hm : weighM R id n = (1, R) := by unfold weighM; rw [hI, if_pos rfl, hG, if_neg (by decide)]
      rw [hm]
      rw [hG] at KG
      clear h hm hI hid hn hG
      go_enter Tryz.func137, Tryz.ntmps137
      go_wp2_with fail
      refine (KG.out _).mono ?_; rintro e w' ⟨rfl, rfl⟩
      go_wp2_with fail
      go_ret
      exact ⟨rfl, POST.out⟩
    | true =>
      have hm : weighM R id n = (0, wgtI R id n) := by unfold weighM; rw [hI, if_pos rfl, hG, if_pos rfl]
      rw [hm]
      rw [hG] at KG
      have hex : ∃ z ∈ wL R, z.2 = id := by
        obtain ⟨hr, he⟩ := getI_mem hI
        exact ⟨((getI R id).2.1, (getI R id).1), mem_wL.2 ⟨_, hr, rfl, rfl⟩, he⟩
      have hg := goodB_true.1 hG
      obtain ⟨w3, hrun2, m1, m2, m3⟩ := h.wm.store (G' := wL (wgtI R id n)) hid hn (by have := h.wf.len; unfold wL; rw [List.length_map]; omega) (fun D hD => by rw [wL_wgt]; exact hD.set hex)
      have FIN : Hid (SPost s b mp mw v st base cur (wgtI R id n) 0 w w3) := Lib.hid (by
        have hk3 : ∀ j, j < w.heap.size → j ≠ mw → w3.heap[j]? = w.heap[j]? := fun j hj hne => m2.block j hj (fun e => hne (Option.some.inj e))
        refine ⟨v, L, 0, Nat.le_refl _, ?_, ⟨m2.os, m2.tape, m2.output, by rw [m3]; exact Nat.le_refl _, fun j hj hn => hk3 j hj (fun e => hn (e ▸ .inr (.inl rfl))), fun j hj => .inl hj, fun j hj => by rw [m3]; exact h.lt j hj⟩⟩
        have e0 : st + ((0 : Nat) : Int) = st := by simp
        rw [e0]
        exact ⟨h.box.keep (hk3 s h.box.lt h.n1), h.q.keep (fun j hj => hk3 j (h.q.lt j hj) (fun e => h.n3 (e ▸ hj))), m1, by rw [pL_wgt]; exact h.perm, h.wf.wgt id n hg.1 hg.2, h.n1, h.n2, h.n3⟩)
      clear h hm hI hid hn hG m1 m2 m3 hg hex POST
      go_enter Tryz.func137, Tryz.ntmps137
      go_wp2_with fail
      refine (KG.out _).mono ?_; rintro e w' ⟨rfl, rfl⟩
      go_wp2_with fail
      go_ret
      exact ⟨rfl, FIN.out⟩

/-- Nothing but the count of draws differs. -/
def SameW (w W : World) : Prop := W.os = w.os ∧ W.tape = w.tape ∧ W.output = w.output ∧ W.heap = w.heap
theorem SameW.below {w W : World} (h : SameW w W) : Below w.heap.size w W := ⟨h.1, h.2.1, h.2.2.1, by rw [h.2.2.2]; exact Nat.le_refl _, fun k _ => by rw [h.2.2.2]⟩

/-- What Charge answers, and what it leaves: who, the error; the base, the tasks. -/
def chargeM (base cur : Int) (R : List RI) : Int × Int × Int × List RI :=
  if cur = -1 then (0, 14, base, R) else
    if 2305843009213693952 - stepV (getI R cur).2.1 < (getI R cur).2.2 then (0, 7, base, R) else
      (cur, 0, raiseM base (chgI R cur ((getI R cur).2.2 + stepV (getI R cur).2.1)), chgI R cur ((getI R cur).2.2 + stepV (getI R cur).2.1))

theorem no_minus (h : IsS w s b mp mw v st base cur L R) : hasI R (-1) = false := hasI_no.2 (fun r hr => by have := h.wf.each r hr; omega)
theorem curV_no (h : IsS w s b mp mw v st base cur L R) (hc : cur = -1) : curV cur R = ((0, 0), false) := by unfold curV; rw [hc, no_minus h, if_neg (by decide)]
set_option maxRecDepth 100000 in
set_option maxHeartbeats 4000000 in
theorem scharge_c (w : World) (h : IsS w s b mp mw v st base cur L R) (hs : 0 ≤ st) (hs' : st < 1000000000000000) :
    Calls Tryz.prog 131 #[.pointer (some ⟨s, 0, none⟩)] w fun e w' => e = .returned (.tuple #[.int .i64 (chargeM base cur R).1, .int .i64 (chargeM base cur R).2.1]) ∧
      SPost s b mp mw v st (chargeM base cur R).2.2.1 cur (chargeM base cur R).2.2.2 16 w w' := by
  have POST := Lib.hid (fun w' => SPost.same (K := 16) (w' := w') h)
  have KC := Lib.hid (scur_c w h)
  by_cases hc : cur = -1
  · have hm : chargeM base cur R = (0, 14, base, R) := by unfold chargeM; rw [if_pos hc]
    rw [hm]
    rw [curV_no h hc] at KC
    clear h hm hs hs' hc
    simp only [encQ] at KC
    go_enter Tryz.func131, Tryz.ntmps131
    go_wp2_with fail
    refine KC.out.mono ?_
    rintro e w1 ⟨rfl, hb⟩
    have HB := Lib.hid (hb.alloc hb.size (.cells #[.int .i64 0, .int .i64 0] 136))
    clear hb KC
    go_wp2_with fail
    go_ret2
    exact ⟨rfl, POST.out _ HB.out⟩
  · have hI : hasI R cur = true := by rcases h.wf.cur with h1 | h1; exact absurd h1 hc; exact h1
    obtain ⟨hr, he⟩ := getI_mem hI
    have hm : chargeM base cur R = if 2305843009213693952 - stepV (getI R cur).2.1 < (getI R cur).2.2 then (0, 7, base, R) else (cur, 0, raiseM base (chgI R cur ((getI R cur).2.2 + stepV (getI R cur).2.1)), chgI R cur ((getI R cur).2.2 + stepV (getI R cur).2.1)) := by unfold chargeM; rw [if_neg hc]
    rw [hm]
    have hcv : curV cur R = (((getI R cur).2.2, cur), true) := by unfold curV; rw [if_pos hI]
    rw [hcv] at KC
    have hwm : ((getI R cur).2.1, (getI R cur).1) ∈ wL R := mem_wL.2 ⟨_, hr, rfl, rfl⟩
    generalize getI R cur = r at *
    obtain ⟨r0, r1, r2⟩ := r
    simp only at he hwm hm KC ⊢
    subst he
    have hid := (h.id64 hr).1
    have heach := h.wf.each _ hr
    simp only at heach hid
    obtain ⟨i, hi⟩ := perm_at h.perm hr
    simp only at hi
    have hsv := stepV_bd r1
    have KS : Hid (∀ (W : World) n, Calls Tryz.prog 84 #[.int .i64 r1] (W.drewN n) fun e w'' => e = .returned (.int .i64 (stepV r1)) ∧ ∃ m, w'' = W.drewN m) := Lib.hid (fun W n => quiet_eq (step_c r1 (W.drewN n)))
    have KT : Hid (∀ W : World, Below w.heap.size w W → ¬ 2305843009213693952 - stepV r1 < r2 → Calls Tryz.prog 139 #[.pointer (some ⟨b, 0, none⟩), .int .i64 r0, .int .i64 (r2 + stepV r1)] W fun e w' => e = .returned (.bool true) ∧ ∃ v1 L1, ∃ k : Nat, k ≤ 16 ∧ IsS w' s b mp mw v1 (st + (k : Int)) base r0 L1 (chgI R r0 (r2 + stepV r1)) ∧ Trip (SOf s b mp mw v) W (SOf s b mp mw v1) w') := Lib.hid (fun W hW ho => by
      have hh := h.below hW
      refine (qset_yes b mp 64 st v L (r2, r0) (r2 + stepV r1) i 7 W hh.q hi (wf64_of (by omega) (by omega)) (by have := h.len; omega) (by have := h.len; omega) (by omega) hs (by omega)).mono ?_
      rintro e w' ⟨he, v1, k, hk, hq, ht⟩
      obtain ⟨g1, g2, g3, g4, g5⟩ := hh.step hq ht
      exact ⟨he, v1, _, k, hk, ⟨g1, hq, by rw [wL_chg]; exact g2, perm_chg h.perm h.wf.asc hr hi _, h.wf.chg r0 _ (by omega) (by omega), h.n1, g3, g4⟩, g5⟩)
    have hw1 : IntKind.i64.wrap (2305843009213693952 - stepV r1) = 2305843009213693952 - stepV r1 := by rw [IntKind.wrap_i64]; omega
    have hw2 : IntKind.i64.wrap (r2 + stepV r1) = r2 + stepV r1 := by rw [IntKind.wrap_i64]; omega
    have HWM := Lib.hid (And.intro hwm hid)
    have H := Lib.hid h
    clear h hm hs hs' hwm hr hI hid heach hi hsv hcv hc
    generalize stepV r1 = sv at *
    obtain ⟨M, hM⟩ : ∃ M : Int × Int × Int × List RI, (if 2305843009213693952 - sv < r2 then ((0, 7, base, R) : Int × Int × Int × List RI) else (r0, 0, raiseM base (chgI R r0 (r2 + sv)), chgI R r0 (r2 + sv))) = M := ⟨_, rfl⟩
    rw [hM]
    have HM := Lib.hid hM
    clear hM
    simp only [encQ] at KC
    go_enter Tryz.func131, Tryz.ntmps131
    go_wp2_with fail
    refine KC.out.mono ?_
    rintro e w1 ⟨rfl, hb⟩
    obtain ⟨w2, hw2'⟩ : ∃ w2, w1.alloc (.cells #[.int .i64 r2, .int .i64 r0] 136) = w2 := ⟨_, rfl⟩
    have hb2 : Below w.heap.size w w2 := by rw [← hw2']; exact hb.alloc hb.size _
    have hnew : w2.heap[w1.heap.size]? = some (.cells #[.int .i64 r2, .int .i64 r0] 136 (0, 0)) := by rw [← hw2']; exact World.alloc_heap_new _ _
    have hsz : w.heap.size ≤ w1.heap.size := hb.size
    have hs2 : w2.heap.size = w1.heap.size + 1 := by rw [← hw2']; simp
    have hq2 := H.out.below hb2
    obtain ⟨-, -, c2, c3, -, -⟩ := hq2.box.cells
    have hrun : ∀ n, (Instr.lookup 126 (.map (some mw)) (.int .i64 r0) false).run Tryz.prog (w2.drewN n) = .ok (.int .i64 r1) (w2.drewN n) := fun n => (show WMap (w2.drewN n) mw (wL R) from hq2.wm.keep rfl).look1 (x := (r1, r0)) HWM.out.1 HWM.out.2
    have d0 : w2.cell? ⟨w1.heap.size, 0, none⟩ = some (.int .i64 r2) := by simp [World.cell?, hnew]
    have d1 : w2.cell? ⟨w1.heap.size, 1, none⟩ = some (.int .i64 r0) := by simp [World.cell?, hnew]
    have HB2 := Lib.hid (And.intro hb2 (And.intro hsz (And.intro hs2 hnew)))
    clear hb hb2 hnew hsz hs2 hq2 KC
    go_wp2_with fail
    go_big_quiet ((first | exact KS.out _ _))
    obtain ⟨w3, hw3⟩ : ∃ w3, w2.drewN nq = w3 := ⟨_, rfl⟩
    have HB3 : Hid (Below w.heap.size w w3 ∧ Below w.heap.size w w3.drew ∧ w.heap.size ≤ w1.heap.size ∧ w1.heap.size < w3.drew.heap.size ∧ w3.drew.heap[w1.heap.size]? = some (.cells #[.int .i64 r2, .int .i64 r0] 136 (0, 0))) := Lib.hid (by
      rw [← hw3]
      obtain ⟨g1, g2, g3, g4⟩ := HB2.out
      exact ⟨below_drewN g1 _, (below_drewN g1 _).drew, g2, by show _ < w2.heap.size; omega, g4⟩)
    have e0 : w3.cell? ⟨w1.heap.size, 0, none⟩ = some (.int .i64 r2) := by rw [← hw3]; exact d0
    have e1 : w3.cell? ⟨w1.heap.size, 1, none⟩ = some (.int .i64 r0) := by rw [← hw3]; exact d1
    have e2 : w3.cell? ⟨s, 2, none⟩ = some (.pointer (some ⟨b, 0, none⟩)) := by rw [← hw3]; exact c2
    rw [hw3]
    clear hw3 hw2' c2 c3 hrun KS HB2 d0 d1
    by_cases ho : 2305843009213693952 - sv < r2
    · have hm := HM.out
      rw [if_pos ho] at hm
      subst hm
      go_wp2_with fail
      go_ret2
      exact ⟨rfl, POST.out _ HB3.out.1⟩
    · have hm := HM.out
      rw [if_neg ho] at hm
      subst hm
      have KS := Lib.hid (KT.out w3.drew HB3.out.2.1 (by omega))
      clear KT POST
      go_wp2_with fail
      go_still_tail 10, (by kernel_rfl)
      change wpList _ _ _ _ _ w3.drew
      go_wp2_with fail
      refine KS.out.mono ?_
      rintro e w4 ⟨rfl, v1, L1, k, hk, hq, ht⟩
      have KR := Lib.hid (sraise_c w4 hq)
      have HQ : Hid (k ≤ 16 ∧ Trip (SOf s b mp mw v) w (SOf s b mp mw v1) w4 ∧ w4.heap[w1.heap.size]? = some (.cells #[.int .i64 r2, .int .i64 r0] 136 (0, 0)) ∧ ¬ SOf s b mp mw v1 w1.heap.size) := Lib.hid (by
        obtain ⟨g1, g2, g3, g4, g5⟩ := HB3.out
        have hnd : ¬ SOf s b mp mw v w1.heap.size := fun hh => by have := H.out.lt _ hh; omega
        exact ⟨hk, (H.out.self g2).trans ht, (ht.block _ g4 hnd).trans g5, fun hh => (ht.sub _ hh).elim hnd (fun _ => by omega)⟩)
      clear hk hq ht KS
      go_wp2_with fail
      refine KR.out.mono ?_
      rintro e w5 ⟨rfl, hq, ht⟩
      have hd5 : w5.heap[w1.heap.size]? = some (.cells #[.int .i64 r2, .int .i64 r0] 136 (0, 0)) := (ht.block _ (Array.getElem?_eq_some_iff.1 HQ.out.2.2.1).1 HQ.out.2.2.2).trans HQ.out.2.2.1
      have y1 : w5.cell? ⟨w1.heap.size, 1, none⟩ = some (.int .i64 r0) := by simp [World.cell?, hd5]
      have HR := Lib.hid (And.intro hq ht)
      clear hq ht KR hd5
      go_wp2_with fail
      go_ret2
      exact ⟨rfl, v1, L1, k, HQ.out.1, HR.out.1, HQ.out.2.1.trans HR.out.2⟩

set_option maxRecDepth 100000 in
set_option maxHeartbeats 2000000 in
/-- New: where the base may be. -/
theorem pnew_c (base : Int) (w : World) (h1 : -1152921504606846976 ≤ base) (h2 : base ≤ 1152921504606846976) :
    Calls Tryz.prog 66 #[.int .i64 base] w fun e w' => ∃ s b mp mw, e = .returned (.tuple #[.pointer (some ⟨s, 0, none⟩), .int .i64 0]) ∧ IsS w' s b mp mw (.slice none 0 0) 0 base (-1) [] [] ∧ (∀ k, SOf s b mp mw (.slice none 0 0) k → w.heap.size ≤ k) ∧ Below w.heap.size w w' := by
  have KN := Lib.hid (qnew_c 64 w)
  have e64 : clampQ 64 = 64 := by decide
  rw [e64] at KN
  have hmm := @run_makeMap Tryz.prog
  have FIN : Hid (∀ w1, IsQ w1 (w.heap.size + 1) 64 0 [] (.slice none 0 0) w.heap.size → Below w.heap.size w w1 → ∀ w2, w2 = (w1.alloc (.map #[] 0)).alloc (.cells #[.int .i64 base, .int .i64 (-1), .pointer (some ⟨w.heap.size + 1, 0, none⟩), .map (some w1.heap.size)] 128) →
      IsS w2 (w1.heap.size + 1) (w.heap.size + 1) w.heap.size w1.heap.size (.slice none 0 0) 0 base (-1) [] [] ∧ (∀ k, SOf (w1.heap.size + 1) (w.heap.size + 1) w.heap.size w1.heap.size (.slice none 0 0) k → w.heap.size ≤ k) ∧ Below w.heap.size w w2) := Lib.hid (fun w1 hq hb w2 he => by
    have hlt := hq.lt
    have hs := hb.size
    have hb2 : Below w1.heap.size w1 w2 := by rw [he]; exact ((Below.refl _ w1).alloc (Nat.le_refl _) _).alloc (by simp) _
    have q1 := hlt _ (.inl rfl)
    have q2 := hlt _ (.inr (.inl rfl))
    refine ⟨⟨?_, isQ_below hq hb2, ?_, List.Perm.refl _, ⟨List.Pairwise.nil, by simp, by simp, by omega, by omega, .inl rfl⟩, by omega, fun hk => ?_, fun hk => ?_⟩, fun k hk => ?_, hb.trans (hb2.mono hs)⟩
    · rw [he]
      have := World.alloc_heap_new (w1.alloc (.map #[] 0)) (.cells #[.int .i64 base, .int .i64 (-1), .pointer (some ⟨w.heap.size + 1, 0, none⟩), .map (some w1.heap.size)] 128)
      rwa [World.size_alloc] at this
    · rw [he]
      exact (WMap.new w1).keep (Below.heap_alloc _ _ _ (by simp))
    · have := hlt _ hk; omega
    · have := hlt _ hk; omega
    · rcases hk with rfl | rfl | hk
      · omega
      · omega
      · rcases hk with rfl | rfl | hk
        · omega
        · omega
        · simp [Value.ownBlock] at hk)
  have hd1 : decide (base < -1152921504606846976) = false := by simp; omega
  have hd2 : decide (1152921504606846976 < base) = false := by simp; omega
  clear h1 h2 e64
  go_enter Tryz.func66, Tryz.ntmps66
  go_wp2_with fail
  refine KN.out.mono ?_
  rintro e w1 ⟨rfl, hq, hb⟩
  have H1 := Lib.hid (FIN.out w1 hq hb _ rfl)
  clear hq hb KN FIN
  go_wp2_with fail
  go_ret2
  exact ⟨_, _, _, _, rfl, H1.out.1, H1.out.2.1, H1.out.2.2⟩
set_option maxRecDepth 100000 in
set_option maxHeartbeats 2000000 in
/-- .. and where it may not. -/
theorem pnew_no (base : Int) (w : World) (h : base < -1152921504606846976 ∨ 1152921504606846976 < base) :
    Calls Tryz.prog 66 #[.int .i64 base] w fun e w' => e = .returned (.tuple #[.pointer none, .int .i64 1]) ∧ w = w' := by
  by_cases h1 : base < -1152921504606846976
  · clear h
    go_enter Tryz.func66, Tryz.ntmps66
    go_wp2_with fail
    go_ret2
    exact ⟨rfl, rfl⟩
  · have h2 : 1152921504606846976 < base := by omega
    clear h
    go_enter Tryz.func66, Tryz.ntmps66
    go_wp2_with fail
    go_ret2
    exact ⟨rfl, rfl⟩
end
end Go.Proofs.YtandmngfajoinaaGreat
