/- The queue of points: add, Put. -/
import Derived.Test.YtandmngfajoinaaGreatSc
namespace Go.Proofs.YtandmngfajoinaaGreat
open Go.RowKit Go.Maps

section
variable {w w' : World} {s b mp mw : Nat} {v : Value} {st base cur : Int} {L : List QI} {R : List RI}
/-- What add answers, and what it leaves. -/
def addM (base : Int) (R : List RI) (x : RI) : Int × List RI :=
  if hasI R x.1 = true then (4, R) else if 64 ≤ R.length then (3, R) else (0, insR R (x.1, x.2.1, base - x.2.2))
theorem addM_put {base : Int} {R : List RI} {x : RI} {L : List QI} (hp : L.Perm (pL R)) (hd : Dist L) (ha : AscR R) : putV 64 L (base - x.2.2, x.1) = ((addM base R x).1, if (addM base R x).1 = 0 then insL L (base - x.2.2, x.1) else L) := by
  unfold putV addM
  rw [perm_key hp hd ha, perm_len hp]
  cases hasI R x.1 with
  | true => simp
  | false =>
    simp only [Bool.false_eq_true, if_false]
    by_cases h : 64 ≤ R.length
    · rw [if_pos (by omega), if_pos h]; simp
    · rw [if_neg (by omega), if_neg h]; simp
theorem addM_cases (base : Int) (R : List RI) (x : RI) : ((addM base R x).2 = R ∧ (addM base R x).1 ≠ 0) ∨ (hasI R x.1 = false ∧ R.length < 64 ∧ addM base R x = (0, insR R (x.1, x.2.1, base - x.2.2))) := by
  unfold addM
  cases h : hasI R x.1 with
  | true => simp
  | false =>
    by_cases hl : 64 ≤ R.length
    · simp [hl]
    · simp [hl]; omega

theorem IsS.drew (h : IsS w s b mp mw v st base cur L R) : IsS w.drew s b mp mw v st base cur L R := h.below (Below.refl _ w).drew
/-- The queue within has changed. -/
theorem IsS.step {v' : Value} {st' : Int} {L' : List QI} (h : IsS w s b mp mw v st base cur L R) (_hq : IsQ w' b 64 st' L' v' mp) (ht : Trip (QOf b v mp) w (QOf b v' mp) w') :
    SBox w' s base cur b mw ∧ WMap w' mw (wL R) ∧ ¬ QOf b v' mp s ∧ ¬ QOf b v' mp mw ∧ Trip (SOf s b mp mw v) w (SOf s b mp mw v') w' := by
  have hs := h.box.lt
  have hm := h.wm.lt
  refine ⟨h.box.keep (ht.block s hs h.n2), h.wm.keep (ht.block mw hm h.n3), fun hq' => ?_, fun hq' => ?_, ?_⟩
  · rcases ht.sub s hq' with h1 | h1
    · exact h.n2 h1
    · omega
  · rcases ht.sub mw hq' with h1 | h1
    · exact h.n3 h1
    · omega
  · refine ⟨ht.os, ht.tape, ht.output, ht.size, fun k hk hn => ht.block k hk (fun h1 => hn (.inr (.inr h1))), ?_, ?_⟩
    · rintro k (rfl | rfl | hk)
      · exact .inl (.inl rfl)
      · exact .inl (.inr (.inl rfl))
      · rcases ht.sub k hk with h1 | h1
        · exact .inl (.inr (.inr h1))
        · exact .inr h1
    · rintro k (rfl | rfl | hk)
      · have := ht.size; omega
      · have := ht.size; omega
      · exact ht.bd k hk

set_option maxRecDepth 100000 in
set_option maxHeartbeats 4000000 in
theorem sadd_c (x0 x1 x2 : Int) (w : World) (h : IsS w s b mp mw v st base cur L R) (hx : itemB (x0, x1, x2) = true) (h1 : -3900000000000000000 ≤ base) (h2 : base ≤ 3900000000000000000) (hs : 0 ≤ st) (hs' : st < 1000000000000000) :
    Calls Tryz.prog 68 #[.pointer (some ⟨s, 0, none⟩), .agg #[.int .i64 x0, .int .i64 x1, .int .i64 x2]] w fun e w' => e = .returned (.int .i64 (addM base R (x0, x1, x2)).1) ∧ SPost s b mp mw v st base cur (addM base R (x0, x1, x2)).2 8 w w' := by
  have hi := itemB_true.1 hx
  simp only at hi
  have hb1 : Below w.heap.size w (w.alloc (.cells #[.int .i64 x0, .int .i64 x1, .int .i64 x2] 69)) := (Below.refl _ w).alloc (Nat.le_refl _) _
  have hit : ItAt (w.alloc (.cells #[.int .i64 x0, .int .i64 x1, .int .i64 x2] 69)) w.heap.size (x0, x1, x2) := heap_alloc_new w _
  have hS1 := h.below hb1
  obtain ⟨w1, hw1⟩ : ∃ w1, w.alloc (.cells #[.int .i64 x0, .int .i64 x1, .int .i64 x2] 69) = w1 := ⟨_, rfl⟩
  have hsz : w1.heap.size = w.heap.size + 1 := by rw [← hw1]; simp
  rw [hw1] at hit hb1 hS1
  obtain ⟨-, -, c2, -, -, -⟩ := hS1.box.cells
  obtain ⟨d0, d1, d2, -, -, -⟩ := hit.cells
  simp only at d0 d1 d2
  have KP := Lib.hid (spoint_c x2 w1.drew (hS1.below (Below.refl _ w1).drew).box (by omega) (by omega) hi.2.2.2.1 hi.2.2.2.2)
  have KQ := Lib.hid (qput_c b mp 64 st v L (base - x2, x0) 7 w1.drew (hS1.below (Below.refl _ w1).drew).q (wf64_of (by omega) (by omega)) (wf64_of (by omega) (by omega)) (by have := h.len; omega) (by have := h.len; omega) (by omega) hs (by omega))
  rw [addM_put (x := (x0, x1, x2)) h.perm h.q.dist h.wf.asc] at KQ
  have hone := addM_cases base R (x0, x1, x2)
  have KQ' : Hid (Calls Tryz.prog 78 #[.pointer (some ⟨b, 0, none⟩), .int .i64 (base - x2), .int .i64 x0] w1.drew fun e w' => e = .returned (.int .i64 (addM base R (x0, x1, x2)).1) ∧
      (w'.cell? ⟨s, 2, none⟩ = some (.pointer (some ⟨b, 0, none⟩)) ∧ w'.cell? ⟨w.heap.size, 0, none⟩ = some (.int .i64 x0) ∧ w'.cell? ⟨w.heap.size, 2, none⟩ = some (.int .i64 x2)) ∧
      QPost b mp 64 st v (if (addM base R (x0, x1, x2)).1 = 0 then insL L (base - x2, x0) else L) 8 w1.drew w') := Lib.hid (KQ.out.mono (fun e w' ⟨he, hP⟩ => by
    refine ⟨he, ?_, hP⟩
    obtain ⟨v', k, -, -, ht⟩ := hP
    have e1 : w'.heap[s]? = w1.heap[s]? := ht.block s hS1.box.lt hS1.n2
    have e2 : w'.heap[w.heap.size]? = w1.heap[w.heap.size]? := ht.block _ (by show _ < w1.heap.size; omega) (fun hq => by have := h.q.lt _ hq; omega)
    exact ⟨(cellq_of e1 2).trans c2, (cellq_of e2 0).trans d0, (cellq_of e2 2).trans d2⟩))
  have HS := Lib.hid (And.intro c2 (And.intro d0 d2))
  have HF := Lib.hid (And.intro h (And.intro hi (And.intro hb1 (And.intro hit (And.intro hS1 (And.intro hsz (And.intro hs hs')))))))
  have HO := Lib.hid hone
  have HL := Lib.hid (And.intro h1 h2)
  generalize addM base R (x0, x1, x2) = a at *
  obtain ⟨a0, R'⟩ := a
  simp only at KQ' HO ⊢
  have HW := Lib.hid hw1
  clear h hi hb1 hit hS1 hsz KQ hone h1 h2 hs hs' hx hw1
  go_enter Tryz.func68, Tryz.ntmps68
  go_wp2_with fail
  rw [HW.out]
  go_region_held3 (fun w' => w'.cell? ⟨s, 2, none⟩ = some (.pointer (some ⟨b, 0, none⟩)) ∧ w'.cell? ⟨w.heap.size, 0, none⟩ = some (.int .i64 x0) ∧ w'.cell? ⟨w.heap.size, 2, none⟩ = some (.int .i64 x2)) (first | exact HS.out | exact HS2.out | go_keep)
    (first
      | (go_at_call 79; refine KP.out.mono ?_; rintro e w' ⟨rfl, rfl⟩)
      | (go_at_call 78; refine KQ'.out.mono ?_; rintro e w' ⟨rfl, hS, hP⟩; have HS2 := Lib.hid hS; have HP := Lib.hid hP; clear hS hP))
  have fin : ∀ w2 : World, QPost b mp 64 st v L 8 w1.drew w2 → SPost s b mp mw v st base cur R 8 w w2 := fun w2 hP => by
    obtain ⟨h, -, hb1, -, hS1, -⟩ := HF.out
    obtain ⟨v', k, hk, hq, ht⟩ := hP
    obtain ⟨g1, g2, g3, g4, g5⟩ := hS1.drew.step hq ht
    exact ⟨v', L, k, hk, ⟨g1, hq, g2, h.perm, h.wf, h.n1, g3, g4⟩, (h.self hb1).trans (Trip.undrew g5)⟩
  by_cases ha : a0 = 0
  · obtain ⟨hno, hlen, rfl⟩ : hasI R x0 = false ∧ R.length < 64 ∧ R' = insR R (x0, x1, base - x2) := by
      rcases HO.out with ⟨_, h2⟩ | ⟨h1, h2, h3⟩
      · exact absurd ha h2
      · injection h3 with h3 h4
        exact ⟨h1, h2, h4⟩
    subst ha
    have hP := HP.out
    rw [if_pos rfl] at hP
    obtain ⟨v', k, hk, hq, ht⟩ := hP
    have HQ := Lib.hid (And.intro hk (And.intro hq ht))
    obtain ⟨h, hi, hb1, hit, hS1, hsz, hs, hs'⟩ := HF.out
    obtain ⟨g1, g2, g3, g4, g5⟩ := hS1.drew.step hq ht
    have hn : ∀ z ∈ wL R, z.2 ≠ x0 := fun z hz he => by
      obtain ⟨r, hr, _, h2⟩ := mem_wL.1 hz
      exact hasI_no.1 hno r hr (h2.trans he)
    obtain ⟨w3, hrun, m1, m2, m3⟩ := (show WMap w'.drew mw (wL R) from g2.keep rfl).store (G' := (x1, x0) :: wL R) (wf64_of (a := x0) (by omega) (by omega)) (wf64_of (a := x1) (by omega) (by omega)) (by unfold wL; rw [List.length_map]; omega) (fun D hD => hD.add (x := (x1, x0)) hn)
    have FIN : Hid (SPost s b mp mw v st base cur (insR R (x0, x1, base - x2)) 8 w w3) := Lib.hid (by
      obtain ⟨q1, q2⟩ := HL.out
      have hb2 : w'.heap.size ≤ w3.heap.size := by rw [m3]; exact Nat.le_refl _
      have hk2 : ∀ j, j < w'.heap.size → j ≠ mw → w3.heap[j]? = w'.heap[j]? := fun j hj hne => m2.block j hj (fun e => hne (Option.some.inj e))
      refine ⟨v', _, k, hk, ⟨g1.keep (hk2 s g1.lt h.n1), hq.keep (fun j hj => hk2 j (hq.lt j hj) (fun e => g4 (e ▸ hj))), m1.perm (wL_ins R (x0, x1, base - x2)).symm, perm_ins h.perm (x0, x1, base - x2), h.wf.ins hno hlen ⟨hi.1, hi.2.1, hi.2.2.1.1, hi.2.2.1.2, by simp only; omega, by simp only; omega⟩, h.n1, g3, g4⟩, ?_⟩
      have h6 := (h.self hb1).trans (Trip.undrew g5)
      exact ⟨m2.os.trans h6.os, m2.tape.trans h6.tape, m2.output.trans h6.output, Nat.le_trans h6.size hb2, fun j hj hn => (hk2 j (Nat.lt_of_lt_of_le hj h6.size) (fun e => hn (e ▸ .inr (.inl rfl)))).trans (h6.block j hj hn), h6.sub, fun j hj => Nat.lt_of_lt_of_le (h6.bd j hj) hb2⟩)
    obtain ⟨-, -, -, y3, -, -⟩ := g1.cells
    have it2 : ItAt w' w.heap.size (x0, x1, x2) := (ht.block _ (by show _ < w1.heap.size; omega) (fun hq => by have := h.q.lt _ hq; omega)).trans hit
    obtain ⟨z0, z1, z2, -, -, -⟩ := it2.cells
    simp only at z0 z1 z2
    clear h hi hb1 hit hS1 hsz hs hs' hn m1 m2 m3 g1 g2 g3 g4 g5 it2 hk hq ht hno hlen HO HL KQ' KP HF fin HS HS2 HP HQ
    go_wp2_with fail
    go_still_tail 8, (by kernel_rfl)
    change wpList _ _ _ _ _ w'.drew
    go_wp2_with fail
    go_ret
    exact ⟨rfl, FIN.out⟩
  · have hr : R' = R := by
      rcases HO.out with ⟨h1, _⟩ | ⟨_, _, h3⟩
      · exact h1
      · injection h3 with h3; exact absurd h3 ha
    have hP := HP.out
    rw [if_neg ha] at hP
    have FIN := Lib.hid (fin _ hP)
    subst hr
    have ha' : (a0 != 0) = true := by simp [ha]
    clear hP HO HP fin KP KQ' HF
    go_wp2_with fail
    go_ret
    exact ⟨rfl, FIN.out⟩

/-- What Put answers, and what it leaves: the answer, the base, the tasks. -/
def putM (base : Int) (R : List RI) (x : RI) : Int × Int × List RI :=
  if itemB x = true then (if (addM base R x).1 = 0 then (0, raiseM base (addM base R x).2, (addM base R x).2) else ((addM base R x).1, base, R)) else (1, base, R)
theorem SPost.raise {K K' : Nat} {v' : Value} {L' : List QI} {R' : List RI} {base' : Int} {k : Nat} {w1 w2 : World} (hk : k ≤ K) (hKK : K ≤ K') (_h1 : IsS w1 s b mp mw v' (st + (k : Int)) base' cur L' R') (ht : Trip (SOf s b mp mw v) w (SOf s b mp mw v') w1) {base2 : Int} (h2 : IsS w2 s b mp mw v' (st + (k : Int)) base2 cur L' R') (ht2 : Trip (SOf s b mp mw v') w1 (SOf s b mp mw v') w2) : SPost s b mp mw v st base2 cur R' K' w w2 :=
  ⟨v', L', k, by omega, h2, ht.trans ht2⟩

set_option maxRecDepth 100000 in
set_option maxHeartbeats 4000000 in
theorem sput_c (x0 x1 x2 : Int) (w : World) (h : IsS w s b mp mw v st base cur L R) (h1 : -3900000000000000000 ≤ base) (h2 : base ≤ 3900000000000000000) (hs : 0 ≤ st) (hs' : st < 1000000000000000) :
    Calls Tryz.prog 136 #[.pointer (some ⟨s, 0, none⟩), .int .i64 x0, .int .i64 x1, .int .i64 x2] w fun e w' => e = .returned (.int .i64 (putM base R (x0, x1, x2)).1) ∧ SPost s b mp mw v st (putM base R (x0, x1, x2)).2.1 cur (putM base R (x0, x1, x2)).2.2 8 w w' := by
  have hb1 : Below w.heap.size w (w.alloc (.cells #[.int .i64 x0, .int .i64 x1, .int .i64 x2] 69)) := (Below.refl _ w).alloc (Nat.le_refl _) _
  have hit : ItAt (w.alloc (.cells #[.int .i64 x0, .int .i64 x1, .int .i64 x2] 69)) w.heap.size (x0, x1, x2) := heap_alloc_new w _
  obtain ⟨w1, hw1⟩ : ∃ w1, w.alloc (.cells #[.int .i64 x0, .int .i64 x1, .int .i64 x2] 69) = w1 := ⟨_, rfl⟩
  have hsz : w1.heap.size = w.heap.size + 1 := by rw [← hw1]; simp
  rw [hw1] at hit hb1
  have KM := Lib.hid (smay_c x0 x1 x2 w1)
  obtain ⟨M, hM⟩ : ∃ M, putM base R (x0, x1, x2) = M := ⟨_, rfl⟩
  rw [hM]
  have HM := Lib.hid hM
  have HW := Lib.hid hw1
  obtain ⟨d0, d1, d2, -, -, -⟩ := hit.cells
  simp only at d0 d1 d2
  have H := Lib.hid (And.intro h (And.intro hb1 (And.intro hit (And.intro hsz (And.intro h1 (And.intro h2 (And.intro hs hs')))))))
  cases hI : itemB (x0, x1, x2) with
  | false =>
    rw [hI] at KM
    have hm : M = (1, base, R) := by rw [← hM]; unfold putM; rw [hI, if_neg (by decide)]
    subst hm
    simp only
    clear h hb1 hit hsz h1 h2 hs hs' hM HM hw1 hI
    go_enter Tryz.func136, Tryz.ntmps136
    go_wp2_with fail
    rw [HW.out]
    go_wp2_with fail
    refine KM.out.mono ?_
    rintro e w2 ⟨rfl, hb2⟩
    have HB := Lib.hid hb2
    clear hb2 KM
    go_wp2_with fail
    go_ret
    obtain ⟨h, hb1, -⟩ := H.out
    exact ⟨rfl, SPost.same h (hb1.trans (HB.out.mono (by have := hb1.size; omega)))⟩
  | true =>
    rw [hI] at KM
    have KA : Hid (∀ w2, Below w1.heap.size w1 w2 → Calls Tryz.prog 68 #[.pointer (some ⟨s, 0, none⟩), .agg #[.int .i64 x0, .int .i64 x1, .int .i64 x2]] w2 fun e w' => e = .returned (.int .i64 (addM base R (x0, x1, x2)).1) ∧ SPost s b mp mw v st base cur (addM base R (x0, x1, x2)).2 8 w w') := Lib.hid (fun w2 hb2 => by
      have hb3 := hb1.trans (hb2.mono (by omega))
      refine (sadd_c x0 x1 x2 w2 (h.below hb3) hI h1 h2 hs hs').mono ?_
      rintro e w' ⟨he, v', L', k, hk, hq, ht⟩
      exact ⟨he, v', L', k, hk, hq, (h.self hb3).trans ht⟩)
    have hm : M = if (addM base R (x0, x1, x2)).1 = 0 then (0, raiseM base (addM base R (x0, x1, x2)).2, (addM base R (x0, x1, x2)).2) else ((addM base R (x0, x1, x2)).1, base, R) := by rw [← hM]; unfold putM; rw [hI, if_pos rfl]
    have HC := Lib.hid (addM_cases base R (x0, x1, x2))
    generalize addM base R (x0, x1, x2) = a at *
    obtain ⟨a0, R'⟩ := a
    simp only at hm HC KA
    have Hm := Lib.hid hm
    clear h hb1 hit hsz h1 h2 hs hs' hM HM hw1 hI hm
    go_enter Tryz.func136, Tryz.ntmps136
    go_wp2_with fail
    rw [HW.out]
    go_wp2_with fail
    refine KM.out.mono ?_
    rintro e w2 ⟨rfl, hb2⟩
    have HB := Lib.hid hb2
    have hit2 : ItAt w2 w.heap.size (x0, x1, x2) := by
      obtain ⟨h, hb1, hit, hsz, -⟩ := H.out
      exact BoxAt.next hit hb2 (by omega)
    obtain ⟨d0, d1, d2, -, -, -⟩ := hit2.cells
    simp only at d0 d1 d2
    clear hb2 KM hit2
    go_wp2_with fail
    refine (KA.out _ HB.out).mono ?_
    rintro e w3 ⟨rfl, hP⟩
    have HP := Lib.hid hP
    clear hP KA d0 d1 d2
    by_cases ha : a0 = 0
    · subst ha
      have hm := Hm.out
      rw [if_pos rfl] at hm
      subst hm
      simp only
      obtain ⟨v', L', k, hk, hq, ht⟩ := HP.out
      have KR := Lib.hid (sraise_c w3 hq)
      have HQ := Lib.hid (And.intro hk (And.intro hq ht))
      clear hk hq ht HP Hm
      go_wp2_with fail
      refine KR.out.mono ?_
      rintro e w4 ⟨rfl, hq, ht⟩
      have HR := Lib.hid (And.intro hq ht)
      clear hq ht KR
      go_wp2_with fail
      go_ret
      obtain ⟨hk, hq, ht⟩ := HQ.out
      exact ⟨rfl, SPost.raise hk (Nat.le_refl _) hq ht HR.out.1 HR.out.2⟩
    · have ha' : (a0 != 0) = true := by simp [ha]
      have hm := Hm.out
      rw [if_neg ha] at hm
      have hr : R' = R := by
        rcases HC.out with ⟨h1, _⟩ | ⟨_, _, h3⟩
        · exact h1
        · injection h3 with h3; exact absurd h3 ha
      subst hm hr
      simp only
      go_wp2_with fail
      go_ret
      exact ⟨rfl, HP.out⟩

end
end Go.Proofs.YtandmngfajoinaaGreat
