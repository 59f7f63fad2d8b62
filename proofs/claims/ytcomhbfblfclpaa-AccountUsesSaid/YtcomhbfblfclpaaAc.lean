/- Quotas: New, Use, Tick. -/
import Derived.Test.YtcomhbfblfclpaaAb
namespace Go.Proofs.Ytcomhbfblfclpaa
open Go.RowKit

def newB (q p : Int) : Bool := inB 1 q 1073741824 && inB 1 p 1073741824
def newQ (q p : Int) : Int := if newB q p then q else 0
def newP (q p : Int) : Int := if newB q p then p else 0
def newE (q p : Int) : Int := if newB q p || (decide (q = 0) && decide (p = 0)) then 0 else 1
theorem newB_true {q p : Int} : newB q p = true ↔ 1 ≤ q ∧ q ≤ 1073741824 ∧ 1 ≤ p ∧ p ≤ 1073741824 := by unfold newB; simp [inB_true]; omega
theorem goodA_new (q p : Int) : goodA q p q 0 = (newB q p || (decide (q = 0) && decide (p = 0))) := by
  rw [Bool.eq_iff_iff]
  unfold goodA zeroB
  simp [limB_true, newB_true]
  omega

set_option maxRecDepth 100000 in
set_option maxHeartbeats 1000000 in
theorem new_c (q p : Int) (w : World) :
    Calls Try.prog 8 #[.int .i64 q, .int .i64 p] w (Ret8 (.tuple #[.agg #[.int .i64 (newQ q p), .int .i64 (newP q p), .int .i64 (newQ q p), .int .i64 0], .int .i64 (newE q p)]) w) := by
  have K1 := Lib.hid (fun w => good_c q p q 0 w)
  have HV : Hid (newQ q p = (if newB q p then q else 0) ∧ newP q p = (if newB q p then p else 0) ∧ newE q p = (if goodA q p q 0 then 0 else 1)) := Lib.hid ⟨rfl, rfl, by rw [goodA_new]; rfl⟩
  have HG := Lib.hid (goodA_new q p)
  generalize goodA q p q 0 = b at *
  generalize newB q p = nb at *
  generalize newQ q p = v0 at *
  generalize newP q p = v1 at *
  generalize newE q p = v2 at *
  cases b
  · go_enter Try.func8, Try.ntmps8
    go_wp2_with fail
    refine (K1.out _).mono ?_
    rintro e w1 ⟨rfl, hb⟩
    obtain ⟨ha, ha2, hb, hs⟩ := AcAt.call2 hb
    obtain ⟨c0, c1, c2, c3, c4, c5, c6, c7⟩ := ha.cells
    obtain ⟨d0, d1, d2, d3, -⟩ := ha2.cells
    have HA := Lib.hid ha
    have HB := Lib.hid hb
    clear hb ha ha2
    go_wp2_with fail
    refine bodyPost_ret (res_ac rfl _ w.heap.size 0 0 0 0 _ _ rfl rfl (HA.out.setAll _ _ _ _) Try.underlying24 rfl (by kernel_rfl)) rfl ?_
    refine ⟨?_, Below.setAll HB.out (Nat.le_refl _) _ _ _ _⟩
    obtain ⟨e0, e1, e2⟩ := HV.out
    have hg := HG.out
    have hnb : nb = false := by cases nb; rfl; simp at hg
    rw [e0, e1, e2, hnb]
    rfl
  · go_enter Try.func8, Try.ntmps8
    go_wp2_with fail
    refine (K1.out _).mono ?_
    rintro e w1 ⟨rfl, hb⟩
    obtain ⟨ha, ha2, hb, hs⟩ := AcAt.call2 hb
    obtain ⟨c0, c1, c2, c3, c4, c5, c6, c7⟩ := ha.cells
    obtain ⟨d0, d1, d2, d3, -⟩ := ha2.cells
    have HA := Lib.hid ha
    have HB := Lib.hid hb
    clear hb ha ha2
    go_wp2_with fail
    refine bodyPost_ret (res_ac rfl _ w.heap.size q p q 0 _ _ rfl rfl (HA.out.setAll _ _ _ _) Try.underlying24 rfl (by kernel_rfl)) rfl ?_
    refine ⟨?_, Below.setAll HB.out (Nat.le_refl _) _ _ _ _⟩
    obtain ⟨e0, e1, e2⟩ := HV.out
    have hg := HG.out
    rw [e0, e1, e2]
    cases nb
    · simp at hg
      obtain ⟨rfl, rfl⟩ := hg
      rfl
    · rfl

def useE (q p l f : Int) : Int := if goodA q p l f = false then 1 else if limB q p l f && decide (l = 0) then 14 else 0
def useOk (q p l f : Int) : Bool := goodA q p l f && !(limB q p l f && decide (l = 0))
def useL (q p l f : Int) : Int := if useOk q p l f then (if limB q p l f then l - 1 else l) else 0
def orZ (b : Bool) (x : Int) : Int := if b then x else 0
def useV (q p l f : Int) : Value := .tuple #[.agg #[.int .i64 (orZ (useOk q p l f) q), .int .i64 (orZ (useOk q p l f) p), .int .i64 (useL q p l f), .int .i64 (orZ (useOk q p l f) f)], .int .i64 (useE q p l f)]

set_option maxRecDepth 100000 in
set_option maxHeartbeats 2000000 in
theorem use_c (q p l f : Int) (w : World) :
    Calls Try.prog 9 #[.agg #[.int .i64 q, .int .i64 p, .int .i64 l, .int .i64 f]] w (Ret8 (useV q p l f) w) := by
  have K1 := Lib.hid (fun w => good_c q p l f w)
  have K2 := Lib.hid (fun w => spent_c q p l f w)
  have K3 := Lib.hid (fun w => limited_c q p l f w)
  have hL := @limB_true q p l f
  obtain ⟨v, hv⟩ : ∃ v, useV q p l f = v := ⟨_, rfl⟩
  rw [hv]
  unfold useV useE useL useOk at hv
  generalize goodA q p l f = b1 at *
  generalize limB q p l f = b3 at *
  have HV := Lib.hid hv
  clear hv
  cases b1
  · clear hL
    go_enter Try.func9, Try.ntmps9
    go_wp2_with fail
    refine (K1.out _).mono ?_
    rintro e w1 ⟨rfl, hb⟩
    obtain ⟨ha, ha2, hb, hs⟩ := AcAt.call2 hb
    obtain ⟨c0, c1, c2, c3, c4, c5, c6, c7⟩ := ha2.cells
    have HA := Lib.hid ha2
    have HB := Lib.hid hb
    clear hb ha ha2
    go_wp2_with fail
    refine bodyPost_ret (res_ac rfl _ (w.heap.size + 1) 0 0 0 0 _ _ rfl rfl (HA.out.setAll _ _ _ _) Try.underlying24 rfl (by kernel_rfl)) rfl ?_
    refine ⟨?_, Below.setAll HB.out (by omega) _ _ _ _⟩
    rw [← HV.out]
    rfl
  obtain ⟨b2, hb2⟩ : ∃ b2, (b3 && decide (l = 0)) = b2 := ⟨_, rfl⟩
  rw [hb2] at K2 HV
  cases b2
  · cases b3
    · clear hL hb2
      go_enter Try.func9, Try.ntmps9
      go_wp2_with fail
      refine (K1.out _).mono ?_
      rintro e w1 ⟨rfl, hb⟩
      obtain ⟨ha, ha2, hb, hs⟩ := AcAt.call2 hb
      obtain ⟨c0, c1, c2, c3, -⟩ := ha.cells
      have HA := Lib.hid ha
      have HA2 := Lib.hid ha2
      have HB := Lib.hid hb
      clear hb ha ha2
      go_wp2_with fail
      refine (K2.out _).mono ?_
      rintro e w2 ⟨rfl, hb⟩
      have hs2 := hb.size
      have ha := HA.out.below hb HA.out.lt
      have ha2 := HA2.out.below hb HA2.out.lt
      have hb2 := HB.out.trans (hb.mono (by omega))
      clear hb HA HA2 HB c0 c1 c2 c3
      obtain ⟨c0, c1, c2, c3, -⟩ := ha.cells
      have HA := Lib.hid ha
      have HA2 := Lib.hid ha2
      have HB := Lib.hid hb2
      clear ha ha2 hb2
      go_wp2_with fail
      refine (K3.out _).mono ?_
      rintro e w3 ⟨rfl, hb⟩
      have hs3 := hb.size
      have ha := HA.out.below hb HA.out.lt
      have ha2 := HA2.out.below hb HA2.out.lt
      have hb2 := HB.out.trans (hb.mono (by omega))
      clear hb HA HA2 HB c0 c1 c2 c3
      obtain ⟨c0, c1, c2, c3, -⟩ := ha.cells
      obtain ⟨d0, d1, d2, d3, d4, d5, d6, d7⟩ := ha2.cells
      have HA2 := Lib.hid ha2
      have HB := Lib.hid hb2
      clear ha ha2 hb2
      go_wp2_with fail
      refine bodyPost_ret (res_ac rfl _ (w.heap.size + 1) q p l f _ _ rfl rfl (HA2.out.setAll _ _ _ _) Try.underlying24 rfl (by kernel_rfl)) rfl ?_
      refine ⟨?_, Below.setAll HB.out (by omega) _ _ _ _⟩
      rw [← HV.out]
      rfl
    · obtain ⟨a1, a2, a3, a4, a5, a6, a7, a8⟩ := hL.1 rfl
      have hl0 : 1 ≤ l := by simp at hb2; omega
      clear hL hb2
      go_enter Try.func9, Try.ntmps9
      go_wp2_with fail
      refine (K1.out _).mono ?_
      rintro e w1 ⟨rfl, hb⟩
      obtain ⟨ha, ha2, hb, hs⟩ := AcAt.call2 hb
      obtain ⟨c0, c1, c2, c3, -⟩ := ha.cells
      have HA := Lib.hid ha
      have HA2 := Lib.hid ha2
      have HB := Lib.hid hb
      clear hb ha ha2
      go_wp2_with fail
      refine (K2.out _).mono ?_
      rintro e w2 ⟨rfl, hb⟩
      have hs2 := hb.size
      have ha := HA.out.below hb HA.out.lt
      have ha2 := HA2.out.below hb HA2.out.lt
      have hb2 := HB.out.trans (hb.mono (by omega))
      clear hb HA HA2 HB c0 c1 c2 c3
      obtain ⟨c0, c1, c2, c3, -⟩ := ha.cells
      have HA := Lib.hid ha
      have HA2 := Lib.hid ha2
      have HB := Lib.hid hb2
      clear ha ha2 hb2
      go_wp2_with fail
      refine (K3.out _).mono ?_
      rintro e w3 ⟨rfl, hb⟩
      have hs3 := hb.size
      have ha := HA.out.below hb HA.out.lt
      have ha2 := HA2.out.below hb HA2.out.lt
      have hb2 := HB.out.trans (hb.mono (by omega))
      clear hb HA HA2 HB c0 c1 c2 c3
      obtain ⟨c0, c1, c2, c3, e0, e1, e2, e3⟩ := ha.cells
      obtain ⟨d0, d1, d2, d3, d4, d5, d6, d7⟩ := ha2.cells
      have HA2 := Lib.hid (ha2.other (a := ⟨w.heap.size, 2, none⟩) (by simp) (.int .i64 (l - 1)))
      have HB := Lib.hid (hb2.setCell (p := ⟨w.heap.size, 2, none⟩) (Nat.le_refl _) (.int .i64 (l - 1)))
      clear ha ha2 hb2
      go_wp2_with fail
      refine bodyPost_ret (res_ac rfl _ (w.heap.size + 1) q p (l - 1) f _ _ rfl rfl (HA2.out.setAll _ _ _ _) Try.underlying24 rfl (by kernel_rfl)) rfl ?_
      refine ⟨?_, Below.setAll HB.out (by omega) _ _ _ _⟩
      rw [← HV.out]
      rfl
  · clear hL hb2
    go_enter Try.func9, Try.ntmps9
    go_wp2_with fail
    refine (K1.out _).mono ?_
    rintro e w1 ⟨rfl, hb⟩
    obtain ⟨ha, ha2, hb, hs⟩ := AcAt.call2 hb
    obtain ⟨c0, c1, c2, c3, -⟩ := ha.cells
    have HA2 := Lib.hid ha2
    have HB := Lib.hid hb
    clear hb ha ha2
    go_wp2_with fail
    refine (K2.out _).mono ?_
    rintro e w2 ⟨rfl, hb⟩
    have hs2 := hb.size
    have ha2 := HA2.out.below hb HA2.out.lt
    have hb2 := HB.out.trans (hb.mono (by omega))
    clear hb HA2 HB c0 c1 c2 c3
    obtain ⟨d0, d1, d2, d3, d4, d5, d6, d7⟩ := ha2.cells
    have HA2 := Lib.hid ha2
    have HB := Lib.hid hb2
    clear ha2 hb2
    go_wp2_with fail
    refine bodyPost_ret (res_ac rfl _ (w.heap.size + 1) 0 0 0 0 _ _ rfl rfl (HA2.out.setAll _ _ _ _) Try.underlying24 rfl (by kernel_rfl)) rfl ?_
    refine ⟨?_, Below.setAll HB.out (by omega) _ _ _ _⟩
    rw [← HV.out]
    rfl
end Go.Proofs.Ytcomhbfblfclpaa
