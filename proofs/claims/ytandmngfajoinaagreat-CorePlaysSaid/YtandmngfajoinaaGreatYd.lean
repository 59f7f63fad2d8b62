/- Forms: slices.MinFunc at Front's order, Front. -/
import Derived.Test.YtandmngfajoinaaGreatYc
namespace Go.Proofs.YtandmngfajoinaaGreat
open Go.RowKit

/-- The best of m and those of a list: the first of several. -/
def bestF : RI → List RI → RI
  | m, [] => m
  | m, x :: xs => bestF (if befF x m then x else m) xs
theorem bestF_step {m r : RI} {l : List RI} {k : Nat} (h : l[k]? = some r) : bestF m (l.drop k) = bestF (if befF r m then r else m) (l.drop (k + 1)) := by
  obtain ⟨hlt, he⟩ := List.getElem?_eq_some_iff.1 h
  rw [List.drop_eq_getElem_cons hlt, he, bestF]
theorem bestF_end (m : RI) (l : List RI) : bestF m (l.drop l.length) = m := by rw [List.drop_length]; rfl
theorem lt_zero_eq (z : Int) : decide (z < 0) = false → ¬ z < 0 := by simp

set_option maxRecDepth 100000 in
set_option maxHeartbeats 4000000 in
theorem minFunc_c (A : Option Addr) (n c : Nat) (x : RI) (l : List RI) (w : World) (hn : l.length = n) (hl : n ≤ 4611686018427387904) (h0 : l[0]? = some x) (hr : TRow w A l) :
    Calls Tryz.prog 86 #[.slice A n c, .func (.func 87) #[] #[]] w (Ret10 (.agg (encR (bestF x (l.drop 1))).toArray) w) := by
  obtain ⟨ad, rfl, q0, q1, q2⟩ := hr.at h0
  have hn1 : 1 ≤ n := by have := (List.getElem?_eq_some_iff.1 h0).1; omega
  have HR := Lib.hid hr
  have HN := Lib.hid hn
  have Q := Lib.hid (And.intro q0 (And.intro q1 q2))
  obtain ⟨F, hF⟩ : ∃ F, bestF x (l.drop 1) = F := ⟨_, rfl⟩
  have HF := Lib.hid hF
  rw [hF]
  clear hF
  have hd1 : decide ((n : Int) < 1) = false := by simp; omega
  clear hr hn h0 q0 q1 q2
  have HB1 := Lib.hid ((Below.refl _ w).alloc (Nat.le_refl _) (.cells #[.int .i64 0, .int .i64 0, .int .i64 0] 69))
  obtain ⟨p0, p1, p2⟩ : Cells3 (w.alloc (.cells #[.int .i64 0, .int .i64 0, .int .i64 0] 69)) (ad.add (0 * 3)) x := Cells3.below ⟨Q.out.1, Q.out.2.1, Q.out.2.2⟩ HB1.out (Nat.le_refl _)
  have e0 : ad.add (0 * 3) = ad := rfl
  rw [e0] at p0 p1 p2
  clear Q e0
  go_enter Tryz.func86, Tryz.ntmps86
  go_wp2_with fail
  obtain ⟨w2, hw2⟩ : ∃ w2, ((w.alloc (.cells #[.int .i64 0, .int .i64 0, .int .i64 0] 69)).alloc (.cells #[.int .i64 x.1, .int .i64 x.2.1, .int .i64 x.2.2] 69)) = w2 := ⟨_, rfl⟩
  have hb : Below w.heap.size w w2 := by rw [← hw2]; exact HB1.out.alloc (by simp) _
  have h1 : ItAt w2 w.heap.size (0, 0, 0) := by rw [← hw2]; exact heap_alloc2_old w _ _
  have h2 : ItAt w2 (w.heap.size + 1) x := by rw [← hw2]; exact heap_alloc2_new w _ _
  rw [hw2]
  have H2 := Lib.hid (And.intro hb (And.intro h1 h2))
  clear hw2 hb h1 h2 HB1 p0 p1 p2
  go_loopw [6] (fun i wr => ∃ (k : Nat) (r : RI), i = .int .i64 k ∧ k ≤ n ∧ 1 ≤ k ∧ bestF r (l.drop k) = F ∧ Below w.heap.size w wr ∧ ItAt wr w.heap.size (0, 0, 0) ∧ ItAt wr (w.heap.size + 1) r) (fun i _ => n - (intOf i).toNat)
  case atStart => exact ⟨1, x, rfl, hn1, Nat.le_refl _, HF.out, H2.out.1, H2.out.2.1, H2.out.2.2⟩
  case round =>
    obtain ⟨k, r, rfl, hk, hk1, hat, hb, hz, hm⟩ := hrel
    have HAT := Lib.hid hat
    have HB := Lib.hid hb
    have HZ := Lib.hid hz
    have HM := Lib.hid hm
    clear hat hb hz hm H2 HF
    obtain ⟨m0, m1, m2, -, -, -⟩ := HM.out.cells
    by_cases hlt : k < n
    · obtain ⟨y, hx⟩ : ∃ y, l[k]? = some y := ⟨_, List.getElem?_eq_getElem (by rw [HN.out]; exact hlt)⟩
      obtain ⟨ad', he, c0, c1, c2⟩ := (HR.out.below HB.out (Nat.le_refl _)).at hx
      obtain rfl := Option.some.inj he
      have HS := Lib.hid (bestF_step (m := r) hx)
      have HK := Lib.hid (front1_c y.1 y.2.1 y.2.2 r.1 r.2.1 r.2.2 wr.drew)
      have HC := Lib.hid (show Cells3 wr (ad.add (k * 3)) y from ⟨c0, c1, c2⟩)
      clear hx he
      obtain ⟨y0, y1, y2⟩ := y
      obtain ⟨r0, r1, r2⟩ := r
      have hlt' : (k : Int) < (n : Int) := by omega
      go_wp2_with fail
      go_still_tail 6, (by kernel_rfl)
      change wpList _ _ _ _ _ wr.drew
      go_wp2_with fail
      refine HK.out.mono ?_
      rintro e w1 ⟨rfl, hb1⟩
      have hb1' : Below wr.heap.size wr w1 := (Below.refl _ wr).drew.trans hb1
      have HB1 := Lib.hid (HB.out.trans (hb1'.mono HB.out.size))
      have HZ1 := Lib.hid (BoxAt.next HZ.out hb1' (Nat.le_refl _))
      have HM1 := Lib.hid (show ItAt w1 (w.heap.size + 1) (r0, r1, r2) from BoxAt.next HM.out hb1' (Nat.le_refl _))
      obtain ⟨d0, d1, d2⟩ := HC.out.below hb1' (Nat.le_refl _)
      clear hb1 hb1' HK c0 c1 c2 m0 m1 m2 HZ HM
      obtain ⟨m0, m1, m2, f0, f1, f2⟩ := ItAt.cells HM1.out
      cases hp : befF (y0, y1, y2) (r0, r1, r2)
      · have HP := Lib.hid hp
        have hp' : decide (cmpF (y0, y1, y2) (r0, r1, r2) < 0) = false := hp
        clear hp
        go_wp2_with fail
        go_roundw
        case rel => exact ⟨k + 1, (r0, r1, r2), by go_num, by omega, by omega, by rw [← HAT.out, HS.out, HP.out]; rfl, HB1.out, HZ1.out, HM1.out⟩
        case measure => simp [intOf]; omega
      · have HP := Lib.hid hp
        have hp' : decide (cmpF (y0, y1, y2) (r0, r1, r2) < 0) = true := hp
        clear hp
        go_wp2_with fail
        go_roundw
        case rel => exact ⟨k + 1, (y0, y1, y2), by go_num, by omega, by omega, by rw [← HAT.out, HS.out, HP.out]; rfl, Below.set3 HB1.out (by omega) _ _ _, BoxAt.other3 HZ1.out (by omega) _ _ _, ItAt.set HM1.out _ _ _⟩
        case measure => simp [intOf]; omega
    · obtain rfl : k = n := by omega
      obtain ⟨z0, z1, z2, f0, f1, f2⟩ := HZ.out.cells
      go_wp2_with fail
      refine bodyPost_ret (res_box1 rfl _ w.heap.size #[.int .i64 r.1, .int .i64 r.2.1, .int .i64 r.2.2] _ rfl (ItAt.set HZ.out _ _ _) Tryz.underlying69 rfl (by kernel_rfl)) rfl ?_
      refine ⟨?_, Below.set3 HB.out (by omega) _ _ _⟩
      have e1 : r = F := by rw [← HAT.out, ← HN.out]; exact (bestF_end r l).symm
      rw [← e1]
      rfl

/-- Who is owed most, of a form; is there one? -/
def frontV : List RI → RI
  | [] => (0, 0, 0)
  | x :: xs => bestF x xs
def someL : List RI → Bool
  | [] => false
  | _ :: _ => true

set_option maxRecDepth 100000 in
set_option maxHeartbeats 2000000 in
theorem front_c (f0 : Int) (A : Option Addr) (n c : Nat) (l : List RI) (w : World) (hn : l.length = n) (hl : n ≤ 4611686018427387904) (hr : TRow w A l) :
    Calls Tryz.prog 77 #[.agg #[.int .i64 f0, .slice A n c]] w (Ret10 (.tuple #[.agg #[.int .i64 (frontV l).1, .int .i64 (frontV l).2.1, .int .i64 (frontV l).2.2], .bool (someL l)]) w) := by
  obtain ⟨W, hW⟩ : ∃ W, (w.alloc (.cells #[.int .i64 f0, .slice A n c] 47)).alloc (.cells #[.int .i64 0, .int .i64 0, .int .i64 0] 69) = W := ⟨_, rfl⟩
  have hb : Below w.heap.size w W := by rw [← hW]; exact ((Below.refl _ w).alloc (Nat.le_refl _) _).alloc (by simp) _
  have hz : ItAt W (w.heap.size + 1) (0, 0, 0) := by rw [← hW]; exact heap_alloc2_new w _ _
  cases l with
  | nil =>
    have hn0 : n = 0 := hn.symm
    subst hn0
    have HW := Lib.hid hW
    have H := Lib.hid (And.intro hb hz)
    clear hW hb hz hr hn
    go_enter Tryz.func77, Tryz.ntmps77
    go_wp2_with fail
    rw [HW.out]
    refine bodyPost_ret (res_box rfl _ (w.heap.size + 1) #[.int .i64 0, .int .i64 0, .int .i64 0] _ _ rfl rfl H.out.2 Tryz.underlying69 rfl (by kernel_rfl)) rfl ?_
    exact ⟨rfl, H.out.1⟩
  | cons x xs =>
    have hn0 : ((n : Int) == 0) = false := by simp at hn ⊢; omega
    have K1 := Lib.hid (minFunc_c A n c x (x :: xs) W hn hl rfl (hr.below hb (Nat.le_refl _)))
    have HW := Lib.hid hW
    have H := Lib.hid (And.intro hb hz)
    have HV : Hid (bestF x ((x :: xs).drop 1) = frontV (x :: xs)) := Lib.hid rfl
    rw [HV.out] at K1
    have HT : Hid (someL (x :: xs) = true) := Lib.hid rfl
    generalize frontV (x :: xs) = r at *
    generalize someL (x :: xs) = bb at *
    obtain ⟨r0, r1, r2⟩ := r
    clear hW hb hz hr hn HV
    go_enter Tryz.func77, Tryz.ntmps77
    go_wp2_with fail
    rw [HW.out]
    refine K1.out.mono ?_
    rintro e w1 ⟨rfl, hb1⟩
    have hs := H.out.2.lt
    have HZ := Lib.hid (show ItAt w1 (w.heap.size + 1) (0, 0, 0) from BoxAt.next H.out.2 hb1 (Nat.le_refl _))
    have HB := Lib.hid (H.out.1.trans (hb1.mono H.out.1.size))
    obtain ⟨z0, z1, z2, g0, g1, g2⟩ := HZ.out.cells
    clear hb1 hs
    simp only [encR]
    go_wp2_with fail
    refine bodyPost_ret (res_box rfl _ (w.heap.size + 1) #[.int .i64 r0, .int .i64 r1, .int .i64 r2] _ _ rfl rfl ((HZ.out.set r0 r1 r2)) Tryz.underlying69 rfl (by kernel_rfl)) rfl ?_
    exact ⟨by rw [HT.out]; rfl, Below.set3 HB.out (by omega) _ _ _⟩
end Go.Proofs.YtandmngfajoinaaGreat
