/- Forms: Good. -/
import Derived.Test.YtandmngfajoinaaGreatYd
namespace Go.Proofs.YtandmngfajoinaaGreat
open Go.RowKit

/-- The IDs ascend from the one behind last, and each item may be. -/
def ascB : Int → List RI → Bool
  | _, [] => true
  | last, x :: xs => decide (last < x.1) && itemB x && ascB x.1 xs
theorem ascB_step {q : Int} {r : RI} {l : List RI} {k : Nat} (h : l[k]? = some r) : ascB q (l.drop k) = (decide (q < r.1) && itemB r && ascB r.1 (l.drop (k + 1))) := by
  obtain ⟨hlt, he⟩ := List.getElem?_eq_some_iff.1 h
  rw [List.drop_eq_getElem_cons hlt, he, ascB]
theorem ascB_end (q : Int) (l : List RI) : ascB q (l.drop l.length) = true := by rw [List.drop_length]; rfl
/-- May a form be? -/
def goodV (c : Int) (l : List RI) : Bool := decide (l.length ≤ 64) && ascB (-1) l && (decide (c = -1) || hasL c l) && (!someL l || decide (0 ≤ (frontV l).2.2))

set_option maxRecDepth 100000 in
set_option maxHeartbeats 8000000 in
theorem good_c (f0 : Int) (A : Option Addr) (n c : Nat) (l : List RI) (w : World) (hn : l.length = n) (hl : n ≤ 4611686018427387904) (hr : TRow w A l) :
    Calls Tryz.prog 67 #[.agg #[.int .i64 f0, .slice A n c]] w (Ret10 (.bool (goodV f0 l)) w) := by
  have HB0 := Lib.hid ((Below.refl _ w).alloc (Nat.le_refl _) (.cells #[.int .i64 f0, .slice A n c] 47))
  have HF0 := Lib.hid (show FoAt (w.alloc (.cells #[.int .i64 f0, .slice A n c] 47)) w.heap.size f0 A n c from heap_alloc_new w _)
  have HV : Hid (goodV f0 l = (decide (n ≤ 64) && ascB (-1) l && (decide (f0 = -1) || hasL f0 l) && (!someL l || decide (0 ≤ (frontV l).2.2)))) := Lib.hid (by rw [← hn]; rfl)
  generalize goodV f0 l = V at *
  have HR := Lib.hid hr
  have HN := Lib.hid hn
  by_cases h64 : n ≤ 64
  · have hd1 : decide ((64 : Int) < (n : Int)) = false := by simp; omega
    have KH : Hid (∀ W, Below w.heap.size w W → Calls Tryz.prog 76 #[.agg #[.int .i64 f0, .slice A n c], .int .i64 f0] W (Ret10 (.bool (hasL f0 l)) W)) := Lib.hid (fun W hb => has_c f0 A n c f0 l W hn (by omega) (hr.below hb (Nat.le_refl _)))
    have KF : Hid (∀ W, Below w.heap.size w W → Calls Tryz.prog 77 #[.agg #[.int .i64 f0, .slice A n c]] W (Ret10 (.tuple #[.agg #[.int .i64 (frontV l).1, .int .i64 (frontV l).2.1, .int .i64 (frontV l).2.2], .bool (someL l)]) W)) := Lib.hid (fun W hb => front_c f0 A n c l W hn hl (hr.below hb (Nat.le_refl _)))
    generalize hasL f0 l = GH at *
    generalize frontV l = FR at *
    generalize someL l = SM at *
    obtain ⟨FR0, FR1, FR2⟩ := FR
    obtain ⟨GA, hga⟩ : ∃ GA, ascB (-1) l = GA := ⟨_, rfl⟩
    have HGA := Lib.hid hga
    rw [hga] at HV
    clear hr hn hga hl
    go_enter Tryz.func67, Tryz.ntmps67
    go_wp2_with fail
    go_loopw [3, 15] (fun la i wr => ∃ (k : Nat) (q : Int), i = .int .i64 k ∧ la = .int .i64 q ∧ k ≤ n ∧ GA = ascB q (l.drop k) ∧ Below w.heap.size w wr ∧ FoAt wr w.heap.size f0 A n c) (fun _ i _ => n - (intOf i).toNat)
    case atStart => exact ⟨0, -1, rfl, rfl, Nat.zero_le _, HGA.out.symm, HB0.out, HF0.out⟩
    case round =>
      obtain ⟨k, q, rfl, rfl, hk, hat, hb, hf⟩ := hrel
      have HAT := Lib.hid hat
      have HB := Lib.hid hb
      have HF := Lib.hid hf
      clear hat hb hf HB0 HF0 HGA
      by_cases hlt : k < n
      · obtain ⟨y, hx⟩ : ∃ y, l[k]? = some y := ⟨_, List.getElem?_eq_getElem (by rw [HN.out]; exact hlt)⟩
        obtain ⟨ad, rfl, c0, c1, c2⟩ := (HR.out.below HB.out (Nat.le_refl _)).at hx
        have HS := Lib.hid (ascB_step (q := q) hx)
        clear hx
        obtain ⟨y0, y1, y2⟩ := y
        simp only at c0 c1 c2
        have KI := Lib.hid (goodItem_c y0 y1 y2 (wr.alloc (.cells #[.int .i64 y0, .int .i64 y1, .int .i64 y2] 69)))
        have HB1 := Lib.hid (HB.out.alloc HB.out.size (.cells #[.int .i64 y0, .int .i64 y1, .int .i64 y2] 69))
        by_cases h1 : y0 ≤ q
        · have HP : Hid (GA = false) := Lib.hid (by rw [HAT.out, HS.out]; simp; omega)
          clear KI KH KF
          go_wp2_with fail
          go_ret
          exact ⟨ret_b (by rw [HV.out, HP.out]; simp), HB1.out⟩
        · have HD : Hid (decide (q < y0) = true) := Lib.hid (by simp; omega)
          go_wp2_with fail
          refine KI.out.mono ?_
          rintro e w1 ⟨rfl, hb1⟩
          obtain ⟨hx1, hb2⟩ := BoxAt.call hb1
          have HF1 := Lib.hid (show FoAt w1 w.heap.size f0 _ n c from BoxAt.next HF.out hb2 (Nat.le_refl _))
          have HB2 := Lib.hid (HB.out.trans (hb2.mono HB.out.size))
          have HX1 := Lib.hid (show ItAt w1 wr.heap.size (y0, y1, y2) from hx1)
          obtain ⟨d0, d1, d2, -, -, -⟩ := HX1.out.cells
          clear hb1 hx1 hb2 KI c0 c1 c2 HB1 HB HF
          cases hp : itemB (y0, y1, y2)
          · have HP : Hid (GA = false) := Lib.hid (by rw [HAT.out, HS.out, hp]; simp)
            clear hp KH KF
            go_wp2_with fail
            go_ret
            exact ⟨ret_b (by rw [HV.out, HP.out]; simp), HB2.out⟩
          · have HP := Lib.hid hp
            clear hp
            go_wp2_with fail
            go_roundw
            case rel => exact ⟨k + 1, y0, by go_num, rfl, by omega, by rw [HAT.out, HS.out, HD.out, HP.out]; rfl, HB2.out, HF1.out⟩
            case measure => simp [intOf]; omega
      · obtain rfl : k = n := by omega
        have HG : Hid (GA = true) := Lib.hid (by rw [HAT.out, ← HN.out]; exact ascB_end q l)
        have HK : Hid (decide (k ≤ 64) = true) := Lib.hid (by simp; omega)
        obtain ⟨u0, u1, -, -⟩ := HF.out.cells
        clear HAT h64 hd1 HR HN
        by_cases hc : f0 = -1
        · subst hc
          clear KH
          go_wp2_with fail
          refine (KF.out _ HB.out).mono ?_
          rintro e w2 ⟨rfl, hb2⟩
          have HB2 := Lib.hid (HB.out.trans (hb2.mono HB.out.size))
          have hs2 := HB2.out.size
          clear hb2 KF
          cases SM
          · go_wp2_with fail
            go_ret
            exact ⟨ret_b (by rw [HV.out, HG.out, HK.out]; simp), HB2.out.alloc hs2 _⟩
          · by_cases hz : 0 ≤ FR2
            all_goals
              go_wp2_with fail
              go_ret
              exact ⟨ret_b (by rw [HV.out, HG.out, HK.out]; simp [hz]), HB2.out.alloc hs2 _⟩
        · have hc' : (f0 != -1) = true := by simp [hc]
          have HC : Hid (decide (f0 = -1) = false) := Lib.hid (by simp [hc])
          clear hc
          go_wp2_with fail
          refine (KH.out _ HB.out).mono ?_
          rintro e w2 ⟨rfl, hb2⟩
          have HB2 := Lib.hid (HB.out.trans (hb2.mono HB.out.size))
          obtain ⟨u0, u1, -, -⟩ := (show FoAt w2 w.heap.size f0 A k c from BoxAt.next HF.out hb2 (Nat.le_refl _)).cells
          clear hb2 KH
          cases GH
          · clear KF
            go_wp2_with fail
            go_ret
            exact ⟨ret_b (by rw [HV.out, HC.out]; simp), HB2.out⟩
          · go_wp2_with fail
            refine (KF.out _ HB2.out).mono ?_
            rintro e w3 ⟨rfl, hb3⟩
            have HB3 := Lib.hid (HB2.out.trans (hb3.mono HB2.out.size))
            have hs2 := HB3.out.size
            clear hb3 KF
            cases SM
            · go_wp2_with fail
              go_ret
              exact ⟨ret_b (by rw [HV.out, HG.out, HK.out]; simp), HB3.out.alloc hs2 _⟩
            · by_cases hz : 0 ≤ FR2
              all_goals
                go_wp2_with fail
                go_ret
                exact ⟨ret_b (by rw [HV.out, HG.out, HK.out]; simp [hz]), HB3.out.alloc hs2 _⟩
  · have hd1 : decide ((64 : Int) < (n : Int)) = true := by simp; omega
    have HP : Hid (decide (n ≤ 64) = false) := Lib.hid (by simp; omega)
    clear hr hn h64
    go_enter Tryz.func67, Tryz.ntmps67
    go_wp2_with fail
    go_ret
    exact ⟨ret_b (by rw [HV.out, HP.out]; simp), HB0.out⟩
end Go.Proofs.YtandmngfajoinaaGreat
