/- CoreServes. -/
import Derived.Test.YtandmngfajoinaaGreatCc
namespace Go.Proofs.YtandmngfajoinaaGreat.Po
open Go.RowKit Go.Maps

/-- j ticks are done: who ran, and how often nobody did. -/
def SvAt (t : Int) (w wr : World) (o m q j : Nat) : Prop := ∃ base cur T C idle, CIn t w wr o base cur T C idle ((q : Int) + (j : Int)) (4480 + 32 * j) (20 + 2 * j) (fun _ => False) ∧ T.length = q ∧ idle + cSum C m = (j : Int) ∧
  ((T = [] ∧ idle = (j : Int)) ∨ (idle = 0 ∧ Near base T ∧ DayOk T ∧ (∀ x ∈ T, x.1 < (m : Int)) ∧ base ≤ (j : Int) * 1163962800))
theorem sv_run {t : Int} {w wr : World} {o m q j : Nat} (h : SvAt t w wr o m q j) (hj : j < 300) :
    Calls Tryz.prog 17 #[.pointer (some ⟨o, 0, none⟩)] wr fun e w' => ∃ i, e = .returned (.tuple #[.int .i64 i, .int .i64 0]) ∧ SvAt t w w' o m q (j + 1) := by
  obtain ⟨base, cur, T, C, idle, hc, hq, hs, hh⟩ := h
  rcases hh with ⟨rfl, hi⟩ | ⟨hi, hn, hd, hm, hb⟩
  · refine (crun_none hc (by omega) (by omega)).mono ?_
    rintro e w' ⟨rfl, h2, -⟩
    exact ⟨-1, rfl, _, _, _, _, _, (by have := h2; rw [Int.add_assoc] at this; exact this), hq, by omega, .inl ⟨rfl, by omega⟩⟩
  · obtain ⟨b', x, hx, hw, h0, -, hcg, hn2, hd2, hb1, hb2⟩ := near_run (t := t) (cur := cur) hc.tag hn hc.wf hd (by omega)
    refine (crun_ok hcg hw hc (by omega) (by omega)).mono ?_
    rintro e w' ⟨rfl, h2, -⟩
    have hxm := hm x hx
    refine ⟨x.1, rfl, _, _, _, _, _, (by have := h2; rw [Int.add_assoc] at this; exact this), by rw [length_updU]; exact hq, by rw [cSum_inc h0 hxm]; omega, .inr ⟨hi, hn2, hd2, fun z hz => ?_, by omega⟩⟩
    rcases mem_updU hz with ⟨y, hy, _, rfl⟩ | ⟨hz, _⟩
    · exact hm y hy
    · exact hm z hz
/-- Tasks have come. -/
def SvEnt (t : Int) (w wr : World) (o k q : Nat) : Prop := ∃ T, CIn t w wr o 0 (-1) T (fun _ => 0) 0 (q : Int) (4000 + 24 * k) k (fun _ => False) ∧ Ent T k ∧ T.length = q
theorem sv_enter {t : Int} {w wr : World} {o k q : Nat} (n : Int) (h : SvEnt t w wr o k q) (hk : k < 20) :
    Calls Tryz.prog 11 #[.pointer (some ⟨o, 0, none⟩), .int .i64 (k : Int), .int .i64 n, .int .i64 0, .bool false] wr fun e w' => (e = .returned (.int .i64 0) ∧ Hid (SvEnt t w w' o (k + 1) (q + 1))) ∨ (e = .returned (.int .i64 1) ∧ Hid (SvEnt t w w' o (k + 1) q)) := by
  obtain ⟨T, hc, he, hl⟩ := h
  have K := center_in ((k : Int), n, 0) false hc (by omega) (by omega) (by omega) (by omega)
  by_cases hn : 1 ≤ n ∧ n ≤ 20
  · obtain ⟨e1, e2⟩ := he.yes hc.tag (by omega) hn.1 hn.2
    rw [e1] at K
    refine K.mono ?_
    rintro e w' ⟨rfl, h2, -⟩
    exact .inl ⟨rfl, Lib.hid ⟨_, (by have := h2.weak (S' := 4000 + 24 * (k + 1)) (N' := k + 1) (by omega) (by omega); exact this), e2, by rw [List.length_append]; simp; omega⟩⟩
  · obtain ⟨e1, e2⟩ := he.no (t := t) hn
    rw [e1] at K
    refine K.mono ?_
    rintro e w' ⟨rfl, h2, -⟩
    exact .inr ⟨rfl, Lib.hid ⟨_, (by have := h2.weak (S' := 4000 + 24 * (k + 1)) (N' := k + 1) (by omega) (by omega); exact this), e2, hl⟩⟩
theorem SvEnt.start {t : Int} {w wr : World} {o m q : Nat} (h : SvEnt t w wr o m q) (hm : m ≤ 20) : SvAt t w wr o m q 0 := by
  obtain ⟨T, hc, he, hl⟩ := h
  refine ⟨_, _, T, _, _, (by have := hc.weak (S' := 4480 + 32 * 0) (N' := 20 + 2 * 0) (by omega) (by omega); simpa using this), hl, by rw [cSum_zero]; rfl, ?_⟩
  rcases he.near with h | h
  · exact .inl ⟨h, rfl⟩
  · exact .inr ⟨rfl, h, he.day, fun x hx => (he.all x hx).2, by omega⟩

set_option maxRecDepth 100000 in
set_option maxHeartbeats 16000000 in
theorem cserves_c (t : Int) (A : Option Addr) (c : Nat) (l : List Int) (n : Int) (w : World) (hr : IRow .i64 w w.heap.size A l) :
    Calls Tryz.prog 7 #[.int .i64 t, .slice A l.length c, .int .i64 n] w fun e w' => e = .returned (.bool true) ∧ Below w.heap.size w w' := by
  have KA := Lib.hid (awake15_c w)
  obtain ⟨m, hm⟩ : ∃ m, l.length = m := ⟨_, rfl⟩
  rw [hm]
  have HR := Lib.hid hr
  have HN := Lib.hid hm
  clear hr hm
  go_enter Tryz.func7, Tryz.ntmps7
  go_wp2_with fail
  refine KA.out.mono ?_
  rintro e w1 ⟨rfl, hb⟩
  have KN := Lib.hid (cnew_in t 0 hb (F := fun _ => False) (fun _ h => h.elim))
  have HB1 := Lib.hid hb
  clear hb KA
  go_wp2_with fail
  refine KN.out.mono ?_
  intro e w2 h
  unfold CSeedP at h
  by_cases ht : Tag t
  · rw [if_pos ⟨ht, good_none, by decide, by decide⟩] at h
    obtain ⟨o, rfl, hc, -⟩ := h
    have HB2 := Lib.hid hc.frame
    have HS0 : Hid (SvEnt t w w2 o 0 0) := Lib.hid ⟨[], hc, Ent.nil, rfl⟩
    clear hc KN HB1 ht
    by_cases h20 : (20 : Int) < (m : Int)
    · go_wp2_with fail
      go_ret
      exact ⟨rfl, HB2.out⟩
    by_cases hn0 : n < 0
    · go_wp2_with fail
      go_ret
      exact ⟨rfl, HB2.out⟩
    by_cases hn3 : (300 : Int) < n
    · go_wp2_with fail
      go_ret
      exact ⟨rfl, HB2.out⟩
    obtain ⟨n, rfl⟩ : ∃ k : Nat, n = (k : Int) := ⟨n.toNat, by omega⟩
    have HM := Lib.hid (show m ≤ 20 ∧ n ≤ 300 by omega)
    clear HB2
    go_wp2_with fail
    go_loopw [9, 10] (fun q i wr => ∃ (k z : Nat), i = .int .i64 k ∧ q = .int .i64 z ∧ k ≤ m ∧ z ≤ k ∧ Hid (SvEnt t w wr o k z)) (fun _ i _ => m - (intOf i).toNat)
    case atStart => exact ⟨0, 0, rfl, rfl, Nat.zero_le _, Nat.le_refl _, HS0⟩
    case round =>
      obtain ⟨k, z, rfl, rfl, hk, hz, HE⟩ := hrel
      clear HS0
      by_cases hlt : k < m
      · obtain ⟨y, hy⟩ : ∃ y, l[k]? = some y := ⟨_, List.getElem?_eq_getElem (by rw [HN.out]; exact hlt)⟩
        obtain ⟨ad, rfl, hab, hc0⟩ := HR.out k y hy
        have hfr : Below w.heap.size w wr := by
          obtain ⟨T, hc, -⟩ := HE.out
          exact hc.frame
        have y0 := (hfr.cell (p := ad.add k) (by rw [add_block]; exact hab)).trans hc0
        have K := Lib.hid (sv_enter y HE.out (by omega))
        have hlt' : (k : Int) < (m : Int) := by omega
        clear hy hab hc0 hfr HE
        go_wp2_with fail
        refine K.out.mono ?_
        rintro e w3 (⟨rfl, HE3⟩ | ⟨rfl, HE3⟩)
        · clear K
          go_wp2_with fail
          go_roundw
          case rel => exact ⟨k + 1, z + 1, by go_num, by go_num, by omega, by omega, HE3⟩
          case measure => simp [intOf]; omega
        · clear K
          go_wp2_with fail
          go_roundw
          case rel => exact ⟨k + 1, z, by go_num, rfl, by omega, by omega, HE3⟩
          case measure => simp [intOf]; omega
      · obtain rfl : k = m := by omega
        have hlt' : decide ((k : Int) < (k : Int)) = false := by simp
        have HS1 := Lib.hid (HE.out.start HM.out.1)
        clear HE
        go_wp2_with fail
        go_loopw [11] (fun i wr => ∃ j : Nat, i = .int .i64 j ∧ j ≤ n ∧ Hid (SvAt t w wr o k z j)) (fun i _ => n - (intOf i).toNat)
        case atStart => exact ⟨0, rfl, Nat.zero_le _, HS1⟩
        case round =>
          obtain ⟨j, rfl, hj, HE⟩ := hrel
          clear HS1
          by_cases hlt : j < n
          · have K := Lib.hid (sv_run HE.out (by omega))
            have hlt' : (j : Int) < (n : Int) := by omega
            clear HE
            go_wp2_with fail
            refine K.out.mono ?_
            rintro e w3 ⟨i, rfl, hE3⟩
            have HE3 := Lib.hid hE3
            clear K hE3
            go_wp2_with fail
            go_roundw
            case rel => exact ⟨j + 1, by go_num, by omega, HE3⟩
            case measure => simp [intOf]; omega
          · obtain rfl : j = n := by omega
            have hlt' : decide ((j : Int) < (j : Int)) = false := by simp
            obtain ⟨base, cur, T, C, idle, hc, hq, hs, hh⟩ := HE.out
            have hcb : ∀ i, 0 ≤ C i ∧ C i ≤ ((20 + 2 * j : Nat) : Int) := by
              obtain ⟨_, _, _, _, h3, _⟩ := hc
              exact h3.bd
            have HCB := Lib.hid hcb
            have hid : 0 ≤ idle ∧ idle ≤ ((20 + 2 * j : Nat) : Int) := by
              obtain ⟨_, _, _, _, _, _, _, h6⟩ := hc
              exact ⟨h6.1, h6.2.1⟩
            have HSUM := Lib.hid hs
            have HID : Hid ((z = 0 ∧ idle = (j : Int)) ∨ (0 < z ∧ idle = 0)) := Lib.hid (by
              rcases hh with ⟨rfl, h⟩ | ⟨h, hn, -⟩
              · exact .inl ⟨by simpa using hq.symm, h⟩
              · refine .inr ⟨?_, h⟩
                have := hn.ne
                cases T with
                | nil => exact absurd rfl this
                | cons y ys => simp at hq; omega)
            have KI := Lib.hid (cidle_in hc)
            have HC := Lib.hid hc
            obtain ⟨hid1, hid2⟩ := hid
            clear HE hc hcb hs hh
            go_wp2_with fail
            refine KI.out.mono ?_
            rintro e w4 ⟨rfl, rfl⟩
            go_wp2_with fail
            go_loopw [12, 13] (fun s i w5 => ∃ (i0 : Nat) (s0 : Int), i = .int .i64 i0 ∧ s = .int .i64 s0 ∧ i0 ≤ k ∧ idle + cSum C i0 = s0 ∧ Hid (CIn t w w5 o base cur T C idle ((z : Int) + (j : Int)) (4480 + 32 * j) (20 + 2 * j) (fun _ => False))) (fun _ i _ => k - (intOf i).toNat)
            case atStart => exact ⟨0, idle, rfl, rfl, Nat.zero_le _, by unfold cSum; omega, HC⟩
            case round =>
              obtain ⟨i0, s0, rfl, rfl, hi0, hs0, HC5⟩ := hrel
              clear HC KI
              by_cases hlt : i0 < k
              · have KS := Lib.hid (cserved_in (i0 : Int) (wf64_of (by omega) (by have := HM.out; omega)) HC5.out)
                have hb1 := HCB.out (i0 : Int)
                have hb2 := cSum_bd HCB.out i0
                have hb3 : (i0 : Int) * ((20 + 2 * j : Nat) : Int) ≤ 20 * ((20 + 2 * j : Nat) : Int) := Int.mul_le_mul_of_nonneg_right (by have := HM.out; omega) (by omega)
                have hlt' : (i0 : Int) < (k : Int) := by omega
                have hw1 : IntKind.i64.wrap (s0 + C (i0 : Int)) = s0 + C (i0 : Int) := by rw [IntKind.wrap_i64]; have := HM.out; omega
                have HS := Lib.hid (show idle + cSum C (i0 + 1) = s0 + C (i0 : Int) by unfold cSum; omega)
                clear hb1 hb2 hb3
                go_wp2_with fail
                refine KS.out.mono ?_
                rintro e w6 ⟨rfl, rfl⟩
                clear KS
                go_wp2_with fail
                go_roundw
                case rel => exact ⟨i0 + 1, s0 + C (i0 : Int), by go_num, rfl, by omega, HS.out, HC5⟩
                case measure => simp [intOf]; omega
              · obtain rfl : i0 = k := by omega
                obtain rfl : s0 = (j : Int) := by have := HSUM.out; omega
                have hlt' : decide ((i0 : Int) < (i0 : Int)) = false := by simp
                have KI := Lib.hid (cidle_in HC5.out)
                have KG := Lib.hid (cage_in HC5.out)
                have HB := Lib.hid HC5.out.frame
                have hj3 : (j : Int) ≤ 300 := by have := HM.out; omega
                have hz2 : (z : Int) ≤ 20 := by have := HM.out; omega
                clear HC5 hs0 HCB HSUM
                rcases HID.out with ⟨rfl, rfl⟩ | ⟨hz0, rfl⟩
                · clear HID
                  go_wp2_with fail
                  refine KI.out.mono ?_
                  rintro e w6 ⟨rfl, rfl⟩
                  go_wp2_with fail
                  refine KG.out.mono ?_
                  rintro e w6 ⟨rfl, rfl⟩
                  clear KI KG
                  go_wp2_with fail
                  go_ret
                  exact ⟨rfl, HB.out⟩
                · have hz1 : (0 : Int) < (z : Int) := by omega
                  have hz3 : ((z : Int) == 0) = false := by simp; omega
                  clear HID
                  go_wp2_with fail
                  refine KI.out.mono ?_
                  rintro e w6 ⟨rfl, rfl⟩
                  go_wp2_with fail
                  refine KG.out.mono ?_
                  rintro e w6 ⟨rfl, rfl⟩
                  clear KI KG
                  go_wp2_with fail
                  go_ret
                  exact ⟨rfl, HB.out⟩
  · rw [if_neg (fun h => ht h.1)] at h
    obtain ⟨rfl, hb⟩ := h
    have HB2 := Lib.hid (HB1.out.trans (hb.mono HB1.out.size))
    clear KN hb
    go_wp2_with fail
    go_ret
    exact ⟨rfl, HB2.out⟩
end Go.Proofs.YtandmngfajoinaaGreat.Po
