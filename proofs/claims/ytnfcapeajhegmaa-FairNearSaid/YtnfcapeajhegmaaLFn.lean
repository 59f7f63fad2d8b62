/- FairNear. -/
import Derived.Test.YtnfcapeajhegmaaFl
namespace Go.Proofs.Ytnfcapeajhegmaa
open Go.RowKit Go.Maps

theorem fm_at {w : World} {A : Option Addr} {l : List RI} {i : Nat} {r : RI} (h : TRow w A l) (hi : l[i]? = some r) : ∃ ad, A = some ad ∧ w.cell? ⟨(ad.add (i * 3)).block, (ad.add (i * 3)).off + 2, none⟩ = some (.int .i64 r.2.2) := by
  obtain ⟨ad, e, -, -, h2⟩ := h.at hi
  exact ⟨ad, e, h2⟩

/-- k have entered. -/
def EntIn (W w : World) (s k : Nat) : Prop := ∃ R, SIn W w s 0 (-1) R (8 * k) (fun _ => False) ∧ (R = [] ∧ k = 0 ∨ Near 0 R) ∧ (∀ r ∈ R, r.2.2 = 0 ∧ r.1 < (k : Int)) ∧ R.length = k
/-- k ticks have gone by. -/
def TickIn (W w : World) (s m k : Nat) : Prop := ∃ base cur R, SIn W w s base cur R (160 + 16 * k) (fun _ => False) ∧ Near base R ∧ 0 ≤ base ∧ base ≤ 698377680 * (k : Int) ∧ R.length = m
/-- The least and the greatest of the first j lags. -/
def LagsAt (l : List RI) (j : Nat) (lo hi : Int) : Prop := (lo = 4611686018427387904 ∨ (-698377680 ≤ lo ∧ lo ≤ 0)) ∧ (hi = -4611686018427387904 ∨ (-698377680 ≤ hi ∧ hi ≤ 0)) ∧ ∀ i r, i < j → l[i]? = some r → r.2.2 ≤ hi

set_option maxRecDepth 100000 in
set_option maxHeartbeats 8000000 in
theorem near_c (A : Option Addr) (c : Nat) (l : List Int) (a : Int) (w : World) (hr : IRow .i64 w w.heap.size A l) (hl1 : l.length ≤ c) (hl2 : c ≤ maxLen) :
    Calls Try.prog 10 #[.slice A l.length c, .int .i64 a] w fun e w' => e = .returned (.bool true) ∧ Below w.heap.size w w' := by
  have KA := Lib.hid (awake12_c w)
  have HR := Lib.hid hr
  obtain ⟨n, hn⟩ : ∃ n, l.length = n := ⟨_, rfl⟩
  rw [hn]
  have HN := Lib.hid hn
  unfold maxLen at hl2
  rw [hn] at hl1
  clear hr hn
  by_cases hg : 1 ≤ n ∧ n ≤ 20 ∧ 0 ≤ a ∧ a ≤ 500
  · obtain ⟨t, rfl⟩ := Int.eq_ofNat_of_zero_le hg.2.2.1
    have g1 : decide ((n : Int) < 1) = false := by simp; omega
    have g2 : decide ((20 : Int) < (n : Int)) = false := by simp; omega
    have g3 : decide ((t : Int) < 0) = false := by simp
    have g4 : decide ((500 : Int) < (t : Int)) = false := by simp; omega
    have HG := Lib.hid hg
    clear hg
    go_enter Try.func10, Try.ntmps10
    go_wp2_with fail
    refine KA.out.mono ?_
    rintro e w1 ⟨rfl, hb⟩
    have HB1 := Lib.hid hb
    clear hb KA
    go_wp2_with fail
    refine (snew_in w w1 HB1.out 0 (fun _ => False) (fun _ h => h.elim) (by decide) (by decide)).mono ?_
    rintro e w2 ⟨s, rfl, hq, -⟩
    have HA : Hid (EntIn w w2 s 0) := Lib.hid ⟨[], hq, .inl ⟨rfl, rfl⟩, by simp, rfl⟩
    clear hq HB1
    go_wp2_with fail
    go_loopw [7] (fun i wr => ∃ k : Nat, i = .int .i64 k ∧ k ≤ n ∧ Hid (EntIn w wr s k)) (fun i _ => n - (intOf i).toNat)
    case atStart => exact ⟨0, rfl, by omega, HA⟩
    case round =>
      obtain ⟨k, rfl, hk, HQ⟩ := hrel
      clear HA
      by_cases hlt : k < n
      · obtain ⟨R, hq, hne, hall, hlen⟩ := HQ.out
        obtain ⟨z, hz⟩ : ∃ z, l[k]? = some z := ⟨_, List.getElem?_eq_getElem (by rw [HN.out]; exact hlt)⟩
        obtain ⟨ad, rfl, hab, hc0⟩ := HR.out k z hz
        have hc := (hq.frame.cell (p := ad.add k) (by rw [add_block]; exact hab)).trans hc0
        have hlt' : (k : Int) < (n : Int) := by omega
        clear hz hab hc0
        by_cases hz1 : 1 ≤ z
        · by_cases hz2 : z ≤ 20
          · have hgn := HG.out
            obtain ⟨e1, e2, e3⟩ := near_enter (id := (k : Int)) (n := z) (hne.imp (fun h => h.1) (fun h => h)) hall (by omega) (by omega) hz1 hz2 (by omega)
            have KE := Lib.hid (senter_in ((k : Int), z, 0) hq (by decide) (by decide) (by omega))
            rw [e1] at KE
            have HP : Hid (Near 0 (R ++ [((k : Int), z, 0)]) ∧ (∀ r ∈ R ++ [((k : Int), z, 0)], r.2.2 = 0 ∧ r.1 < ((k + 1 : Nat) : Int)) ∧ (R ++ [((k : Int), z, 0)]).length = k + 1) := Lib.hid ⟨e2, fun r hr => by have := e3 r hr; omega, by simp [hlen]⟩
            clear hq hne hall hlen e1 e2 e3 hgn HQ
            go_wp2_with fail
            refine KE.out.mono ?_
            rintro e w3 ⟨rfl, hq, -⟩
            have HQ3 := Lib.hid hq
            clear hq KE
            go_wp2_with fail
            go_roundw
            case rel => exact ⟨k + 1, by go_num, by omega, Lib.hid ⟨_, HQ3.out, .inr HP.out.1, HP.out.2.1, HP.out.2.2⟩⟩
            case measure => simp [intOf]; omega
          · have HB := Lib.hid hq.frame
            clear hq hne hall hlen HQ
            go_wp2_with fail
            go_ret
            exact ⟨rfl, HB.out⟩
        · have HB := Lib.hid hq.frame
          clear hq hne hall hlen HQ
          go_wp2_with fail
          go_ret
          exact ⟨rfl, HB.out⟩
      · obtain rfl : k = n := by omega
        have HA : Hid (TickIn w wr s k 0) := by
          obtain ⟨R, hq, hne, hall, hlen⟩ := HQ.out
          have hgn := HG.out
          refine Lib.hid ⟨0, -1, R, hq.weak (by omega), ?_, by omega, by omega, hlen⟩
          rcases hne with h | h
          · omega
          · exact h
        clear HQ hlt
        go_wp2_with fail
        go_loopw [8] (fun i wr => ∃ j : Nat, i = .int .i64 j ∧ j ≤ t ∧ Hid (TickIn w wr s k j)) (fun i _ => t - (intOf i).toNat)
        case atStart => exact ⟨0, rfl, by omega, HA⟩
        case round =>
          obtain ⟨j, rfl, hj, HQ⟩ := hrel
          clear HA
          by_cases hlt : j < t
          · have hlt' : (j : Int) < (t : Int) := by omega
            obtain ⟨base, cur, R, hq, hne, hb0, hb1, hlen⟩ := HQ.out
            have hgn := HG.out
            have hR := hne.ne
            have KP := Lib.hid (spick_in hq)
            have e1 : pickV cur R = pickC cur R := by unfold pickV; rw [if_neg hR]
            have e2 : pickB R = true := by unfold pickB; rw [decide_eq_false hR]; rfl
            rw [e1, e2] at KP
            obtain ⟨b', hc1, hc2, hc3, hc4⟩ := near_charge (cur := cur) hne hq.wf (by omega)
            have hlen2 : (chgI R (pickC cur R) ((getI R (pickC cur R)).2.2 + stepV (getI R (pickC cur R)).2.1)).length = k := by rw [length_chg]; exact hlen
            have HH := Lib.hid (And.intro hc1 (And.intro hc2 (And.intro hc3 (And.intro hc4 (And.intro hlen2 (And.intro hb0 hb1))))))
            generalize chgI R (pickC cur R) ((getI R (pickC cur R)).2.2 + stepV (getI R (pickC cur R)).2.1) = R' at *
            generalize pickC cur R = id at *
            have hj5 : j ≤ 500 := by omega
            clear hq hne hb0 hb1 hlen hgn hR hc1 hc2 hc3 hc4 hlen2 HQ e1 e2
            go_wp2_with fail
            refine KP.out.mono ?_
            rintro e w3 ⟨rfl, hq, -⟩
            have KC := Lib.hid (scharge_in hq (by omega))
            rw [HH.out.1] at KC
            clear hq KP
            go_wp2_with fail
            refine KC.out.mono ?_
            rintro e w4 ⟨rfl, hq, -⟩
            have KF := Lib.hid (sform_in hq)
            clear hq KC
            simp only
            go_wp2_with fail
            refine KF.out.mono ?_
            rintro e w5 ⟨A', c', rfl, hT, hq, -⟩
            rw [HH.out.2.2.2.2.1]
            have hb6 : Below w5.heap.size w5 (w5.alloc (.cells #[.int .i64 id, .slice A' k c'] 37)) := (Below.refl _ w5).alloc (Nat.le_refl _) _
            obtain ⟨w6, hw6⟩ : ∃ w6, w5.alloc (.cells #[.int .i64 id, .slice A' k c'] 37) = w6 := ⟨_, rfl⟩
            have hfo : FoAt w6 w5.heap.size id A' k c' := by rw [← hw6]; exact heap_alloc_new w5 _
            rw [hw6] at hb6
            have HT := Lib.hid (hT.below hb6 (Nat.le_refl _))
            have HQ6 := Lib.hid (hq.below hb6)
            obtain ⟨f0, f1, -, -⟩ := FoAt.cells hfo
            have HL0 : Hid (LagsAt (formL b' R') 0 4611686018427387904 (-4611686018427387904)) := Lib.hid ⟨.inl rfl, .inl rfl, fun i r hi => by omega⟩
            have HK : Hid ((formL b' R').length = k) := Lib.hid (by rw [formL_length]; exact HH.out.2.2.2.2.1)
            clear hq hT hb6 hfo KF
            go_wp2_with fail
            go_loopw [14, 15, 16] (fun lo hi i wr => ∃ (p : Nat) (x y : Int), lo = .int .i64 x ∧ hi = .int .i64 y ∧ i = .int .i64 p ∧ p ≤ k ∧ Hid (LagsAt (formL b' R') p x y) ∧ wr = w6) (fun _ _ i _ => k - (intOf i).toNat)
            case atStart => exact ⟨0, _, _, rfl, rfl, rfl, by omega, HL0, rfl⟩
            case round =>
              obtain ⟨p, x, y, rfl, rfl, rfl, hp, HLA, hwr⟩ := hrel
              subst hwr
              clear HL0
              by_cases hlp : p < k
              · have hlp' : (p : Int) < (k : Int) := by omega
                obtain ⟨r, hr⟩ : ∃ r, (formL b' R')[p]? = some r := ⟨_, List.getElem?_eq_getElem (by rw [HK.out]; exact hlp)⟩
                obtain ⟨ad, rfl, hc2⟩ := fm_at HT.out hr
                have HX : Hid (∀ x' y', (x' = x ∨ x' = r.2.2) → y ≤ y' → r.2.2 ≤ y' → (y' = y ∨ y' = r.2.2) → LagsAt (formL b' R') (p + 1) x' y') := Lib.hid (fun x' y' h1 h2 h3 h4 => by
                  obtain ⟨a1, a2, a3⟩ := HLA.out
                  have hlag := HH.out.2.1.lag (List.mem_of_getElem? hr)
                  refine ⟨?_, ?_, fun i q hi hq => ?_⟩
                  · rcases h1 with rfl | rfl
                    · exact a1
                    · exact .inr hlag
                  · rcases h4 with rfl | rfl
                    · exact a2
                    · exact .inr hlag
                  · by_cases e : i = p
                    · subst e
                      rw [hr] at hq
                      obtain rfl := Option.some.inj hq
                      exact h3
                    · have := a3 i q (by omega) hq; omega)
                clear hr HLA
                generalize r.2.2 = z at *
                by_cases h1 : z < x
                all_goals by_cases h2 : y < z
                all_goals
                  go_wp2_with fail
                  go_roundw
                  case rel => exact ⟨p + 1, _, _, rfl, rfl, by go_num, by omega, Lib.hid (HX.out _ _ (by simp) (by omega) (by omega) (by simp)), by first | rfl | trivial⟩
                  case measure => simp [intOf]; omega
              · obtain rfl : p = k := by omega
                have hy : y = 0 ∧ -698377680 ≤ x := by
                  obtain ⟨a1, a2, a3⟩ := HLA.out
                  obtain ⟨i, r, hi, h0⟩ := HH.out.2.1.lag0
                  have hil : i < p := by rw [← HK.out]; exact (List.getElem?_eq_some_iff.1 hi).1
                  have := a3 i r hil hi
                  omega
                obtain ⟨rfl, hx⟩ := hy
                have hx2 : x ≤ 4611686018427387904 := by have := HLA.out.1; omega
                have hw0 : wrap64 (-x) = -x := by unfold wrap64; omega
                have hz1 : decide (1163962800 < -x) = false := by simp; omega
                have HZ : Hid (TickIn w wr s p (j + 1)) := Lib.hid ⟨b', id, R', HQ6.out.weak (by omega), HH.out.2.1, by have := HH.out; omega, by have := HH.out; omega, HH.out.2.2.2.2.1⟩
                clear hx hx2 HLA HH
                go_wp2_with fail
                go_roundw
                case rel => exact ⟨j + 1, by go_num, by omega, HZ⟩
                case measure => simp [intOf]; omega
          · have HB : Hid (Below w.heap.size w wr) := by
              obtain ⟨base, cur, R, hq, _⟩ := HQ.out
              exact Lib.hid hq.frame
            have hlt' : decide ((j : Int) < (t : Int)) = false := by simp; omega
            clear HQ
            go_wp2_with fail
            go_ret
            exact ⟨rfl, HB.out⟩
  · have HNO := Lib.hid hg
    clear hg
    go_enter Try.func10, Try.ntmps10
    go_wp2_with fail
    refine KA.out.mono ?_
    rintro e w1 ⟨rfl, hb⟩
    have HB1 := Lib.hid hb
    clear hb KA
    by_cases g1 : (n : Int) < 1
    · go_wp2_with fail
      go_ret
      exact ⟨rfl, HB1.out⟩
    · by_cases g2 : (20 : Int) < (n : Int)
      · go_wp2_with fail
        go_ret
        exact ⟨rfl, HB1.out⟩
      · by_cases g3 : a < 0
        · go_wp2_with fail
          go_ret
          exact ⟨rfl, HB1.out⟩
        · have g4 : 500 < a := by have := HNO.out; omega
          go_wp2_with fail
          go_ret
          exact ⟨rfl, HB1.out⟩
end Go.Proofs.Ytnfcapeajhegmaa
