/- FairPlays. -/
import Derived.Test.YtnfcapeajhegmaaFx
namespace Go.Proofs.Ytnfcapeajhegmaa
open Go.RowKit Go.Maps

/-- Both, newly made. -/
theorem pl_start {W w1 : World} {s : Nat} {base : Int} (hq : SIn W w1 s base (-1) [] 0 (fun _ => False)) (hb : Below W.heap.size W w1) (h1 : -1152921504606846976 ≤ base) (h2 : base ≤ 1152921504606846976) :
    PlF W (w1.alloc (.cells #[.int .i64 1, .int .i64 base, .int .i64 (-1), .slice none 0 0] 74)) s w1.heap.size 0 base (-1) [] (fun _ => False) := by
  obtain ⟨Ab, st, g1, g2, g3, g4, g5, g6⟩ := hq
  have hb2 := (Below.refl w1.heap.size w1).alloc (Nat.le_refl _) (.cells #[.int .i64 1, .int .i64 base, .int .i64 (-1), .slice none 0 0] 74)
  have hs := hb.size
  refine ⟨⟨Ab, st, .slice none 0 0, [], g1.below hb2, ⟨rnew_is 1 base, rfl⟩, ⟨g2, by omega⟩, g4, ?_, ?_, hb.trans (hb2.mono hs), fun k hk => hk.elim⟩, ⟨h1, by omega, fun r hr => by cases hr⟩, low_nil _, by omega⟩
  · rintro k (rfl | hk)
    · exact hs
    · simp [Value.ownBlock] at hk
  · rintro k hk (rfl | hk')
    · have := g1.lt _ hk; omega
    · simp [Value.ownBlock] at hk'

set_option maxRecDepth 100000 in
set_option maxHeartbeats 16000000 in
theorem splays_c (base : Int) (A1 : Option Addr) (c1 : Nat) (acts : List (List Int)) (w : World) (hr1 : Rows w 4 A1 acts) :
    Calls Try.prog 7 #[.int .i64 base, .slice A1 acts.length c1] w fun e w' => e = .returned (.bool true) ∧ Below w.heap.size w w' := by
  have KA := Lib.hid (awake12_c w)
  obtain ⟨t, ht⟩ : ∃ t, acts.length = t := ⟨_, rfl⟩
  rw [ht]
  have HR1 := Lib.hid hr1
  have HN := Lib.hid ht
  clear hr1 ht
  go_enter Try.func7, Try.ntmps7
  go_wp2_with fail
  refine KA.out.mono ?_
  rintro e w1 ⟨rfl, hb⟩
  have HB1 := Lib.hid hb
  clear hb KA
  by_cases h200 : (200 : Int) < (t : Int)
  · go_wp2_with fail
    go_ret
    exact ⟨rfl, HB1.out⟩
  by_cases hba : base < -1152921504606846976 ∨ 1152921504606846976 < base
  · have K1 := Lib.hid (snew_no base w1 hba)
    have K2 := Lib.hid (rnew_no 1 base w1 (.inr (.inl rfl)) hba)
    clear hba
    go_wp2_with fail
    refine K1.out.mono ?_
    rintro e w2 ⟨rfl, rfl⟩
    go_wp2_with fail
    refine K2.out.mono ?_
    rintro e w2 ⟨rfl, rfl⟩
    go_wp2_with fail
    go_ret
    exact ⟨rfl, HB1.out⟩
  · have h1 : -1152921504606846976 ≤ base := by omega
    have h2 : base ≤ 1152921504606846976 := by omega
    clear hba
    go_wp2_with fail
    refine (snew_in w w1 HB1.out base (fun _ => False) (fun _ h => h.elim) h1 h2).mono ?_
    rintro e w2 ⟨s, rfl, hq, hb⟩
    have hb2 := HB1.out.trans (hb.mono HB1.out.size)
    have HS0 := Lib.hid (pl_start hq hb2 h1 h2)
    obtain ⟨p, hp⟩ : ∃ p, w2.heap.size = p := ⟨_, rfl⟩
    have K2 := rnew_c 1 base w2 (.inr (.inl rfl)) h1 h2
    rw [hp] at K2 HS0
    have K2 := Lib.hid K2
    clear hq hb hb2 hp
    go_wp2_with fail
    refine K2.out.mono ?_
    rintro e w3 ⟨rfl, hw3⟩
    rw [← hw3] at HS0
    clear hw3 K2
    go_wp2_with fail
    go_loopw [9] (fun i wr => ∃ (k : Nat) (b cur : Int) (R : List RI), i = .int .i64 k ∧ k ≤ t ∧ Hid (PlF w wr s p k b cur R (fun _ => False))) (fun i _ => t - (intOf i).toNat)
    case atStart => exact ⟨0, base, -1, [], rfl, by omega, HS0⟩
    case round =>
      obtain ⟨k, b, cur, R, rfl, hk, HQ⟩ := hrel
      clear HS0
      by_cases hlt : k < t
      · have hlt' : (k : Int) < (t : Int) := by omega
        obtain ⟨ad, o, i, m, g, rfl, ⟨a0, a1, a2, a3⟩, hwi, hwm⟩ := act_at HR1.out (by rw [HN.out]; exact hlt) HQ.out.1.frame
        have KS := Lib.hid (sstep_c o i m g hwi hwm HQ.out (by omega))
        clear hwi hwm HQ
        go_wp2_with fail
        refine KS.out.mono ?_
        rintro e w4 ⟨rfl, b', c', R', hq⟩
        have HE := Lib.hid hq
        clear hq KS a0 a1 a2 a3
        go_wp2_with fail
        go_roundw
        case rel => exact ⟨k + 1, _, _, _, by go_num, by omega, HE⟩
        case measure => simp [intOf]; omega
      · have HB : Hid (Below w.heap.size w wr) := Lib.hid HQ.out.1.frame
        have hlt' : decide ((k : Int) < (t : Int)) = false := by simp; omega
        clear HQ
        go_wp2_with fail
        go_ret
        exact ⟨rfl, HB.out⟩
end Go.Proofs.Ytnfcapeajhegmaa
