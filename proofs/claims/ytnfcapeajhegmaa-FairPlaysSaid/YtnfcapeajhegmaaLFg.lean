/- FairGood. -/
import Derived.Test.YtnfcapeajhegmaaFm
import Derived.Test.YtnfcapeajhegmaaFrb
namespace Go.Proofs.Ytnfcapeajhegmaa
open Go.RowKit Go.Maps

/-- k acts are done. -/
def GoodIn (W w : World) (s k : Nat) (base cur : Int) (R : List RI) : Prop := SIn W w s base cur R (1000 + 32 * k) (fun _ => False) ∧ LagB base R ∧ Low base R ∧ 0 ≤ base ∧ base ≤ 1125899906842624 * (k : Int)
/-- An act's cells, as a walk spells them. -/
def Act4 (w : World) (a : Addr) (o i n g : Int) : Prop :=
  w.cell? a = some (.int .i64 o) ∧ w.cell? ⟨a.block, a.off + 1, none⟩ = some (.int .i64 i) ∧ w.cell? ⟨a.block, a.off + 2, none⟩ = some (.int .i64 n) ∧ w.cell? ⟨a.block, a.off + 3, none⟩ = some (.int .i64 g)
theorem act_at {w0 w : World} {A : Option Addr} {l : List (List Int)} {k : Nat} (h : Rows w0 4 A l) (hk : k < l.length) (hb : Below w0.heap.size w0 w) :
    ∃ ad o i n g, A = some ad ∧ Act4 w (ad.add (k * 4)) o i n g ∧ wf64 i ∧ wf64 n := by
  obtain ⟨r, hr⟩ : ∃ r, l[k]? = some r := ⟨_, List.getElem?_eq_getElem hk⟩
  obtain ⟨hlen, ad, hA, hbl, hc⟩ := h k r hr
  obtain ⟨o, i, n, g, rfl⟩ : ∃ o i n g, r = [o, i, n, g] := by
    match r, hlen with
    | [o, i, n, g], _ => exact ⟨o, i, n, g, rfl⟩
  have e : ∀ j z, [o, i, n, g][j]? = some z → w.cell? (ad.add (k * 4 + j)) = some (.int .i64 z) := fun j z hj => (hb.cell (p := ad.add (k * 4 + j)) (by rw [add_block]; exact hbl)).trans (hc j z hj).1
  refine ⟨ad, o, i, n, g, hA, ⟨e 0 o rfl, ?_, ?_, ?_⟩, (hc 1 i rfl).2, (hc 2 n rfl).2⟩
  · rw [add_next]; exact e 1 i rfl
  · rw [add_next]; exact e 2 n rfl
  · rw [add_next]; exact e 3 g rfl
/-- The act, in a box of its own. -/
def ActAt (w : World) (b : Nat) (o i n g : Int) : Prop := BoxAt w b 62 #[.int .i64 o, .int .i64 i, .int .i64 n, .int .i64 g]
theorem ActAt.cells {w : World} {b : Nat} {o i n g : Int} (h : ActAt w b o i n g) : w.cell? ⟨b, 0, none⟩ = some (.int .i64 o) ∧ w.cell? ⟨b, 1, none⟩ = some (.int .i64 i) ∧ w.cell? ⟨b, 2, none⟩ = some (.int .i64 n) ∧ w.cell? ⟨b, 3, none⟩ = some (.int .i64 g) :=
  ⟨BoxAt.cell h, BoxAt.cell h, BoxAt.cell h, BoxAt.cell h⟩

theorem spick_any {W w : World} {s S : Nat} {base cur : Int} {R : List RI} {F : Nat → Prop} (h : SIn W w s base cur R S F) :
    Calls Try.prog 34 #[.pointer (some ⟨s, 0, none⟩)] w fun e w' => ∃ z bb, e = .returned (.tuple #[.int .i64 z, .bool bb]) ∧ SIn W w' s base (pickC cur R) R S F :=
  (spick_in h).mono (fun _ _ ⟨he, h1, _⟩ => ⟨_, _, he, h1⟩)

set_option maxRecDepth 100000 in
set_option maxHeartbeats 16000000 in
theorem sgood_c (f0 : Int) (A A1 : Option Addr) (c c1 : Nat) (l : List RI) (acts : List (List Int)) (w : World) (_hc : l.length ≤ c) (_hcm : c ≤ maxLen) (hr : TRow w A l) (_hc1 : acts.length ≤ c1) (_hcm1 : c1 ≤ maxLen) (hr1 : Rows w 4 A1 acts) :
    Calls Try.prog 9 #[.agg #[.int .i64 f0, .slice A l.length c], .slice A1 acts.length c1] w fun e w' => e = .returned (.bool true) ∧ Below w.heap.size w w' := by
  have hb1 := (Below.refl _ w).alloc (Nat.le_refl _) (.cells #[.int .i64 f0, .slice A l.length c] 37)
  have hf1 : FoAt (w.alloc (.cells #[.int .i64 f0, .slice A l.length c] 37)) w.heap.size f0 A l.length c := heap_alloc_new w _
  obtain ⟨w1, hw1⟩ : ∃ w1, w.alloc (.cells #[.int .i64 f0, .slice A l.length c] 37) = w1 := ⟨_, rfl⟩
  have hs1 : w1.heap.size = w.heap.size + 1 := by rw [← hw1]; simp
  rw [hw1] at hb1 hf1
  have KA := Lib.hid (awake12_c w1)
  obtain ⟨n, hn⟩ : ∃ n, l.length = n := ⟨_, rfl⟩
  obtain ⟨t, ht⟩ : ∃ t, acts.length = t := ⟨_, rfl⟩
  rw [hn] at hf1 hw1 ⊢
  rw [ht]
  have KS : Hid (∀ W, n ≤ 64 → Below w.heap.size w W → Calls Try.prog 29 #[.agg #[.int .i64 f0, .slice A n c], .int .i64 0] W (SeedPost 0 f0 l W)) := Lib.hid (fun W h64 hb => by rw [← hn]; exact sseed_c f0 0 A _ c l W rfl (by omega) (hr.below hb (Nat.le_refl _)))
  have HB1 := Lib.hid hb1
  have HF1 := Lib.hid hf1
  have HR1 := Lib.hid hr1
  have HN := Lib.hid (And.intro hn ht)
  clear hr hr1 hn ht hb1 hf1
  go_enter Try.func9, Try.ntmps9
  go_wp2_with fail
  refine KA.out.mono ?_
  rintro e w2 ⟨rfl, hb⟩
  have HB2 := Lib.hid (HB1.out.trans (hb.mono (by omega)))
  have hf2 : FoAt w2 w.heap.size f0 A n c := BoxAt.next HF1.out hb (Nat.le_refl _)
  obtain ⟨d0, d1, -, -⟩ := FoAt.cells hf2
  clear hb KA hf2
  by_cases h64 : (64 : Int) < (n : Int)
  · go_wp2_with fail
    go_ret
    exact ⟨rfl, HB2.out⟩
  by_cases h150 : (150 : Int) < (t : Int)
  · go_wp2_with fail
    go_ret
    exact ⟨rfl, HB2.out⟩
  go_wp2_with fail
  refine (KS.out _ (by omega) HB2.out).mono ?_
  rintro e w3 hP
  unfold SeedPost at hP
  split at hP
  · rename_i hg
    obtain ⟨s, Ab, st, rfl, hq, hst0, hst1, hnw, hb⟩ := hP
    have hsl := HB2.out.size
    have HS : Hid (GoodIn w w3 s 0 0 f0 (seedR 0 l)) := Lib.hid ⟨⟨Ab, st, hq, hst0, by omega, fun k hk => by have := hnw k hk; omega, HB2.out.trans (hb.mono hsl), fun k hk => hk.elim⟩, (seed_lag hg.1).1, (seed_lag hg.1).2, by omega, by omega⟩
    have KB := Lib.hid (sbase_in HS.out.1)
    clear hq hst0 hst1 hnw hb hg hsl KS
    generalize seedR 0 l = R0 at *
    go_wp2_with fail
    refine KB.out.mono ?_
    rintro e w4 ⟨rfl, rfl⟩
    clear KB
    go_wp2_with fail
    go_loopw [7, 8] (fun bs i wr => ∃ (k : Nat) (base cur : Int) (R : List RI), bs = .int .i64 base ∧ i = .int .i64 k ∧ k ≤ t ∧ Hid (GoodIn w wr s k base cur R)) (fun _ i _ => t - (intOf i).toNat)
    case atStart => exact ⟨0, 0, f0, R0, rfl, rfl, by omega, HS⟩
    case round =>
      obtain ⟨k, base, cur, R, rfl, rfl, hk, HQ⟩ := hrel
      clear HS
      by_cases hlt : k < t
      · have hlt' : (k : Int) < (t : Int) := by omega
        obtain ⟨hq, hlg, hlo, hb0, hb1⟩ := HQ.out
        obtain ⟨ad, o, i, m, g, rfl, ⟨a0, a1, a2, a3⟩, hwi, hwm⟩ := act_at HR1.out (by rw [HN.out.2]; exact hlt) hq.frame
        have hb2 : Below wr.heap.size wr (wr.alloc (.cells #[.int .i64 o, .int .i64 i, .int .i64 m, .int .i64 g] 62)) := (Below.refl _ wr).alloc (Nat.le_refl _) _
        obtain ⟨w5, hw5⟩ : ∃ w5, wr.alloc (.cells #[.int .i64 o, .int .i64 i, .int .i64 m, .int .i64 g] 62) = w5 := ⟨_, rfl⟩
        have hbx : ActAt w5 wr.heap.size o i m g := by rw [← hw5]; exact heap_alloc_new wr _
        obtain ⟨x0, x1, x2, x3⟩ := hbx.cells
        rw [hw5] at hb2
        have HQ5 := Lib.hid (hq.below hb2)
        have HI := Lib.hid (And.intro hlg (And.intro hlo (And.intro hb0 (And.intro hb1 (And.intro hwi hwm)))))
        have hk150 : k ≤ 150 := by omega
        clear hq hlg hlo hb0 hb1 hwi hwm hb2 hbx HQ
        have TAIL : Hid (∀ (w6 : World) (base1 cur1 : Int) (R1 : List RI), Hid (GoodIn w w6 s (k + 1) base1 cur1 R1 ∧ base ≤ base1) → Calls Try.prog 36 #[.pointer (some ⟨s, 0, none⟩)] w6 fun e w' => ∃ A c, e = .returned (.agg #[.int .i64 cur1, .slice A R1.length c]) ∧ Hid (GoodIn w w' s (k + 1) base1 cur1 R1 ∧ base ≤ base1 ∧ Calls Try.prog 15 #[.agg #[.int .i64 cur1, .slice A R1.length c]] w' (fun e w'' => e = .returned (.bool true) ∧ Hid (GoodIn w w'' s (k + 1) base1 cur1 R1)))) := Lib.hid (fun w6 base1 cur1 R1 h => by
          obtain ⟨⟨hq, hlg, hlo, hb0, hb1⟩, hbb⟩ := h.out
          refine (sform_in hq).mono ?_
          rintro e w' ⟨A', c', rfl, hT, hq', hb'⟩
          refine ⟨A', c', rfl, Lib.hid ⟨⟨hq', hlg, hlo, hb0, hb1⟩, hbb, ?_⟩⟩
          have hg := good_form hq.wf hlg hlo
          have KG := good_c cur1 A' R1.length c' (formL base1 R1) w' (formL_length _ _) (by have := hq.wf.len; omega) hT
          rw [hg] at KG
          refine KG.mono ?_
          rintro e w'' ⟨rfl, hb''⟩
          exact ⟨rfl, Lib.hid ⟨hq'.below hb'', hlg, hlo, hb0, hb1⟩⟩)
        by_cases ho0 : o = 0
        · subst ho0
          go_wp2_with fail
          refine (senter_in (i, m, g) HQ5.out (by have := HI.out; omega) (by have := HI.out; omega) (by omega)).mono ?_
          rintro e w6 ⟨rfl, hq, -⟩
          have HD : Hid (GoodIn w w6 s (k + 1) (enterM base R (i, m, g)).2.1 cur (enterM base R (i, m, g)).2.2 ∧ base ≤ (enterM base R (i, m, g)).2.1) := by
            obtain ⟨hlg, hlo, hb0, hb1, -⟩ := HI.out
            obtain ⟨g1, g2, g3, g4⟩ := enter_lag (i, m, g) hlg hlo
            exact Lib.hid ⟨⟨hq.weak (by omega), g1, g2, by omega, by omega⟩, g3⟩
          generalize (enterM base R (i, m, g)).2.1 = base1 at *
          generalize (enterM base R (i, m, g)).2.2 = R1 at *
          clear hq
          go_wp2_with fail
          refine (TAIL.out _ _ _ _ HD).mono ?_
          rintro e w7 ⟨A', c', rfl, HT⟩
          have KG := Lib.hid HT.out.2.2
          have hge := HT.out.2.1
          clear HD TAIL HI HQ5
          go_wp2_with fail
          refine KG.out.mono ?_
          rintro e w8 ⟨rfl, HE⟩
          have KB := Lib.hid (sbase_in HE.out.1)
          have hdb : decide (base1 < base) = false := by simp; omega
          clear KG HT hge
          go_wp2_with fail
          refine KB.out.mono ?_
          rintro e w9 ⟨rfl, rfl⟩
          go_wp2_with fail
          refine KB.out.mono ?_
          rintro e w9 ⟨rfl, rfl⟩
          go_wp2_with fail
          go_roundw
          case rel => exact ⟨k + 1, _, _, _, rfl, by go_num, by omega, HE⟩
          case measure => simp [intOf]; omega
        by_cases ho2 : o = 2
        · subst ho2
          go_wp2_with fail
          refine (sleave_in i HQ5.out HI.out.2.2.2.2.1 (by omega)).mono ?_
          rintro e w6 ⟨rfl, hq, -⟩
          have HD : Hid (GoodIn w w6 s (k + 1) (leaveM base cur R i).2.2.1 (leaveM base cur R i).2.2.2.1 (leaveM base cur R i).2.2.2.2 ∧ base ≤ (leaveM base cur R i).2.2.1) := by
            obtain ⟨hlg, hlo, hb0, hb1, -⟩ := HI.out
            obtain ⟨g1, g2, g3, g4⟩ := leave_lag (cur := cur) i hlg hlo
            exact Lib.hid ⟨⟨hq.weak (by omega), g1, g2, by omega, by omega⟩, g3⟩
          generalize (leaveM base cur R i).2.2.1 = base1 at *
          generalize (leaveM base cur R i).2.2.2.1 = cur1 at *
          generalize (leaveM base cur R i).2.2.2.2 = R1 at *
          clear hq
          go_wp2_with fail
          refine (TAIL.out _ _ _ _ HD).mono ?_
          rintro e w7 ⟨A', c', rfl, HT⟩
          have KG := Lib.hid HT.out.2.2
          have hge := HT.out.2.1
          clear HD TAIL HI HQ5
          go_wp2_with fail
          refine KG.out.mono ?_
          rintro e w8 ⟨rfl, HE⟩
          have KB := Lib.hid (sbase_in HE.out.1)
          have hdb : decide (base1 < base) = false := by simp; omega
          clear KG HT hge
          go_wp2_with fail
          refine KB.out.mono ?_
          rintro e w9 ⟨rfl, rfl⟩
          go_wp2_with fail
          refine KB.out.mono ?_
          rintro e w9 ⟨rfl, rfl⟩
          go_wp2_with fail
          go_roundw
          case rel => exact ⟨k + 1, _, _, _, rfl, by go_num, by omega, HE⟩
          case measure => simp [intOf]; omega
        by_cases ho3 : o = 3
        · subst ho3
          go_wp2_with fail
          refine (sweigh_in i m HQ5.out HI.out.2.2.2.2.1 HI.out.2.2.2.2.2).mono ?_
          rintro e w6 ⟨rfl, hq, -⟩
          have HD : Hid (GoodIn w w6 s (k + 1) base cur (weighM R i m).2 ∧ base ≤ base) := by
            obtain ⟨hlg, hlo, hb0, hb1, -⟩ := HI.out
            obtain ⟨g1, g2⟩ := weigh_lag i m hlg hlo
            exact Lib.hid ⟨⟨hq.weak (by omega), g1, g2, by omega, by omega⟩, Int.le_refl _⟩
          generalize (weighM R i m).2 = R1 at *
          clear hq
          go_wp2_with fail
          refine (TAIL.out _ _ _ _ HD).mono ?_
          rintro e w7 ⟨A', c', rfl, HT⟩
          have KG := Lib.hid HT.out.2.2
          have hge := HT.out.2.1
          clear HD TAIL HI HQ5
          go_wp2_with fail
          refine KG.out.mono ?_
          rintro e w8 ⟨rfl, HE⟩
          have KB := Lib.hid (sbase_in HE.out.1)
          have hdb : decide (base < base) = false := by simp
          clear KG HT hge
          go_wp2_with fail
          refine KB.out.mono ?_
          rintro e w9 ⟨rfl, rfl⟩
          go_wp2_with fail
          refine KB.out.mono ?_
          rintro e w9 ⟨rfl, rfl⟩
          go_wp2_with fail
          go_roundw
          case rel => exact ⟨k + 1, _, _, _, rfl, by go_num, by omega, HE⟩
          case measure => simp [intOf]; omega
        by_cases ho4 : o = 4
        · subst ho4
          go_wp2_with fail
          refine (spick_any HQ5.out).mono ?_
          rintro e w6 ⟨z, bb, rfl, hq⟩
          have HD : Hid (GoodIn w w6 s (k + 1) base (pickC cur R) R ∧ base ≤ base) := by
            obtain ⟨hlg, hlo, hb0, hb1, -⟩ := HI.out
            exact Lib.hid ⟨⟨hq.weak (by omega), hlg, hlo, by omega, by omega⟩, Int.le_refl _⟩
          generalize pickC cur R = cur1 at *
          clear hq
          go_wp2_with fail
          refine (TAIL.out _ _ _ _ HD).mono ?_
          rintro e w7 ⟨A', c', rfl, HT⟩
          have KG := Lib.hid HT.out.2.2
          have hge := HT.out.2.1
          clear HD TAIL HI HQ5
          go_wp2_with fail
          refine KG.out.mono ?_
          rintro e w8 ⟨rfl, HE⟩
          have KB := Lib.hid (sbase_in HE.out.1)
          have hdb : decide (base < base) = false := by simp
          clear KG HT hge
          go_wp2_with fail
          refine KB.out.mono ?_
          rintro e w9 ⟨rfl, rfl⟩
          go_wp2_with fail
          refine KB.out.mono ?_
          rintro e w9 ⟨rfl, rfl⟩
          go_wp2_with fail
          go_roundw
          case rel => exact ⟨k + 1, _, _, _, rfl, by go_num, by omega, HE⟩
          case measure => simp [intOf]; omega
        · have e0 : (o == 0) = false := by simp [ho0]
          have e2 : (o == 2) = false := by simp [ho2]
          have e3 : (o == 3) = false := by simp [ho3]
          have e4 : (o == 4) = false := by simp [ho4]
          clear ho0 ho2 ho3 ho4
          go_wp2_with fail
          refine (spick_any HQ5.out).mono ?_
          rintro e w5' ⟨z, bb, rfl, hq⟩
          have KC := Lib.hid (scharge_in hq (by omega))
          have hwf := hq.wf
          have HW := Lib.hid hwf
          clear hq hwf
          go_wp2_with fail
          refine KC.out.mono ?_
          rintro e w6 ⟨rfl, hq, -⟩
          have HD : Hid (GoodIn w w6 s (k + 1) (chargeM base (pickC cur R) R).2.2.1 (pickC cur R) (chargeM base (pickC cur R) R).2.2.2 ∧ base ≤ (chargeM base (pickC cur R) R).2.2.1) := by
            obtain ⟨hlg, hlo, hb0, hb1, -⟩ := HI.out
            obtain ⟨g1, g2, g3, g4⟩ := charge_lag HW.out hlg hlo
            exact Lib.hid ⟨⟨hq.weak (by omega), g1, g2, by omega, by omega⟩, g3⟩
          clear HW KC
          generalize chargeM base (pickC cur R) R = C1 at *
          obtain ⟨c1', c2', base1, R1⟩ := C1
          simp only at HD hq ⊢
          generalize pickC cur R = cur1 at *
          clear hq
          go_wp2_with fail
          refine (TAIL.out _ _ _ _ HD).mono ?_
          rintro e w7 ⟨A', c', rfl, HT⟩
          have KG := Lib.hid HT.out.2.2
          have hge := HT.out.2.1
          clear HD TAIL HI HQ5
          go_wp2_with fail
          refine KG.out.mono ?_
          rintro e w8 ⟨rfl, HE⟩
          have KB := Lib.hid (sbase_in HE.out.1)
          have hdb : decide (base1 < base) = false := by simp; omega
          clear KG HT hge
          go_wp2_with fail
          refine KB.out.mono ?_
          rintro e w9 ⟨rfl, rfl⟩
          go_wp2_with fail
          refine KB.out.mono ?_
          rintro e w9 ⟨rfl, rfl⟩
          go_wp2_with fail
          go_roundw
          case rel => exact ⟨k + 1, _, _, _, rfl, by go_num, by omega, HE⟩
          case measure => simp [intOf]; omega
      · have HB : Hid (Below w.heap.size w wr) := Lib.hid HQ.out.1.frame
        have hlt' : decide ((k : Int) < (t : Int)) = false := by simp; omega
        clear HQ
        go_wp2_with fail
        go_ret
        exact ⟨rfl, HB.out⟩
  · obtain ⟨rfl, hb⟩ := hP
    have HB := Lib.hid (HB2.out.trans (hb.mono HB2.out.size))
    clear hb KS
    go_wp2_with fail
    go_ret
    exact ⟨rfl, HB.out⟩
end Go.Proofs.Ytnfcapeajhegmaa
