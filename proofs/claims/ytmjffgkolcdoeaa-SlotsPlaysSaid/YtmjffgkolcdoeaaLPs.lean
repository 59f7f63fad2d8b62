/- SlotsPlays: its walk. -/
import Derived.Test.YtmjffgkolcdoeaaUc
import Derived.Deep.RegionHeld3
import Derived.Deep.DeepCutAuto
namespace Go.Proofs.Ytmjffgkolcdoeaa
open Go.RowKit

theorem wf_to {a : Int} (h : (Lit.int .i64 a).wf = true) : -9223372036854775808 ≤ a ∧ a ≤ 9223372036854775807 := by
  have e1 : IntKind.i64.min = -9223372036854775808 := by decide
  have e2 : IntKind.i64.max = 9223372036854775807 := by decide
  simp only [Lit.wf, e1, e2, Bool.and_eq_true, decide_eq_true_eq] at h
  exact h
/-- A list of numbers comes back. -/
def LRet (n : Nat) (L : List Int) (w0 w : World) (e : Ending) (w' : World) : Prop := ∃ A c, e = .returned (.slice A n c) ∧ IRow .i64 w' w'.heap.size A L ∧ Below w.heap.size w w' ∧ Below w0.heap.size w0 w'
theorem lret_of {w0 w w' : World} {L : List Int} {n : Nat} {v : Value} (hn : L.length = n) (h : OwnI .i64 w' w.heap.size 3 v L) (hb : Below w.heap.size w w') (h0 : Below w0.heap.size w0 w) : LRet n L w0 w (.returned v) w' := by
  obtain ⟨A, c, g1, _, _, g4⟩ := h.form
  exact ⟨A, c, by rw [g1, hn], g4, hb, h0.trans (hb.mono h0.size)⟩

set_option maxRecDepth 100000 in
set_option maxHeartbeats 8000000 in
theorem slotsPlays_c (most : Int) (A : Option Addr) (c : Nat) (l : List Int) (W : World) (_ : l.length ≤ c) (_ : c ≤ maxLen) (hr : IRow .i64 W W.heap.size A l) (hw : ∀ z ∈ l, (Lit.int .i64 z).wf = true) :
    Calls Try.prog 4 #[.int .i64 most, .slice A l.length c] W fun e w' => e = .returned (.bool true) ∧ Below W.heap.size W w' := by
  obtain ⟨n, hn⟩ : ∃ n, l.length = n := ⟨_, rfl⟩
  have HN := Lib.hid hn
  have HR := Lib.hid hr
  have HW := Lib.hid hw
  rw [hn]
  clear hn hr hw
  by_cases hbig : 200 < n
  · go_enter Try.func4, Try.ntmps4
    go_wp2_with fail
    refine (awake6_c W).mono ?_
    rintro e w1 ⟨rfl, hb1⟩
    have HB1 := Lib.hid hb1
    clear hb1
    go_wp2_with fail
    go_ret
    exact ⟨rfl, HB1.out⟩
  have hn3 : n ≤ 200 := by omega
  clear hbig
  go_enter Try.func4, Try.ntmps4
  go_wp2_with fail
  refine (awake6_c W).mono ?_
  rintro e w1 ⟨rfl, hb1⟩
  have HB1 := Lib.hid hb1
  clear hb1
  go_wp2_with fail
  refine (new_in HB1.out most).mono ?_
  rintro e w2 ⟨b, g, rfl, hs, _, _, _⟩
  have HS := Lib.hid hs
  clear hs HB1
  go_wp2_with fail
  refine (newNames_c most w2).mono ?_
  rintro e w3 ⟨p, a, o, rfl, hnn, hf, hb3⟩
  obtain ⟨m, hm⟩ : ∃ m, m = w3.heap.size := ⟨_, rfl⟩
  have HP0 := Lib.hid (ps_new HS.out hb3 hnn hf hm)
  have hmm := @run_makeMap Try.prog
  clear hnn hf hb3 HS
  go_wp2_with fail
  rw [← hm]
  clear hm hmm
  go_loopw [8] (fun i wr => ∃ k : Nat, i = .int .i64 k ∧ k ≤ n ∧ Hid (∃ S, PS W wr b g p a o m S S (gaveS S) k ∧ ∀ x ∈ S, x.1 ≤ k)) (fun i _ => n - (intOf i).toNat)
  case atStart => exact ⟨0, rfl, Nat.zero_le _, Lib.hid ⟨_, HP0.out, fun x hx => by rw [List.eq_of_mem_replicate hx]; exact Nat.le_refl _⟩⟩
  case round =>
    obtain ⟨k, rfl, hk, HK⟩ := hrel
    clear HP0
    by_cases hlt : k < n
    · have hkl : k < l.length := by rw [HN.out]; exact hlt
      obtain ⟨ad, rfl, hab, hc⟩ := HR.out.at hkl
      obtain ⟨x, hx⟩ : ∃ x, x = l[k] := ⟨_, rfl⟩
      rw [← hx] at hc
      have hxw := wf_to (HW.out x (by rw [hx]; exact List.getElem_mem hkl))
      obtain ⟨hx1, hx2⟩ := hxw
      have CELL : Hid (∀ w', Below W.heap.size W w' → w'.cell? (ad.add k) = some (.int .i64 x)) := Lib.hid (fun w' hb => (hb.cell (by rw [add_block]; exact hab)).trans hc)
      clear hab hc hx hkl
      obtain ⟨S, hP, hbd⟩ := HK.out
      have HP := Lib.hid hP
      have HBD : Hid (∀ y ∈ S, y.1 ≤ 1000000) := Lib.hid (fun y hy => by have := hbd y hy; omega)
      have HBK := Lib.hid hbd
      have hcx := CELL.out _ hP.fr
      clear hP hbd HK
      go_upto_if 35 with fail
      go_cut [] (fun wx => Hid (∃ S, PS W wx b g p a o m S S (gaveS S) (k + 1) ∧ ∀ x ∈ S, x.1 ≤ k + 1))
      case first => as_aux_lemma =>
        by_cases hx0 : x < 0
        · rcases take_cases S with hT | ⟨j, t, hj, hT⟩
          · have K1 := take_c b g S _ HP.out.s HBD.out
            rw [hT] at K1
            simp only at K1
            have K1' := Lib.hid K1
            clear K1
            go_wp2_with fail
            refine K1'.out.mono ?_
            rintro e w4 ⟨rfl, h4⟩
            have P4 := Lib.hid (HP.out.slots h4)
            have K2 := ntake_c p a o S _ P4.out.n HBD.out
            rw [hT] at K2
            simp only at K2
            have K2' := Lib.hid K2
            clear K2 h4 K1' hcx
            go_wp2_with fail
            refine K2'.out.mono ?_
            rintro e w5 ⟨rfl, h5⟩
            have P5 := Lib.hid ((P4.out.names h5).weak (N' := k + 1) (by omega) (fun _ h => h))
            clear h5 K2' P4
            go_wp2_with fail
            go_meet
            exact Lib.hid ⟨S, P5.out, fun y hy => by have := HBK.out y hy; omega⟩
          · have K1 := take_c b g S _ HP.out.s HBD.out
            have hng := gave_not HP.out.s.le hj
            have htk := HBK.out _ (List.mem_of_getElem? hj)
            have hj64 : j < 64 := by have := HP.out.s.le; have := (List.getElem?_eq_some_iff.1 hj).1; omega
            simp only at htk
            have hwf : (Lit.int .i64 ((j : Int) + 64 * (t : Int))).wf = true := wf_of (by omega) (by omega)
            have HBT := Lib.hid (take_bd (c' := true) HBK.out hj)
            have HGT := Lib.hid (fun z => gave_take (z := z) hj)
            obtain ⟨S', hS'⟩ : ∃ S', S.set j (t, true) = S' := ⟨_, rfl⟩
            obtain ⟨z, hz⟩ : ∃ z : Int, (j : Int) + 64 * (t : Int) = z := ⟨_, rfl⟩
            rw [hS', hz] at hT
            rw [hS'] at HBT
            rw [hS', hz] at HGT
            rw [hz] at hng hwf
            rw [hT] at K1
            simp only at K1
            have K1' := Lib.hid K1
            clear K1 hj htk hz hS' hj64
            go_wp2_with fail
            refine K1'.out.mono ?_
            rintro e w4 ⟨rfl, h4⟩
            have P4 := Lib.hid (HP.out.slots h4)
            have K2 := ntake_c p a o S _ P4.out.n HBD.out
            rw [hT] at K2
            simp only at K2
            have K2' := Lib.hid K2
            clear K2 h4 K1' hcx hT
            go_wp2_with fail
            refine K2'.out.mono ?_
            rintro e w5 ⟨rfl, h5⟩
            have hP5 := P4.out.names h5
            have hlk := hP5.gm.look hwf hng
            obtain ⟨w6, hst, hgm, hgr, _⟩ := hP5.gm.store hwf (by omega)
            have P6 := Lib.hid ((hP5.stored hgm hgr).weak (Nat.le_refl _) HGT.out)
            clear h5 K2' P4 hP5 hgm hgr hng hwf
            go_wp2_with fail
            go_meet
            exact Lib.hid ⟨S', P6.out, fun y hy => by have := HBT.out y hy; omega⟩
        · have PF := Lib.hid (fun w => free_c b g S x w)
          have PN := Lib.hid (fun w => nfree_c p a o S x w)
          obtain ⟨⟨ev, S'⟩, hfr⟩ : ∃ r, freeS S x = r := ⟨_, rfl⟩
          have hbd' := free_bd (id := x) HBK.out
          have hgv : ∀ z, gaveS S z → gaveS (freeS S x).2 z := fun z hz => gave_free hz
          rw [hfr] at PF PN hbd' hgv
          simp only at PF PN hbd' hgv
          have HBF := Lib.hid hbd'
          have HGF := Lib.hid hgv
          have hdc : decide (ev = ev) = true := by simp
          have hxx : decide (x < 0) = false := by simp; omega
          have PD := Lib.hid HP.out.drew
          have hcd := CELL.out _ HP.out.drew.fr
          clear hbd' hgv hfr
          go_wp2_with fail
          go_region_held3 (fun w' => w'.cell? (ad.add k) = some (.int .i64 x)) (first | exact hcz | exact hcy | exact hcd)
            (first
              | (go_at_call 17; refine (PN.out _ QF.out.n hx1 hx2 HBD.out).mono ?_; rintro e y2 ⟨rfl, h2⟩; have QZ := Lib.hid (QF.out.names h2); have hcz := CELL.out _ QZ.out.fr; clear h2)
              | (go_at_call 9; refine (PF.out _ QN.out.s hx1 hx2 HBD.out).mono ?_; rintro e y2 ⟨rfl, h2⟩; have QZ := Lib.hid (QN.out.slots h2); have hcz := CELL.out _ QZ.out.fr; clear h2)
              | (go_at_call 9; refine (PF.out _ PD.out.s hx1 hx2 HBD.out).mono ?_; rintro e y1 ⟨rfl, h1⟩; have QF := Lib.hid (PD.out.slots h1); have hcy := CELL.out _ QF.out.fr; clear h1)
              | (go_at_call 17; refine (PN.out _ PD.out.n hx1 hx2 HBD.out).mono ?_; rintro e y1 ⟨rfl, h1⟩; have QN := Lib.hid (PD.out.names h1); have hcy := CELL.out _ QN.out.fr; clear h1))
          all_goals
            go_wp2_with fail
            go_meet
            exact Lib.hid ⟨S', (QZ.out.weak (Nat.le_succ _) HGF.out), HBF.out⟩
      case rest =>
        clear HP HBD HBK hcx
        obtain ⟨S2, hP2, hbd2⟩ := hcut.out
        have HP2 := Lib.hid hP2
        have hb6 : ∀ y ∈ S2, y.1 ≤ 1000000 := fun y hy => by have := hbd2 y hy; omega
        have HBD2 := Lib.hid hbd2
        obtain ⟨q, hq⟩ : ∃ q, (namesL S2).length = q := ⟨_, rfl⟩
        have hq' : (placesL S2 true).length = q := by rw [← hq]; unfold namesL; rw [List.length_map]
        have hq64 : q ≤ 64 := by have := placesL_length S2 true; have := hP2.s.le; omega
        have KL := Lib.hid (fun (w' : World) (hb : Below wc.heap.size wc w') => (slist_c b g S2 w' (hP2.below hb).s hb6).mono (R' := LRet q (namesL S2) wc w') (by rintro e w'' ⟨v, rfl, h1, h2⟩; exact lret_of hq h1 h2 hb))
        have KA := Lib.hid (fun (w' : World) (hb : Below wc.heap.size wc w') => (nall_c p a o S2 w' (hP2.below hb).n hb6).mono (R' := LRet q (namesL S2) wc w') (by rintro e w'' ⟨v, rfl, h1, h2⟩; exact lret_of hq h1 h2 hb))
        have KN := Lib.hid (fun (w' : World) (hb : Below wc.heap.size wc w') => (len_c b g S2 w' (hP2.below hb).s).mono (R' := fun e w'' => e = .returned (.int .i64 q) ∧ Below wc.heap.size wc w'') (by rintro e w'' ⟨rfl, h2⟩; exact ⟨by rw [hq'], hb.trans (h2.mono hb.size)⟩))
        obtain ⟨hb, hhb⟩ : ∃ hb, hasS S2 x = hb := ⟨_, rfl⟩
        have KH := Lib.hid (fun (w' : World) (hb : Below wc.heap.size wc w') => has_c b g S2 x w' (hP2.below hb).s hx1 hx2)
        have KH2 := Lib.hid (fun (w' : World) (hb : Below wc.heap.size wc w') => nhas_c p a o S2 x w' (hP2.below hb).n hx1 hx2 hb6)
        rw [hhb] at KH KH2
        obtain ⟨L, hL⟩ : ∃ L, namesL S2 = L := ⟨_, rfl⟩
        rw [hL] at hq KL KA
        have HQ := Lib.hid hq
        have BD := Lib.hid ((Below.refl wc.heap.size wc).drew)
        have FRW := Lib.hid (fun (w' : World) (hb : Below wc.heap.size wc w') => (hP2.below hb).fr)
        have hcd := CELL.out _ (FRW.out _ BD.out)
        have e1 : ((q : Int) != (q : Int)) = false := by simp
        have e2 : (hb != hb) = false := by simp
        clear hP2 hbd2 hb6 hq hq' hhb hL hcut
        go_wp2_with fail
        go_region_held3 (fun w' => w'.cell? (ad.add k) = some (.int .i64 x)) (first | exact hcl | exact hca | exact hcn | exact hci | exact hcd)
          (first
            | (go_at_call 12; refine (ints6_eq _ _ q _ _ _ L _ HQ.out (by omega) (by first | exact r1.out | exact r1.out.keep b2.out.size (fun p hp => b2.out.cell hp)) (by first | exact r2.out | exact r2.out.keep b1.out.size (fun p hp => b1.out.cell hp))).mono ?_; rintro e x3 ⟨rfl, h3⟩; have B3 := Lib.hid ((show Below wc.heap.size wc _ from (by first | exact B2.out | exact B1.out)).trans (h3.mono (by first | exact B2.out.size | exact B1.out.size))); have hci := CELL.out _ (FRW.out _ B3.out); clear h3)
            | (go_at_call 13; refine (KL.out _ (by first | exact B2.out | exact BD.out)).mono ?_; rintro e x1 ⟨A1, c1, rfl, h1, h2, h3⟩; have r1 := Lib.hid h1; have b1 := Lib.hid h2; have B1 := Lib.hid h3; have hcl := CELL.out _ (FRW.out _ h3); clear h1 h2 h3)
            | (go_at_call 18; refine (KA.out _ (by first | exact B4.out | exact B3.out | exact B1.out | exact BD.out)).mono ?_; rintro e x2 ⟨A2, c2, rfl, h1, h2, h3⟩; have r2 := Lib.hid h1; have b2 := Lib.hid h2; have B2 := Lib.hid h3; have hca := CELL.out _ (FRW.out _ h3); clear h1 h2 h3)
            | (go_at_call 14; refine (KN.out _ (by first | exact B2.out | exact B3.out)).mono ?_; rintro e x4 ⟨rfl, h3⟩; have B4 := Lib.hid h3; have hcn := CELL.out _ (FRW.out _ h3); clear h3)
            | (go_at_call 11; refine (KH.out _ (by first | exact B2.out | exact B4.out)).mono ?_; rintro e x5 ⟨rfl, rfl⟩)
            | (go_at_call 19; refine (KH2.out _ (by first | exact B2.out | exact B4.out)).mono ?_; rintro e x5 ⟨rfl, rfl⟩))
        have HF := Lib.hid (HP2.out.below B2.out)
        clear HP2 KL KA KN KH KH2 r1 r2 b1 b2 B1 B2 B3 B4 BD FRW CELL hcl hci hcn hcd HQ
        by_cases hx0 : x < 0
        · have KP := Lib.hid (fun w => place_v (id := x) (p := -1) (t := -1) w hx1 hx2 (by unfold placeV; rw [if_pos hx0]))
          go_wp2_with fail
          refine (KP.out _).mono ?_
          rintro e w7 ⟨rfl, rfl⟩
          go_wp2_with fail
          go_roundw
          case rel => exact ⟨k + 1, by go_num, by omega, Lib.hid ⟨S2, HF.out, HBD2.out⟩⟩
          case measure => simp [intOf]; omega
        · have KP := Lib.hid (fun w => place_v (id := x) (p := x % 64) (t := x / 64) w hx1 hx2 (by unfold placeV; rw [if_neg hx0]))
          obtain ⟨pp, hpp⟩ : ∃ pp, x % 64 = pp := ⟨_, rfl⟩
          obtain ⟨tt, htt⟩ : ∃ tt, x / 64 = tt := ⟨_, rfl⟩
          have y1 : pp + 64 * tt = x := by omega
          have y2 : 0 ≤ tt := by omega
          have y3 : tt ≤ 144115188075855871 := by omega
          have y4 : 0 ≤ pp := by omega
          have y5 : pp < 64 := by omega
          rw [hpp, htt] at KP
          clear hpp htt
          go_wp2_with fail
          refine (KP.out _).mono ?_
          rintro e w7 ⟨rfl, rfl⟩
          go_wp2_with fail
          go_roundw
          case rel => exact ⟨k + 1, by go_num, by omega, Lib.hid ⟨S2, HF.out, HBD2.out⟩⟩
          case measure => simp [intOf]; omega
    · obtain rfl : k = n := by omega
      obtain ⟨S, hP, _⟩ := HK.out
      have HF := Lib.hid hP.fr
      clear hP
      go_wp2_with fail
      go_ret
      exact ⟨rfl, HF.out⟩
end Go.Proofs.Ytmjffgkolcdoeaa
