/- PolicyTurns. -/
import Derived.Test.YtancneebbellnaaGreatDoorJg
import Derived.Test.YtancneebbellnaaGreatDoorYh
namespace Go.Proofs.YtancneebbellnaaGreatDoor.Po
open Go.RowKit Go.Maps

/-- The form's box at the head of a round: it tells what it told. -/
def TuAt (w : World) (f0 : Int) (l : List RI) (n : Nat) (wr : World) : Prop := ∃ A c, FoAt wr w.heap.size f0 A n c ∧ TRow wr A l ∧ Below w.heap.size w wr
set_option maxRecDepth 100000 in
set_option maxHeartbeats 16000000 in
theorem sturns_c (f0 : Int) (A A1 A2 : Option Addr) (c c1 c2 : Nat) (l : List RI) (tags bases : List Int) (w : World) (hk : Kinds w) (hr : TRow w A l) (hr1 : IRow .i64 w w.heap.size A1 tags) (hr2 : IRow .i64 w w.heap.size A2 bases) :
    Calls Tryz.prog 5 #[.agg #[.int .i64 f0, .slice A l.length c], .slice A1 tags.length c1, .slice A2 bases.length c2] w fun e w' => e = .returned (.bool true) ∧ Below w.heap.size w w' := by
  have hb1 := (Below.refl _ w).alloc (Nat.le_refl _) (.cells #[.int .i64 f0, .slice A l.length c] 30)
  have hf1 : FoAt (w.alloc (.cells #[.int .i64 f0, .slice A l.length c] 30)) w.heap.size f0 A l.length c := heap_alloc_new w _
  obtain ⟨w1, hw1⟩ : ∃ w1, w.alloc (.cells #[.int .i64 f0, .slice A l.length c] 30) = w1 := ⟨_, rfl⟩
  have hs1 : w1.heap.size = w.heap.size + 1 := by rw [← hw1]; simp
  rw [hw1] at hb1 hf1
  have KA := Lib.hid (awake14_c w1 (hk.below hb1 (Nat.le_refl _)))
  obtain ⟨n, hn⟩ : ∃ n, l.length = n := ⟨_, rfl⟩
  obtain ⟨m1, hm1⟩ : ∃ m1, tags.length = m1 := ⟨_, rfl⟩
  obtain ⟨m2, hm2⟩ : ∃ m2, bases.length = m2 := ⟨_, rfl⟩
  rw [hn] at hf1 hw1 ⊢
  rw [hm1, hm2]
  have KG : Hid (∀ W, n ≤ 64 → Below w.heap.size w W → Calls Tryz.prog 34 #[.agg #[.int .i64 f0, .slice A n c]] W (Ret10 (.bool (goodV f0 l)) W)) := Lib.hid (fun W h64 hb => good_c f0 A n c l W hn (by omega) (hr.below hb (Nat.le_refl _)))
  have HB1 := Lib.hid hb1
  have HF1 := Lib.hid hf1
  have HR := Lib.hid hr
  have HR1 := Lib.hid hr1
  have HR2 := Lib.hid hr2
  have HN := Lib.hid (And.intro hn (And.intro hm1 hm2))
  clear hr hr1 hr2 hn hm1 hm2 hb1 hf1 hk
  go_enter Tryz.func5, Tryz.ntmps5
  go_wp2_with fail
  refine KA.out.mono ?_
  rintro e w2 ⟨rfl, hb⟩
  have HB2 := Lib.hid (HB1.out.trans (hb.mono (by omega)))
  have hf2 : FoAt w2 w.heap.size f0 A n c := BoxAt.next HF1.out hb (Nat.le_refl _)
  have HF2 := Lib.hid hf2
  obtain ⟨d0, d1, -, -⟩ := FoAt.cells hf2
  clear hb KA hf2 HF1 HB1 hs1 hw1
  by_cases h64 : (64 : Int) < (n : Int)
  · go_wp2_with fail
    go_ret
    exact ⟨rfl, HB2.out⟩
  by_cases h12 : (12 : Int) < (m1 : Int)
  · go_wp2_with fail
    go_ret
    exact ⟨rfl, HB2.out⟩
  have HL := Lib.hid (show n ≤ 64 by omega)
  go_wp2_with fail
  refine (KG.out _ (by omega) HB2.out).mono ?_
  rintro e w3 ⟨rfl, hb⟩
  have HB3 := Lib.hid (HB2.out.trans (hb.mono HB2.out.size))
  have hf3 : FoAt w3 w.heap.size f0 A n c := BoxAt.next HF2.out hb (Nat.le_refl _)
  have HA : Hid (TuAt w f0 l n w3) := Lib.hid ⟨A, c, hf3, HR.out.below HB3.out (Nat.le_refl _), HB3.out⟩
  clear hb KG HF2 HB2 hf3 d0 d1 HR
  cases hg : goodV f0 l
  case' false =>
    go_wp2_with fail
    go_ret
    exact ⟨rfl, HB3.out⟩
  have HG := Lib.hid hg
  clear hg
  go_wp2_with fail
  clear HB3
  go_loopw [7] (fun i wr => ∃ k : Nat, i = .int .i64 k ∧ k ≤ m1 ∧ Hid (TuAt w f0 l n wr)) (fun i _ => m1 - (intOf i).toNat)
  case atStart => exact ⟨0, rfl, by omega, HA⟩
  case round =>
    obtain ⟨k, rfl, hk, HQ⟩ := hrel
    clear HA
    by_cases hlt : k < m1
    · obtain ⟨Af, cf, hf, hT, hb⟩ := HQ.out
      obtain ⟨d0, d1, d2, d3⟩ := FoAt.cells hf
      obtain ⟨z, hz⟩ : ∃ z, tags[k]? = some z := ⟨_, List.getElem?_eq_getElem (by rw [HN.out.2.1]; exact hlt)⟩
      obtain ⟨ad, rfl, hab, hc0⟩ := HR1.out k z hz
      have HZ : Hid (∀ W, Below w.heap.size w W → W.cell? (ad.add k) = some (.int .i64 z)) := Lib.hid (fun W hb => (hb.cell (p := ad.add k) (by rw [add_block]; exact hab)).trans hc0)
      have y0 := HZ.out wr hb
      have hlt' : (k : Int) < (m1 : Int) := by omega
      have HB := Lib.hid hb
      have HF := Lib.hid hf
      have HT := Lib.hid hT
      have KS : Hid (∀ b, Calls Tryz.prog 10 #[.int .i64 z, .agg #[.int .i64 f0, .slice Af n cf], .int .i64 b] wr.drew (SeedP z b f0 l wr.drew)) := Lib.hid (fun b => sseed_p f0 b Af n cf l wr.drew z HN.out.1 (by have := HL.out; omega) (hT.below (Below.refl _ wr).drew (Nat.le_refl _)))
      clear hz hab hc0 hb hf hT HQ
      have HS0 := Lib.hid (And.intro y0 (And.intro d0 d1))
      by_cases hlt2 : k < m2
      · obtain ⟨b, hbz⟩ : ∃ b, bases[k]? = some b := ⟨_, List.getElem?_eq_getElem (by rw [HN.out.2.2]; exact hlt2)⟩
        obtain ⟨ad2, rfl, hab, hc0⟩ := HR2.out k b hbz
        have y1 := (HB.out.cell (p := ad2.add k) (by rw [add_block]; exact hab)).trans hc0
        have hlt2' : (k : Int) < (m2 : Int) := by omega
        clear hbz hab hc0
        go_wp2_with fail
        by_cases hg2 : Tag z ∧ SdOk b f0 l
        · have KS1 := Lib.hid ((KS.out b).mono (fun e w' (h : SeedP z b f0 l wr.drew e w') => by
            unfold SeedP at h
            rw [if_pos hg2] at h
            obtain ⟨p, A, st, he, hq, s1, s2, hn, hb⟩ := h
            have hbd : Below w.heap.size w wr.drew := HB.out.trans ((Below.refl _ wr).drew.mono HB.out.size)
            have hbw : Below w.heap.size w w' := hbd.trans (hb.mono hbd.size)
            have hbr : Below wr.heap.size wr w' := (Below.refl _ wr).drew.trans hb
            have hf' : FoAt w' w.heap.size f0 Af n cf := BoxAt.next HF.out hbr (Nat.le_refl _)
            exact (⟨p, he, ⟨HZ.out w' hbw, (FoAt.cells hf').1, (FoAt.cells hf').2.1⟩, Lib.hid ⟨seed_in hbd (fun _ h => h.elim) hq s1 s2 hn hb, hf', HT.out.below hbr (Nat.le_refl _)⟩⟩ : ∃ p, e = .returned (.tuple #[.pointer (some ⟨p, 0, none⟩), .int .i64 0]) ∧ (w'.cell? (ad.add k) = some (.int .i64 z) ∧ w'.cell? ⟨w.heap.size, 0, none⟩ = some (.int .i64 f0) ∧ w'.cell? ⟨w.heap.size, 1, none⟩ = some (.slice Af n cf)) ∧ Hid (SIn z w w' p b f0 (seedU b l) 4000 (fun _ => False) ∧ FoAt w' w.heap.size f0 Af n cf ∧ TRow w' Af l))))
          clear KS hg2 HB HF HT
          go_region_held3 (fun w' => w'.cell? (ad.add k) = some (.int .i64 z) ∧ w'.cell? ⟨w.heap.size, 0, none⟩ = some (.int .i64 f0) ∧ w'.cell? ⟨w.heap.size, 1, none⟩ = some (.slice Af n cf)) (first | exact HS0.out | exact HS1.out | go_keep)
            (first
              | (go_at_call 10; refine KS1.out.mono ?_; rintro e w4 ⟨p, rfl, hS, HQ4⟩; have HS1 := Lib.hid hS; clear hS))
          have HZ0 := Lib.hid HS1.out.2
          have KF := Lib.hid ((sform_in (HQ4.out.1.below (Below.refl _ w4).drew)).mono (fun e w' (h : ∃ A c, e = .returned (.agg #[.int .i64 f0, .slice A (seedU b l).length c]) ∧ TRow w' A (formU b (seedU b l)) ∧ Below w4.drew.heap.size w4.drew w') => by
            obtain ⟨A8, c8, he, hT8, hb8⟩ := h
            rw [formU_seed] at hT8
            rw [seedU_length, HN.out.1] at he
            have hb48 : Below w4.heap.size w4 w' := (Below.refl _ w4).drew.trans hb8
            have hf8 : FoAt w' w.heap.size f0 Af n cf := BoxAt.next HQ4.out.2.1 hb48 (Nat.le_refl _)
            have K := same_c f0 f0 A8 Af n c8 n cf l l w' HN.out.1 HN.out.1 (by have := HL.out; omega) hT8 (HQ4.out.2.2.below hb48 (Nat.le_refl _))
            have es : sameB f0 f0 l l = true := by unfold sameB; simp
            rw [es] at K
            have K' := K.mono (fun e2 w2' (h2 : Ret10 (.bool true) w' e2 w2') => by
              obtain ⟨he2, hb9⟩ := h2
              have hf9 : FoAt w2' w.heap.size f0 Af n cf := BoxAt.next hf8 hb9 (Nat.le_refl _)
              exact (⟨he2, ⟨(FoAt.cells hf9).1, (FoAt.cells hf9).2.1⟩, Lib.hid ⟨HQ4.out.1.below (hb48.trans (hb9.mono hb48.size)), hf9⟩⟩ : e2 = .returned (.bool true) ∧ (w2'.cell? ⟨w.heap.size, 0, none⟩ = some (.int .i64 f0) ∧ w2'.cell? ⟨w.heap.size, 1, none⟩ = some (.slice Af n cf)) ∧ Hid (SIn z w w2' p b f0 (seedU b l) 4000 (fun _ => False) ∧ FoAt w2' w.heap.size f0 Af n cf)))
            exact (⟨A8, c8, he, ⟨(FoAt.cells hf8).1, (FoAt.cells hf8).2.1⟩, Lib.hid K'⟩ : ∃ A8 c8, e = .returned (.agg #[.int .i64 f0, .slice A8 n c8]) ∧ (w'.cell? ⟨w.heap.size, 0, none⟩ = some (.int .i64 f0) ∧ w'.cell? ⟨w.heap.size, 1, none⟩ = some (.slice Af n cf)) ∧ Hid (Calls Tryz.prog 35 #[.agg #[.int .i64 f0, .slice A8 n c8], .agg #[.int .i64 f0, .slice Af n cf]] w' fun e2 w2' => e2 = .returned (.bool true) ∧ (w2'.cell? ⟨w.heap.size, 0, none⟩ = some (.int .i64 f0) ∧ w2'.cell? ⟨w.heap.size, 1, none⟩ = some (.slice Af n cf)) ∧ Hid (SIn z w w2' p b f0 (seedU b l) 4000 (fun _ => False) ∧ FoAt w2' w.heap.size f0 Af n cf)))))
          clear HS0 HS1 KS1 HQ4
          go_wp2_with fail
          go_region_held3 (fun w' => w'.cell? ⟨w.heap.size, 0, none⟩ = some (.int .i64 f0) ∧ w'.cell? ⟨w.heap.size, 1, none⟩ = some (.slice Af n cf)) (first | exact HZ0.out | exact HZ1.out | exact HZ2.out | go_keep)
            (first
              | (go_at_call 31; refine KF.out.mono ?_; rintro e w8 ⟨A8, c8, rfl, hS, KE⟩; have HZ1 := Lib.hid hS; clear hS)
              | (go_at_call 35; refine KE.out.mono ?_; rintro e w9 ⟨rfl, hS, HQ9⟩; have HZ2 := Lib.hid hS; clear hS))
          have KF2 := Lib.hid ((sform_in HQ9.out.1).mono (fun e w' (h : ∃ A c, e = .returned (.agg #[.int .i64 f0, .slice A (seedU b l).length c]) ∧ TRow w' A (formU b (seedU b l)) ∧ Below w9.heap.size w9 w') => by
            obtain ⟨A8, c8, he, hT8, hb8⟩ := h
            rw [formU_seed] at hT8
            rw [seedU_length, HN.out.1] at he
            exact (⟨A8, c8, he, hT8, (BoxAt.next HQ9.out.2 hb8 (Nat.le_refl _)), HQ9.out.1.frame.trans (hb8.mono HQ9.out.1.frame.size)⟩ : ∃ A8 c8, e = .returned (.agg #[.int .i64 f0, .slice A8 n c8]) ∧ TRow w' A8 l ∧ FoAt w' w.heap.size f0 Af n cf ∧ Below w.heap.size w w')))
          clear HZ0 HZ1 HZ2 KF KE HQ9
          go_wp2_with fail
          refine KF2.out.mono ?_
          rintro e w10 ⟨A10, c10, rfl, hT10, hf10, hb10⟩
          obtain ⟨t0, t1, t2, t3⟩ := two_cells hf10 (.int .i64 f0)
          have HE : Hid (TuAt w f0 l n (set2 w10 w.heap.size (.int .i64 f0) (.slice A10 n c10))) := Lib.hid ⟨A10, c10, set2_same _ _ hf10, trow_set2 hf10 hT10 _ _, below_set2 _ _ hb10 (Nat.le_refl _)⟩
          clear hT10 hf10 hb10 KF2
          go_wp2_with fail
          go_roundw
          case rel => exact ⟨k + 1, by go_num, by omega, HE⟩
          case measure => simp [intOf]; omega
        · have KS1 := Lib.hid ((KS.out b).mono (fun e w' (h : SeedP z b f0 l wr.drew e w') => by
            unfold SeedP at h
            rw [if_neg hg2] at h
            obtain ⟨he, hb⟩ := h
            have hbd : Below w.heap.size w wr.drew := HB.out.trans ((Below.refl _ wr).drew.mono HB.out.size)
            have hbw : Below w.heap.size w w' := hbd.trans (hb.mono hbd.size)
            have hbr : Below wr.heap.size wr w' := (Below.refl _ wr).drew.trans hb
            have hf' : FoAt w' w.heap.size f0 Af n cf := BoxAt.next HF.out hbr (Nat.le_refl _)
            exact (⟨he, ⟨HZ.out w' hbw, (FoAt.cells hf').1, (FoAt.cells hf').2.1⟩, Lib.hid hbw⟩ : e = .returned (.tuple #[.pointer none, .int .i64 1]) ∧ (w'.cell? (ad.add k) = some (.int .i64 z) ∧ w'.cell? ⟨w.heap.size, 0, none⟩ = some (.int .i64 f0) ∧ w'.cell? ⟨w.heap.size, 1, none⟩ = some (.slice Af n cf)) ∧ Hid (Below w.heap.size w w'))))
          have HBAD : Hid (¬ Tag z ∨ (1152921504606846976 < b ∨ b < -1152921504606846976)) := Lib.hid (by
            by_cases ht : Tag z
            · refine .inr ?_
              by_cases h1 : 1152921504606846976 < b
              · exact .inl h1
              · by_cases h2 : b < -1152921504606846976
                · exact .inr h2
                · exact absurd ⟨ht, HG.out, by omega, by omega⟩ hg2
            · exact .inl ht)
          clear KS hg2 HB HF HT
          go_region_held3 (fun w' => w'.cell? (ad.add k) = some (.int .i64 z) ∧ w'.cell? ⟨w.heap.size, 0, none⟩ = some (.int .i64 f0) ∧ w'.cell? ⟨w.heap.size, 1, none⟩ = some (.slice Af n cf)) (first | exact HS0.out | exact HS1.out | go_keep)
            (first
              | (go_at_call 10; refine KS1.out.mono ?_; rintro e w4 ⟨rfl, hS, HB4⟩; have HS1 := Lib.hid hS; clear hS))
          have y4 := HS1.out.1
          have KG := Lib.hid (pgood_k z w4)
          clear HS0 HS1 KS1
          go_wp2_with fail
          refine KG.out.mono ?_
          rintro e w5 ⟨rfl, rfl⟩
          rcases HBAD.out with hb | hb | hb
          · rw [decide_eq_false hb]
            clear KG
            go_wp2_with fail
            go_ret
            exact ⟨rfl, HB4.out⟩
          · generalize decide (Tag z) = g at *
            clear KG
            cases g
            all_goals
              go_wp2_with fail
              go_ret
              exact ⟨rfl, HB4.out⟩
          · generalize decide (Tag z) = g at *
            clear KG
            cases g
            all_goals
              go_wp2_with fail
              go_ret
              exact ⟨rfl, HB4.out⟩
      · have hlt2' : decide ((k : Int) < (m2 : Int)) = false := by simp; omega
        go_wp2_with fail
        by_cases hg2 : Tag z ∧ SdOk (0 : Int) f0 l
        · have KS1 := Lib.hid ((KS.out (0 : Int)).mono (fun e w' (h : SeedP z (0 : Int) f0 l wr.drew e w') => by
            unfold SeedP at h
            rw [if_pos hg2] at h
            obtain ⟨p, A, st, he, hq, s1, s2, hn, hb⟩ := h
            have hbd : Below w.heap.size w wr.drew := HB.out.trans ((Below.refl _ wr).drew.mono HB.out.size)
            have hbw : Below w.heap.size w w' := hbd.trans (hb.mono hbd.size)
            have hbr : Below wr.heap.size wr w' := (Below.refl _ wr).drew.trans hb
            have hf' : FoAt w' w.heap.size f0 Af n cf := BoxAt.next HF.out hbr (Nat.le_refl _)
            exact (⟨p, he, ⟨HZ.out w' hbw, (FoAt.cells hf').1, (FoAt.cells hf').2.1⟩, Lib.hid ⟨seed_in hbd (fun _ h => h.elim) hq s1 s2 hn hb, hf', HT.out.below hbr (Nat.le_refl _)⟩⟩ : ∃ p, e = .returned (.tuple #[.pointer (some ⟨p, 0, none⟩), .int .i64 0]) ∧ (w'.cell? (ad.add k) = some (.int .i64 z) ∧ w'.cell? ⟨w.heap.size, 0, none⟩ = some (.int .i64 f0) ∧ w'.cell? ⟨w.heap.size, 1, none⟩ = some (.slice Af n cf)) ∧ Hid (SIn z w w' p (0 : Int) f0 (seedU (0 : Int) l) 4000 (fun _ => False) ∧ FoAt w' w.heap.size f0 Af n cf ∧ TRow w' Af l))))
          clear KS hg2 HB HF HT
          go_region_held3 (fun w' => w'.cell? (ad.add k) = some (.int .i64 z) ∧ w'.cell? ⟨w.heap.size, 0, none⟩ = some (.int .i64 f0) ∧ w'.cell? ⟨w.heap.size, 1, none⟩ = some (.slice Af n cf)) (first | exact HS0.out | exact HS1.out | go_keep)
            (first
              | (go_at_call 10; refine KS1.out.mono ?_; rintro e w4 ⟨p, rfl, hS, HQ4⟩; have HS1 := Lib.hid hS; clear hS))
          have HZ0 := Lib.hid HS1.out.2
          have KF := Lib.hid ((sform_in (HQ4.out.1.below (Below.refl _ w4).drew)).mono (fun e w' (h : ∃ A c, e = .returned (.agg #[.int .i64 f0, .slice A (seedU (0 : Int) l).length c]) ∧ TRow w' A (formU (0 : Int) (seedU (0 : Int) l)) ∧ Below w4.drew.heap.size w4.drew w') => by
            obtain ⟨A8, c8, he, hT8, hb8⟩ := h
            rw [formU_seed] at hT8
            rw [seedU_length, HN.out.1] at he
            have hb48 : Below w4.heap.size w4 w' := (Below.refl _ w4).drew.trans hb8
            have hf8 : FoAt w' w.heap.size f0 Af n cf := BoxAt.next HQ4.out.2.1 hb48 (Nat.le_refl _)
            have K := same_c f0 f0 A8 Af n c8 n cf l l w' HN.out.1 HN.out.1 (by have := HL.out; omega) hT8 (HQ4.out.2.2.below hb48 (Nat.le_refl _))
            have es : sameB f0 f0 l l = true := by unfold sameB; simp
            rw [es] at K
            have K' := K.mono (fun e2 w2' (h2 : Ret10 (.bool true) w' e2 w2') => by
              obtain ⟨he2, hb9⟩ := h2
              have hf9 : FoAt w2' w.heap.size f0 Af n cf := BoxAt.next hf8 hb9 (Nat.le_refl _)
              exact (⟨he2, ⟨(FoAt.cells hf9).1, (FoAt.cells hf9).2.1⟩, Lib.hid ⟨HQ4.out.1.below (hb48.trans (hb9.mono hb48.size)), hf9⟩⟩ : e2 = .returned (.bool true) ∧ (w2'.cell? ⟨w.heap.size, 0, none⟩ = some (.int .i64 f0) ∧ w2'.cell? ⟨w.heap.size, 1, none⟩ = some (.slice Af n cf)) ∧ Hid (SIn z w w2' p (0 : Int) f0 (seedU (0 : Int) l) 4000 (fun _ => False) ∧ FoAt w2' w.heap.size f0 Af n cf)))
            exact (⟨A8, c8, he, ⟨(FoAt.cells hf8).1, (FoAt.cells hf8).2.1⟩, Lib.hid K'⟩ : ∃ A8 c8, e = .returned (.agg #[.int .i64 f0, .slice A8 n c8]) ∧ (w'.cell? ⟨w.heap.size, 0, none⟩ = some (.int .i64 f0) ∧ w'.cell? ⟨w.heap.size, 1, none⟩ = some (.slice Af n cf)) ∧ Hid (Calls Tryz.prog 35 #[.agg #[.int .i64 f0, .slice A8 n c8], .agg #[.int .i64 f0, .slice Af n cf]] w' fun e2 w2' => e2 = .returned (.bool true) ∧ (w2'.cell? ⟨w.heap.size, 0, none⟩ = some (.int .i64 f0) ∧ w2'.cell? ⟨w.heap.size, 1, none⟩ = some (.slice Af n cf)) ∧ Hid (SIn z w w2' p (0 : Int) f0 (seedU (0 : Int) l) 4000 (fun _ => False) ∧ FoAt w2' w.heap.size f0 Af n cf)))))
          clear HS0 HS1 KS1 HQ4
          go_wp2_with fail
          go_region_held3 (fun w' => w'.cell? ⟨w.heap.size, 0, none⟩ = some (.int .i64 f0) ∧ w'.cell? ⟨w.heap.size, 1, none⟩ = some (.slice Af n cf)) (first | exact HZ0.out | exact HZ1.out | exact HZ2.out | go_keep)
            (first
              | (go_at_call 31; refine KF.out.mono ?_; rintro e w8 ⟨A8, c8, rfl, hS, KE⟩; have HZ1 := Lib.hid hS; clear hS)
              | (go_at_call 35; refine KE.out.mono ?_; rintro e w9 ⟨rfl, hS, HQ9⟩; have HZ2 := Lib.hid hS; clear hS))
          have KF2 := Lib.hid ((sform_in HQ9.out.1).mono (fun e w' (h : ∃ A c, e = .returned (.agg #[.int .i64 f0, .slice A (seedU (0 : Int) l).length c]) ∧ TRow w' A (formU (0 : Int) (seedU (0 : Int) l)) ∧ Below w9.heap.size w9 w') => by
            obtain ⟨A8, c8, he, hT8, hb8⟩ := h
            rw [formU_seed] at hT8
            rw [seedU_length, HN.out.1] at he
            exact (⟨A8, c8, he, hT8, (BoxAt.next HQ9.out.2 hb8 (Nat.le_refl _)), HQ9.out.1.frame.trans (hb8.mono HQ9.out.1.frame.size)⟩ : ∃ A8 c8, e = .returned (.agg #[.int .i64 f0, .slice A8 n c8]) ∧ TRow w' A8 l ∧ FoAt w' w.heap.size f0 Af n cf ∧ Below w.heap.size w w')))
          clear HZ0 HZ1 HZ2 KF KE HQ9
          go_wp2_with fail
          refine KF2.out.mono ?_
          rintro e w10 ⟨A10, c10, rfl, hT10, hf10, hb10⟩
          obtain ⟨t0, t1, t2, t3⟩ := two_cells hf10 (.int .i64 f0)
          have HE : Hid (TuAt w f0 l n (set2 w10 w.heap.size (.int .i64 f0) (.slice A10 n c10))) := Lib.hid ⟨A10, c10, set2_same _ _ hf10, trow_set2 hf10 hT10 _ _, below_set2 _ _ hb10 (Nat.le_refl _)⟩
          clear hT10 hf10 hb10 KF2
          go_wp2_with fail
          go_roundw
          case rel => exact ⟨k + 1, by go_num, by omega, HE⟩
          case measure => simp [intOf]; omega
        · have KS1 := Lib.hid ((KS.out (0 : Int)).mono (fun e w' (h : SeedP z (0 : Int) f0 l wr.drew e w') => by
            unfold SeedP at h
            rw [if_neg hg2] at h
            obtain ⟨he, hb⟩ := h
            have hbd : Below w.heap.size w wr.drew := HB.out.trans ((Below.refl _ wr).drew.mono HB.out.size)
            have hbw : Below w.heap.size w w' := hbd.trans (hb.mono hbd.size)
            have hbr : Below wr.heap.size wr w' := (Below.refl _ wr).drew.trans hb
            have hf' : FoAt w' w.heap.size f0 Af n cf := BoxAt.next HF.out hbr (Nat.le_refl _)
            exact (⟨he, ⟨HZ.out w' hbw, (FoAt.cells hf').1, (FoAt.cells hf').2.1⟩, Lib.hid hbw⟩ : e = .returned (.tuple #[.pointer none, .int .i64 1]) ∧ (w'.cell? (ad.add k) = some (.int .i64 z) ∧ w'.cell? ⟨w.heap.size, 0, none⟩ = some (.int .i64 f0) ∧ w'.cell? ⟨w.heap.size, 1, none⟩ = some (.slice Af n cf)) ∧ Hid (Below w.heap.size w w'))))
          have HBAD : Hid (¬ Tag z ∨ (1152921504606846976 < (0 : Int) ∨ (0 : Int) < -1152921504606846976)) := Lib.hid (by
            by_cases ht : Tag z
            · refine .inr ?_
              by_cases h1 : 1152921504606846976 < (0 : Int)
              · exact .inl h1
              · by_cases h2 : (0 : Int) < -1152921504606846976
                · exact .inr h2
                · exact absurd ⟨ht, HG.out, by omega, by omega⟩ hg2
            · exact .inl ht)
          clear KS hg2 HB HF HT
          go_region_held3 (fun w' => w'.cell? (ad.add k) = some (.int .i64 z) ∧ w'.cell? ⟨w.heap.size, 0, none⟩ = some (.int .i64 f0) ∧ w'.cell? ⟨w.heap.size, 1, none⟩ = some (.slice Af n cf)) (first | exact HS0.out | exact HS1.out | go_keep)
            (first
              | (go_at_call 10; refine KS1.out.mono ?_; rintro e w4 ⟨rfl, hS, HB4⟩; have HS1 := Lib.hid hS; clear hS))
          have y4 := HS1.out.1
          have KG := Lib.hid (pgood_k z w4)
          clear HS0 HS1 KS1
          go_wp2_with fail
          refine KG.out.mono ?_
          rintro e w5 ⟨rfl, rfl⟩
          rcases HBAD.out with hb | hb | hb
          · rw [decide_eq_false hb]
            clear KG
            go_wp2_with fail
            go_ret
            exact ⟨rfl, HB4.out⟩
          · exact absurd hb (by decide)
          · exact absurd hb (by decide)
    · have HB : Hid (Below w.heap.size w wr) := Lib.hid (by obtain ⟨_, _, _, _, hb⟩ := HQ.out; exact hb)
      have hlt' : decide ((k : Int) < (m1 : Int)) = false := by simp; omega
      clear HQ
      go_wp2_with fail
      go_ret
      exact ⟨rfl, HB.out⟩
end Go.Proofs.YtancneebbellnaaGreatDoor.Po
