/- FairApart. -/
import Derived.Test.YtnfcapeajhegmaaFo
import Derived.Test.YtnfcapeajhegmaaLFg
import Derived.Test.YtnfcapeajhegmaaYh
namespace Go.Proofs.Ytnfcapeajhegmaa
open Go.RowKit Go.Maps

set_option maxRecDepth 100000 in
set_option maxHeartbeats 16000000 in
theorem sapart_c (f0 a b : Int) (A A1 : Option Addr) (c c1 : Nat) (l : List RI) (acts : List (List Int)) (w : World) (hr : TRow w A l) (hr1 : Rows w 4 A1 acts) :
    Calls Try.prog 8 #[.agg #[.int .i64 f0, .slice A l.length c], .int .i64 a, .int .i64 b, .slice A1 acts.length c1] w fun e w' => e = .returned (.bool true) ∧ Below w.heap.size w w' := by
  have hb1 := (Below.refl _ w).alloc (Nat.le_refl _) (.cells #[.int .i64 f0, .slice A l.length c] 37)
  have hf1 : FoAt (w.alloc (.cells #[.int .i64 f0, .slice A l.length c] 37)) w.heap.size f0 A l.length c := heap_alloc_new w _
  obtain ⟨w1, hw1⟩ : ∃ w1, w.alloc (.cells #[.int .i64 f0, .slice A l.length c] 37) = w1 := ⟨_, rfl⟩
  have hs1 : w1.heap.size = w.heap.size + 1 := by rw [← hw1]; simp
  rw [hw1] at hb1 hf1
  have KA := Lib.hid (awake12_c w1)
  obtain ⟨n, hn⟩ : ∃ n, l.length = n := ⟨_, rfl⟩
  obtain ⟨t, ht⟩ : ∃ t, acts.length = t := ⟨_, rfl⟩
  rw [hn] at hf1 hw1 ⊢
  rw [ht]
  have KS : Hid (∀ W z, n ≤ 64 → Below w.heap.size w W → Calls Try.prog 29 #[.agg #[.int .i64 f0, .slice A n c], .int .i64 z] W (SeedPost z f0 l W)) := Lib.hid (fun W z h64 hb => by rw [← hn]; exact sseed_c f0 z A _ c l W rfl (by omega) (hr.below hb (Nat.le_refl _)))
  have KG : Hid (∀ W, n ≤ 64 → Below w.heap.size w W → Calls Try.prog 15 #[.agg #[.int .i64 f0, .slice A n c]] W (Ret10 (.bool (goodV f0 l)) W)) := Lib.hid (fun W h64 hb => by rw [← hn]; exact good_c f0 A _ c l W rfl (by omega) (hr.below hb (Nat.le_refl _)))
  have HB1 := Lib.hid hb1
  have HF1 := Lib.hid hf1
  have HR1 := Lib.hid hr1
  have HN := Lib.hid (And.intro hn ht)
  clear hr hr1 hn ht hb1 hf1
  go_enter Try.func8, Try.ntmps8
  go_wp2_with fail
  refine KA.out.mono ?_
  rintro e w2 ⟨rfl, hb⟩
  have HB2 := Lib.hid (HB1.out.trans (hb.mono (by omega)))
  have hf2 : FoAt w2 w.heap.size f0 A n c := BoxAt.next HF1.out hb (Nat.le_refl _)
  have HF2 := Lib.hid hf2
  obtain ⟨d0, d1, -, -⟩ := FoAt.cells hf2
  clear hb KA hf2
  by_cases h64 : (64 : Int) < (n : Int)
  · go_wp2_with fail
    go_ret
    exact ⟨rfl, HB2.out⟩
  by_cases h100 : (100 : Int) < (t : Int)
  · go_wp2_with fail
    go_ret
    exact ⟨rfl, HB2.out⟩
  go_wp2_with fail
  refine (KG.out _ (by omega) HB2.out).mono ?_
  rintro e w3 ⟨rfl, hb⟩
  have HB3 := Lib.hid (HB2.out.trans (hb.mono HB2.out.size))
  have hf3 : FoAt w3 w.heap.size f0 A n c := BoxAt.next HF2.out hb (Nat.le_refl _)
  have HF3 := Lib.hid hf3
  obtain ⟨d0, d1, -, -⟩ := FoAt.cells hf3
  clear hb KG hf3
  cases hgv : goodV f0 l with
  | false =>
    clear KS
    go_wp2_with fail
    go_ret
    exact ⟨rfl, HB3.out⟩
  | true =>
  go_wp2_with fail
  refine (KS.out _ a (by omega) HB3.out).mono ?_
  rintro e w4 hP1
  have hb4 : Below w.heap.size w w4 := by
    unfold SeedPost at hP1
    split at hP1
    · obtain ⟨s, Ab, st, _, _, _, _, _, hb⟩ := hP1
      exact HB3.out.trans (hb.mono HB3.out.size)
    · exact HB3.out.trans (hP1.2.mono HB3.out.size)
  have hb34 : Below w3.heap.size w3 w4 := by
    unfold SeedPost at hP1
    split at hP1
    · obtain ⟨s, Ab, st, _, _, _, _, _, hb⟩ := hP1
      exact hb
    · exact hP1.2
  have HB4 := Lib.hid hb4
  have hf4 : FoAt w4 w.heap.size f0 A n c := BoxAt.next HF3.out hb34 (Nat.le_refl _)
  obtain ⟨d0, d1, -, -⟩ := FoAt.cells hf4
  clear hb4 hb34 hf4
  unfold SeedPost at hP1
  split at hP1
  · rename_i ha
    obtain ⟨s1, A1, t1, rfl, hq1, h10, h11, hnw1, hbs1⟩ := hP1
    have HQ1 := Lib.hid (And.intro hq1 (And.intro h10 (And.intro h11 (And.intro hnw1 hbs1))))
    clear hq1 h10 h11 hnw1 hbs1
    go_wp2_with fail
    refine (KS.out _ b (by omega) HB4.out).mono ?_
    rintro e w5 hP2
    unfold SeedPost at hP2
    split at hP2
    · rename_i hbr
      obtain ⟨s2, A2, t2, rfl, hq2, h20, h21, hnw2, hbs2⟩ := hP2
      have HS : Hid (ApF w w5 s1 s2 (b - a) 0 a f0 (seedR a l) (fun _ => False)) := by
        obtain ⟨hq1, h10, h11, hnw1, hbs1⟩ := HQ1.out
        have e1 : a + (b - a) = b := by omega
        have hsz3 := HB3.out.size
        have hsz4 := HB4.out.size
        refine Lib.hid ⟨⟨A1, t1, A2, t2, hq1.below hbs2, by rw [e1, ← sh_seed]; exact hq2, ⟨h10, by omega, h20, by omega⟩, fun k hk => by have := hnw1 k hk; omega, fun k hk => by have := hnw2 k hk; omega, fun k hk hk' => by have := hq1.lt k hk; have := hnw2 k hk'; omega, HB4.out.trans (hbs2.mono hsz4), fun k hk => hk.elim⟩, seed_up hgv ha.2.1 ha.2.2, ?_, by omega⟩
        rw [e1, ← sh_seed]
        exact seed_up hgv hbr.2.1 hbr.2.2
      clear hq2 h20 h21 hnw2 hbs2 HQ1 ha hbr hgv KS HF1 HF2 HF3
      generalize seedR a l = R0 at *
      generalize b - a = d at *
      go_wp2_with fail
      go_loopw [13] (fun i wr => ∃ (k : Nat) (base cur : Int) (R : List RI), i = .int .i64 k ∧ k ≤ t ∧ Hid (ApF w wr s1 s2 d k base cur R (fun _ => False))) (fun i _ => t - (intOf i).toNat)
      case atStart => exact ⟨0, a, f0, R0, rfl, by omega, HS⟩
      case round =>
        obtain ⟨k, base, cur, R, rfl, hk, HQ⟩ := hrel
        clear HS
        by_cases hlt : k < t
        · have hlt' : (k : Int) < (t : Int) := by omega
          obtain ⟨hq, hu1, hu2, hk2⟩ := HQ.out
          obtain ⟨ad, o, i, m, g, rfl, ⟨a0, a1, a2, a3⟩, hwi, hwm⟩ := act_at HR1.out (by rw [HN.out.2]; exact hlt) hq.frame
          have hb2 : Below wr.heap.size wr (wr.alloc (.cells #[.int .i64 o, .int .i64 i, .int .i64 m, .int .i64 g] 62)) := (Below.refl _ wr).alloc (Nat.le_refl _) _
          obtain ⟨w6, hw6⟩ : ∃ w6, wr.alloc (.cells #[.int .i64 o, .int .i64 i, .int .i64 m, .int .i64 g] 62) = w6 := ⟨_, rfl⟩
          have hbx : ActAt w6 wr.heap.size o i m g := by rw [← hw6]; exact heap_alloc_new wr _
          have hsz6 : w6.heap.size = wr.heap.size + 1 := by rw [← hw6]; simp
          rw [hw6] at hb2
          obtain ⟨x0, x1, x2, x3⟩ := hbx.cells
          have HX : Hid (∀ W' : World, W'.heap[wr.heap.size]? = w6.heap[wr.heap.size]? → W'.cell? ⟨wr.heap.size, 1, none⟩ = some (.int .i64 i) ∧ W'.cell? ⟨wr.heap.size, 2, none⟩ = some (.int .i64 m) ∧ W'.cell? ⟨wr.heap.size, 3, none⟩ = some (.int .i64 g)) := Lib.hid (fun W' h => (ActAt.cells (h.trans hbx)).2)
          have HQ6 : Hid (ApF w w6 s1 s2 d k base cur R (fun j => j = wr.heap.size)) := Lib.hid ⟨hq.more hb2 (fun j hj => .inr (by omega)), hu1, hu2, hk2⟩
          have HI := Lib.hid (And.intro hwi hwm)
          have hk100 : k ≤ 100 := by omega
          clear hq hu1 hu2 hk2 hwi hwm hb2 hbx HQ hsz6
          have TAIL : Hid (∀ (w7 : World) (b' c' : Int) (R' : List RI), Hid (ApF w w7 s1 s2 d (k + 1) b' c' R' (fun j => j = wr.heap.size)) → Calls Try.prog 36 #[.pointer (some ⟨s1, 0, none⟩)] w7 fun e w8 => ∃ A c, e = .returned (.agg #[.int .i64 c', .slice A R'.length c]) ∧ Hid (Calls Try.prog 36 #[.pointer (some ⟨s2, 0, none⟩)] w8 fun e w9 => ∃ A2 c2, e = .returned (.agg #[.int .i64 c', .slice A2 R'.length c2]) ∧ Hid (Calls Try.prog 23 #[.agg #[.int .i64 c', .slice A R'.length c], .agg #[.int .i64 c', .slice A2 R'.length c2]] w9 fun e w10 => e = .returned (.bool true) ∧ Hid (ApF w w10 s1 s2 d (k + 1) b' c' R' (fun _ => False))))) := Lib.hid (fun w7 b' c' R' h => by
            obtain ⟨hq, hu1, hu2, hk2⟩ := h.out
            refine (s2_form hq).mono ?_
            rintro e w8 ⟨A, c, rfl, hT1, hq8, hb8⟩
            refine ⟨A, c, rfl, Lib.hid ((s2_form hq8.swap).mono ?_)⟩
            rintro e w9 ⟨A2, c2, rfl, hT2, hq9, hb9⟩
            rw [sh_form] at hT2
            rw [sh_len]
            have hl64 := hq8.wf.len
            have K := same_c c' c' A A2 R'.length c R'.length c2 (formL b' R') (formL b' R') w9 (formL_length _ _) (formL_length _ _) (by omega) (hT1.below hb9 (Nat.le_refl _)) hT2
            have es : sameB c' c' (formL b' R') (formL b' R') = true := by unfold sameB; simp
            rw [es] at K
            refine ⟨A2, c2, rfl, Lib.hid (K.mono ?_)⟩
            rintro e w10 ⟨rfl, hb10⟩
            exact ⟨rfl, Lib.hid ⟨hq9.swap.more hb10 (fun j hj => hj.elim), hu1, hu2, hk2⟩⟩)
          by_cases ho0 : o = 0
          · subst ho0
            have HS0 := Lib.hid (And.intro x1 (And.intro x2 x3))
            have HQD : Hid (ApF w w6.drew s1 s2 d k base cur R (fun j => j = wr.heap.size)) := Lib.hid ⟨HQ6.out.1.below (Below.refl _ w6).drew, HQ6.out.2⟩
            have K1 := Lib.hid ((ap_enter1 (i, m, g) HQD.out).mono (fun e w' ⟨he, hq, hF⟩ => And.intro he (And.intro (Lib.hid hq) (And.intro (hF _ rfl) (HX.out w' (hF _ rfl))))))
            have K2 := Lib.hid (fun (w7 : World) (h7 : Half w w7 s1 s2 d k (enterM base R (i, m, g)).2.1 cur (enterM base R (i, m, g)).2.2 base cur R (fun j => j = wr.heap.size)) (h8 : w7.heap[wr.heap.size]? = w6.drew.heap[wr.heap.size]?) => (ap_enter2 (w := w7) (i, m, g) h7 (by omega)).mono (fun e w' ⟨he, hq, hF⟩ => And.intro he (And.intro (Lib.hid hq) (HX.out w' ((hF _ rfl).trans h8)))))
            generalize (enterM base R (i, m, g)).1 = r1 at *
            generalize (enterM base R (i, m, g)).2.1 = base1 at *
            generalize (enterM base R (i, m, g)).2.2 = R1 at *
            go_wp2_with fail
            go_region_held3 (fun w' => w'.cell? ⟨wr.heap.size, 1, none⟩ = some (.int .i64 i) ∧ w'.cell? ⟨wr.heap.size, 2, none⟩ = some (.int .i64 m) ∧ w'.cell? ⟨wr.heap.size, 3, none⟩ = some (.int .i64 g)) (first | exact HS0.out | exact HS1.out | exact HS2.out | go_keep)
              (first
                | (go_at_call 30; with_reducible refine K1.out.mono ?_; rintro e w7 ⟨rfl, HH, h8, hS⟩; have HS1 := Lib.hid hS; have H8 := Lib.hid h8; clear hS h8)
                | (go_at_call 30; with_reducible refine (K2.out _ HH.out H8.out).mono ?_; rintro e w8 ⟨rfl, HD, hS⟩; have HS2 := Lib.hid hS; clear hS))
            clear HS0 HS1 HS2 K1 K2 HH H8 HQD
            go_wp2_with fail
            refine (TAIL.out _ _ _ _ HD).mono ?_
            rintro e w8 ⟨A8, c8, rfl, HT⟩
            clear HD TAIL HI HQ6 HX
            go_wp2_with fail
            refine HT.out.mono ?_
            rintro e w9 ⟨A9, c9, rfl, HT⟩
            go_wp2_with fail
            refine HT.out.mono ?_
            rintro e w10 ⟨rfl, HE⟩
            clear HT
            go_wp2_with fail
            go_roundw
            case rel => exact ⟨k + 1, _, _, _, by go_num, by omega, HE⟩
            case measure => simp [intOf]; omega
          by_cases ho1 : o = 1
          · subst ho1
            have HS0 := Lib.hid (And.intro x1 (And.intro x2 x3))
            have HQD : Hid (ApF w w6.drew s1 s2 d k base cur R (fun j => j = wr.heap.size)) := Lib.hid ⟨HQ6.out.1.below (Below.refl _ w6).drew, HQ6.out.2⟩
            have K1 := Lib.hid ((ap_put1 (i, m, g) HQD.out).mono (fun e w' ⟨he, hq, hF⟩ => And.intro he (And.intro (Lib.hid hq) (And.intro (hF _ rfl) (HX.out w' (hF _ rfl))))))
            have K2 := Lib.hid (fun (w7 : World) (h7 : Half w w7 s1 s2 d k (putM base R (i, m, g)).2.1 cur (putM base R (i, m, g)).2.2 base cur R (fun j => j = wr.heap.size)) (h8 : w7.heap[wr.heap.size]? = w6.drew.heap[wr.heap.size]?) => (ap_put2 (w := w7) (i, m, g) h7 (by omega)).mono (fun e w' ⟨he, hq, hF⟩ => And.intro he (And.intro (Lib.hid hq) (HX.out w' ((hF _ rfl).trans h8)))))
            generalize (putM base R (i, m, g)).1 = r1 at *
            generalize (putM base R (i, m, g)).2.1 = base1 at *
            generalize (putM base R (i, m, g)).2.2 = R1 at *
            go_wp2_with fail
            go_region_held3 (fun w' => w'.cell? ⟨wr.heap.size, 1, none⟩ = some (.int .i64 i) ∧ w'.cell? ⟨wr.heap.size, 2, none⟩ = some (.int .i64 m) ∧ w'.cell? ⟨wr.heap.size, 3, none⟩ = some (.int .i64 g)) (first | exact HS0.out | exact HS1.out | exact HS2.out | go_keep)
              (first
                | (go_at_call 31; with_reducible refine K1.out.mono ?_; rintro e w7 ⟨rfl, HH, h8, hS⟩; have HS1 := Lib.hid hS; have H8 := Lib.hid h8; clear hS h8)
                | (go_at_call 31; with_reducible refine (K2.out _ HH.out H8.out).mono ?_; rintro e w8 ⟨rfl, HD, hS⟩; have HS2 := Lib.hid hS; clear hS))
            clear HS0 HS1 HS2 K1 K2 HH H8 HQD
            go_wp2_with fail
            refine (TAIL.out _ _ _ _ HD).mono ?_
            rintro e w8 ⟨A8, c8, rfl, HT⟩
            clear HD TAIL HI HQ6 HX
            go_wp2_with fail
            refine HT.out.mono ?_
            rintro e w9 ⟨A9, c9, rfl, HT⟩
            go_wp2_with fail
            refine HT.out.mono ?_
            rintro e w10 ⟨rfl, HE⟩
            clear HT
            go_wp2_with fail
            go_roundw
            case rel => exact ⟨k + 1, _, _, _, by go_num, by omega, HE⟩
            case measure => simp [intOf]; omega
          by_cases ho2 : o = 2
          · subst ho2
            have K1 := Lib.hid ((ap_leave1 i HI.out.1 HQ6.out).mono (fun e w' ⟨he, hq, hF⟩ => And.intro he (And.intro (Lib.hid hq) (And.intro (hF _ rfl) (HX.out w' (hF _ rfl))))))
            have K2 := Lib.hid (fun (w7 : World) (h7 : Half w w7 s1 s2 d k (leaveM base cur R i).2.2.1 (leaveM base cur R i).2.2.2.1 (leaveM base cur R i).2.2.2.2 base cur R (fun j => j = wr.heap.size)) => (ap_leave2 (w := w7) i HI.out.1 h7 (by omega)).mono (fun e w' ⟨he, hq, hF⟩ => And.intro he (Lib.hid hq)))
            generalize (leaveM base cur R i).1 = r1 at *
            generalize (leaveM base cur R i).2.1 = r2 at *
            generalize (leaveM base cur R i).2.2.1 = base1 at *
            generalize (leaveM base cur R i).2.2.2.1 = cur1 at *
            generalize (leaveM base cur R i).2.2.2.2 = R1 at *
            go_wp2_with fail
            refine K1.out.mono ?_
            rintro e w7 ⟨rfl, HH, -, y1, y2, y3⟩
            go_wp2_with fail
            refine (K2.out _ HH.out).mono ?_
            rintro e w8 ⟨rfl, HD⟩
            clear K1 K2 HH y1 y2 y3
            go_wp2_with fail
            refine (TAIL.out _ _ _ _ HD).mono ?_
            rintro e w8 ⟨A8, c8, rfl, HT⟩
            clear HD TAIL HI HQ6 HX
            go_wp2_with fail
            refine HT.out.mono ?_
            rintro e w9 ⟨A9, c9, rfl, HT⟩
            go_wp2_with fail
            refine HT.out.mono ?_
            rintro e w10 ⟨rfl, HE⟩
            clear HT
            go_wp2_with fail
            go_roundw
            case rel => exact ⟨k + 1, _, _, _, by go_num, by omega, HE⟩
            case measure => simp [intOf]; omega
          by_cases ho3 : o = 3
          · subst ho3
            have HS0 := Lib.hid (And.intro x1 (And.intro x2 x3))
            have HQD : Hid (ApF w w6.drew s1 s2 d k base cur R (fun j => j = wr.heap.size)) := Lib.hid ⟨HQ6.out.1.below (Below.refl _ w6).drew, HQ6.out.2⟩
            have K1 := Lib.hid ((ap_weigh1 i m HI.out.1 HI.out.2 HQD.out).mono (fun e w' ⟨he, hq, hF⟩ => And.intro he (And.intro (Lib.hid hq) (And.intro (hF _ rfl) (HX.out w' (hF _ rfl))))))
            have K2 := Lib.hid (fun (w7 : World) (h7 : Half w w7 s1 s2 d k base cur (weighM R i m).2 base cur R (fun j => j = wr.heap.size)) (h8 : w7.heap[wr.heap.size]? = w6.drew.heap[wr.heap.size]?) => (ap_weigh2 (w := w7) i m HI.out.1 HI.out.2 h7 (by omega)).mono (fun e w' ⟨he, hq, hF⟩ => And.intro he (And.intro (Lib.hid hq) (HX.out w' ((hF _ rfl).trans h8)))))
            generalize (weighM R i m).1 = r1 at *
            generalize (weighM R i m).2 = R1 at *
            go_wp2_with fail
            go_region_held3 (fun w' => w'.cell? ⟨wr.heap.size, 1, none⟩ = some (.int .i64 i) ∧ w'.cell? ⟨wr.heap.size, 2, none⟩ = some (.int .i64 m) ∧ w'.cell? ⟨wr.heap.size, 3, none⟩ = some (.int .i64 g)) (first | exact HS0.out | exact HS1.out | exact HS2.out | go_keep)
              (first
                | (go_at_call 33; with_reducible refine K1.out.mono ?_; rintro e w7 ⟨rfl, HH, h8, hS⟩; have HS1 := Lib.hid hS; have H8 := Lib.hid h8; clear hS h8)
                | (go_at_call 33; with_reducible refine (K2.out _ HH.out H8.out).mono ?_; rintro e w8 ⟨rfl, HD, hS⟩; have HS2 := Lib.hid hS; clear hS))
            clear HS0 HS1 HS2 K1 K2 HH H8 HQD
            go_wp2_with fail
            refine (TAIL.out _ _ _ _ HD).mono ?_
            rintro e w8 ⟨A8, c8, rfl, HT⟩
            clear HD TAIL HI HQ6 HX
            go_wp2_with fail
            refine HT.out.mono ?_
            rintro e w9 ⟨A9, c9, rfl, HT⟩
            go_wp2_with fail
            refine HT.out.mono ?_
            rintro e w10 ⟨rfl, HE⟩
            clear HT
            go_wp2_with fail
            go_roundw
            case rel => exact ⟨k + 1, _, _, _, by go_num, by omega, HE⟩
            case measure => simp [intOf]; omega
          by_cases ho4 : o = 4
          · subst ho4
            have K1 := Lib.hid ((ap_pick1  HQ6.out).mono (fun e w' ⟨he, hq, hF⟩ => And.intro he (And.intro (Lib.hid hq) (And.intro (hF _ rfl) (HX.out w' (hF _ rfl))))))
            have K2 := Lib.hid (fun (w7 : World) (h7 : Half w w7 s1 s2 d k base (pickC cur R) R base cur R (fun j => j = wr.heap.size)) => (ap_pick2 (w := w7)  h7 (by omega)).mono (fun e w' ⟨he, hq, hF⟩ => And.intro he (Lib.hid hq)))
            generalize pickV cur R = r1 at *
            generalize pickB R = r2 at *
            generalize pickC cur R = cur1 at *
            go_wp2_with fail
            refine K1.out.mono ?_
            rintro e w7 ⟨rfl, HH, -, y1, y2, y3⟩
            go_wp2_with fail
            refine (K2.out _ HH.out).mono ?_
            rintro e w8 ⟨rfl, HD⟩
            clear K1 K2 HH y1 y2 y3
            go_wp2_with fail
            refine (TAIL.out _ _ _ _ HD).mono ?_
            rintro e w8 ⟨A8, c8, rfl, HT⟩
            clear HD TAIL HI HQ6 HX
            go_wp2_with fail
            refine HT.out.mono ?_
            rintro e w9 ⟨A9, c9, rfl, HT⟩
            go_wp2_with fail
            refine HT.out.mono ?_
            rintro e w10 ⟨rfl, HE⟩
            clear HT
            go_wp2_with fail
            go_roundw
            case rel => exact ⟨k + 1, _, _, _, by go_num, by omega, HE⟩
            case measure => simp [intOf]; omega
          · have e0 : (o == 0) = false := by simp [ho0]
            have e1 : (o == 1) = false := by simp [ho1]
            have e2 : (o == 2) = false := by simp [ho2]
            have e3 : (o == 3) = false := by simp [ho3]
            have e4 : (o == 4) = false := by simp [ho4]
            clear ho0 ho1 ho2 ho3 ho4
            have K1 := Lib.hid ((ap_charge1  HQ6.out).mono (fun e w' ⟨he, hq, hF⟩ => And.intro he (And.intro (Lib.hid hq) (And.intro (hF _ rfl) (HX.out w' (hF _ rfl))))))
            have K2 := Lib.hid (fun (w7 : World) (h7 : Half w w7 s1 s2 d k (chargeM base cur R).2.2.1 cur (chargeM base cur R).2.2.2 base cur R (fun j => j = wr.heap.size)) => (ap_charge2 (w := w7)  h7 (by omega)).mono (fun e w' ⟨he, hq, hF⟩ => And.intro he (Lib.hid hq)))
            generalize (chargeM base cur R).1 = r1 at *
            generalize (chargeM base cur R).2.1 = r2 at *
            generalize (chargeM base cur R).2.2.1 = base1 at *
            generalize (chargeM base cur R).2.2.2 = R1 at *
            go_wp2_with fail
            refine K1.out.mono ?_
            rintro e w7 ⟨rfl, HH, -, y1, y2, y3⟩
            go_wp2_with fail
            refine (K2.out _ HH.out).mono ?_
            rintro e w8 ⟨rfl, HD⟩
            clear K1 K2 HH y1 y2 y3
            go_wp2_with fail
            refine (TAIL.out _ _ _ _ HD).mono ?_
            rintro e w8 ⟨A8, c8, rfl, HT⟩
            clear HD TAIL HI HQ6 HX
            go_wp2_with fail
            refine HT.out.mono ?_
            rintro e w9 ⟨A9, c9, rfl, HT⟩
            go_wp2_with fail
            refine HT.out.mono ?_
            rintro e w10 ⟨rfl, HE⟩
            clear HT
            go_wp2_with fail
            go_roundw
            case rel => exact ⟨k + 1, _, _, _, by go_num, by omega, HE⟩
            case measure => simp [intOf]; omega
        · have HB : Hid (Below w.heap.size w wr) := Lib.hid HQ.out.1.frame
          have hlt' : decide ((k : Int) < (t : Int)) = false := by simp; omega
          clear HQ
          go_wp2_with fail
          go_ret
          exact ⟨rfl, HB.out⟩
    · obtain ⟨rfl, hb⟩ := hP2
      have HB := Lib.hid (HB4.out.trans (hb.mono HB4.out.size))
      clear hb KS
      go_wp2_with fail
      go_ret
      exact ⟨rfl, HB.out⟩
  · obtain ⟨rfl, -⟩ := hP1
    go_wp2_with fail
    refine (KS.out _ b (by omega) HB4.out).mono ?_
    rintro e w5 hP2
    have HB5 : Hid (Below w.heap.size w w5) := by
      unfold SeedPost at hP2
      split at hP2
      · obtain ⟨s, Ab, st, _, _, _, _, _, hb⟩ := hP2
        exact Lib.hid (HB4.out.trans (hb.mono HB4.out.size))
      · exact Lib.hid (HB4.out.trans (hP2.2.mono HB4.out.size))
    unfold SeedPost at hP2
    split at hP2
    · obtain ⟨s, Ab, st, rfl, -⟩ := hP2
      clear KS
      go_wp2_with fail
      go_ret
      exact ⟨rfl, HB5.out⟩
    · obtain ⟨rfl, -⟩ := hP2
      clear KS
      go_wp2_with fail
      go_ret
      exact ⟨rfl, HB5.out⟩
end Go.Proofs.Ytnfcapeajhegmaa
