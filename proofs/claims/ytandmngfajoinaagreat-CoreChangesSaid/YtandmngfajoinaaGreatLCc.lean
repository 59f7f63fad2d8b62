/- CoreChanges. -/
import Derived.Test.YtandmngfajoinaaGreatCb
namespace Go.Proofs.YtandmngfajoinaaGreat.Po
open Go.RowKit Go.Maps

/-- What the calls of the last tests give. -/
theorem ch_tail {t : Int} {W w : World} {o S N b n c : Nat} {base cur f0 : Int} {T : List TI} {F : Nat → Prop} {A : Option Addr} {l : List RI} (hc : CIn t W w o base cur T (fun _ => 0) 0 0 S N F) (hf : FoAt w b f0 A n c) (hT : TRow w A l) (hn : l.length = n) (hs : sameB cur f0 (formU base T) l = true) :
    (w.drew.cell? ⟨b, 0, none⟩ = some (.int .i64 f0) ∧ w.drew.cell? ⟨b, 1, none⟩ = some (.slice A n c)) ∧ Hid (Calls Tryz.prog 27 #[.pointer (some ⟨o, 0, none⟩)] w.drew fun e w' => e = .returned (.int .i64 t) ∧ w.drew = w') ∧
    Hid (Calls Tryz.prog 21 #[.pointer (some ⟨o, 0, none⟩)] w.drew fun e w8 => ∃ A8 c8, e = .returned (.agg #[.int .i64 cur, .slice A8 T.length c8]) ∧ (w8.cell? ⟨b, 0, none⟩ = some (.int .i64 f0) ∧ w8.cell? ⟨b, 1, none⟩ = some (.slice A n c)) ∧
      Hid (Calls Tryz.prog 34 #[.agg #[.int .i64 cur, .slice A8 T.length c8], .agg #[.int .i64 f0, .slice A n c]] w8 fun e w9 => e = .returned (.bool true) ∧ (w9.cell? ⟨b, 0, none⟩ = some (.int .i64 f0) ∧ w9.cell? ⟨b, 1, none⟩ = some (.slice A n c)) ∧
      Hid (Calls Tryz.prog 29 #[.pointer (some ⟨o, 0, none⟩)] w9 fun e w' => e = .returned (.int .i64 0) ∧ w9 = w') ∧ Hid (Below W.heap.size W w9))) := by
  have hl64 := len_of hc.wf
  have hd := hc.below (Below.refl _ w).drew
  refine ⟨⟨(FoAt.cells hf).1, (FoAt.cells hf).2.1⟩, Lib.hid (ctag_in hd), Lib.hid ((cform_in hd).mono ?_)⟩
  rintro e w8 ⟨A8, c8, rfl, hT8, hb8⟩
  have k8 : Below w.heap.size w w8 := (Below.refl _ w).drew.trans hb8
  have hf8 : FoAt w8 b f0 A n c := BoxAt.next hf k8 (Nat.le_refl _)
  refine ⟨A8, c8, rfl, ⟨(FoAt.cells hf8).1, (FoAt.cells hf8).2.1⟩, Lib.hid ?_⟩
  have K := same_c cur f0 A8 A T.length c8 n c _ l w8 (formU_length base T) hn (by omega) hT8 (hT.below k8 (Nat.le_refl _))
  rw [hs] at K
  refine K.mono ?_
  rintro e w9 ⟨rfl, hb9⟩
  have k9 : Below w.heap.size w w9 := k8.trans (hb9.mono k8.size)
  have hf9 : FoAt w9 b f0 A n c := BoxAt.next hf k9 (Nat.le_refl _)
  have h9 := hc.below k9
  exact ⟨rfl, ⟨(FoAt.cells hf9).1, (FoAt.cells hf9).2.1⟩, Lib.hid (cage_in h9), Lib.hid h9.frame⟩
theorem same_comm (a b : Int) (l l' : List RI) : sameB a b l l' = sameB b a l' l := by
  unfold sameB
  rw [Bool.eq_iff_iff]
  simp only [Bool.and_eq_true, decide_eq_true_eq]
  exact ⟨fun h => ⟨h.1.symm, h.2.symm⟩, fun h => ⟨h.1.symm, h.2.symm⟩⟩

set_option maxRecDepth 100000 in
set_option maxHeartbeats 16000000 in
theorem cchanges_c (t f0 t2 g0 : Int) (A B : Option Addr) (c d : Nat) (l l2 : List RI) (w : World) (hr : TRow w A l) (hr2 : TRow w B l2) :
    Calls Tryz.prog 6 #[.int .i64 t, .agg #[.int .i64 f0, .slice A l.length c], .int .i64 t2, .agg #[.int .i64 g0, .slice B l2.length d]] w fun e w' => e = .returned (.bool true) ∧ Below w.heap.size w w' := by
  obtain ⟨n, hn⟩ : ∃ n, l.length = n := ⟨_, rfl⟩
  obtain ⟨n2, hn2⟩ : ∃ n2, l2.length = n2 := ⟨_, rfl⟩
  rw [hn, hn2]
  have hb1 := (Below.refl w.heap.size w).alloc (Nat.le_refl _) (.cells #[.int .i64 f0, .slice A n c] 47)
  have hf1 : FoAt (w.alloc (.cells #[.int .i64 f0, .slice A n c] 47)) w.heap.size f0 A n c := heap_alloc_new w _
  obtain ⟨w1, hw1⟩ : ∃ w1, w.alloc (.cells #[.int .i64 f0, .slice A n c] 47) = w1 := ⟨_, rfl⟩
  have hs1 : w1.heap.size = w.heap.size + 1 := by rw [← hw1]; simp
  rw [hw1] at hb1 hf1
  have hb2 : Below w.heap.size w (w1.alloc (.cells #[.int .i64 g0, .slice B n2 d] 47)) := hb1.alloc (by omega) _
  have hg2 : FoAt (w1.alloc (.cells #[.int .i64 g0, .slice B n2 d] 47)) w1.heap.size g0 B n2 d := heap_alloc_new w1 _
  have hf2 : FoAt (w1.alloc (.cells #[.int .i64 g0, .slice B n2 d] 47)) w.heap.size f0 A n c := (Below.heap_alloc w1 _ _ (by omega)).trans hf1
  obtain ⟨w2, hw2⟩ : ∃ w2, w1.alloc (.cells #[.int .i64 g0, .slice B n2 d] 47) = w2 := ⟨_, rfl⟩
  rw [hw2] at hb2 hg2 hf2
  obtain ⟨a1, ha1⟩ : ∃ a1, w1.heap.size = a1 := ⟨_, rfl⟩
  have HA1 := Lib.hid (show a1 = w.heap.size + 1 by omega)
  have hs2 : w2.heap.size = w.heap.size + 2 := by rw [← hw2]; simp; omega
  rw [ha1] at hg2
  have KA := Lib.hid (awake15_c w2)
  have HBF := Lib.hid (And.intro hb2 (And.intro hf2 hg2))
  have HR := Lib.hid hr
  have HR2 := Lib.hid hr2
  have HN := Lib.hid (And.intro hn hn2)
  have HS2 := Lib.hid hs2
  clear hr hr2 hn hn2 hb1 hf1 hb2 hg2 hf2 hs1 hs2
  go_enter Tryz.func6, Tryz.ntmps6
  go_wp2_with fail
  refine KA.out.mono ?_
  rintro e w3 ⟨rfl, hb⟩
  have HB3 := Lib.hid (HBF.out.1.trans (hb.mono (by have := HS2.out; omega)))
  have hf3 : FoAt w3 w.heap.size f0 A n c := BoxAt.next HBF.out.2.1 hb (Nat.le_refl _)
  have hg3 : FoAt w3 a1 g0 B n2 d := BoxAt.next HBF.out.2.2 hb (Nat.le_refl _)
  have HF3 := Lib.hid (And.intro hf3 hg3)
  obtain ⟨d0, d1, -, -⟩ := FoAt.cells hf3
  obtain ⟨e0, e1, -, -⟩ := FoAt.cells hg3
  clear hb KA hf3 hg3 HBF hw1 hw2 ha1
  by_cases h64 : (64 : Int) < (n : Int)
  · go_wp2_with fail
    go_ret
    exact ⟨rfl, HB3.out⟩
  by_cases h65 : (64 : Int) < (n2 : Int)
  · go_wp2_with fail
    go_ret
    exact ⟨rfl, HB3.out⟩
  have HL := Lib.hid (show n ≤ 64 ∧ n2 ≤ 64 by omega)
  have KS := Lib.hid (cseed_in t f0 0 A n c l (F := fun k => k = w.heap.size ∨ k = a1) HN.out.1 (by have := HL.out; omega) (HR.out.below HB3.out (Nat.le_refl _)) HB3.out (fun k hk => by
    rcases hk with rfl | rfl
    · exact BoxAt.lt HF3.out.1
    · exact BoxAt.lt HF3.out.2))
  go_wp2_with fail
  refine KS.out.mono ?_
  intro e w4 h
  have hb34 : Below w3.heap.size w3 w4 := by
    unfold CSeedP at h
    split at h
    · exact h.choose_spec.2.2
    · exact h.2
  have HB4 := Lib.hid (HB3.out.trans (hb34.mono HB3.out.size))
  have hf4 : FoAt w4 w.heap.size f0 A n c := BoxAt.next HF3.out.1 hb34 (Nat.le_refl _)
  have hg4 : FoAt w4 a1 g0 B n2 d := BoxAt.next HF3.out.2 hb34 (Nat.le_refl _)
  have HF4 := Lib.hid (And.intro hf4 hg4)
  clear d0 d1 e0 e1
  obtain ⟨d0, d1, -, -⟩ := FoAt.cells hf4
  obtain ⟨e0, e1, -, -⟩ := FoAt.cells hg4
  have KP := Lib.hid (sseed_p g0 99 B n2 d l2 w4 t2 HN.out.2 (by have := HL.out; omega) (HR2.out.below HB4.out (Nat.le_refl _)))
  clear hb34 hf4 hg4 HB3 HF3 KS
  by_cases hg1 : Tag t ∧ SdOk 0 f0 l
  · unfold CSeedP at h
    rw [if_pos hg1] at h
    obtain ⟨o, rfl, hc, -⟩ := h
    have HC := Lib.hid hc
    clear hc hg1
    go_wp2_with fail
    refine KP.out.mono ?_
    intro e w5 h
    by_cases hg2 : Tag t2 ∧ SdOk 99 g0 l2
    · unfold SeedP at h
      rw [if_pos hg2] at h
      obtain ⟨q, Aq, st, rfl, hq, s1, s2, hn, hb45⟩ := h
      have hqs : SIn t2 w w5 q 99 g0 (seedU 99 l2) 4000 (fun k => k < w4.heap.size) := seed_in HB4.out (fun _ h => h) hq s1 s2 hn hb45
      have K := cchange_in HC.out hb45 hqs
      rw [formU_seed, formU_seed] at K
      have K := Lib.hid K
      have HB5 := Lib.hid (And.intro hb45 (HB4.out.trans (hb45.mono HB4.out.size)))
      have HCW : Hid (CIn t w w5 o 0 f0 (seedU 0 l) (fun _ => 0) 0 0 4000 0 (fun k => k = w.heap.size ∨ k = a1)) := Lib.hid (HC.out.below hb45)
      have hf5 : FoAt w5 w.heap.size f0 A n c := BoxAt.next HF4.out.1 hb45 (Nat.le_refl _)
      have hg5 : FoAt w5 a1 g0 B n2 d := BoxAt.next HF4.out.2 hb45 (Nat.le_refl _)
      have HF5 := Lib.hid (And.intro hf5 hg5)
      clear hq s1 s2 hn hb45 hqs hg2 hf5 hg5 HF4 HC KP d0 d1 e0 e1
      go_wp2_with fail
      refine K.out.mono ?_
      intro e w6 h
      cases hsm : sameB g0 f0 l2 l with
      | true =>
        rw [if_pos hsm] at h
        obtain ⟨rfl, hc6, hk6⟩ := h
        have hf6 : FoAt w6 w.heap.size f0 A n c := (hk6 _ (.inl rfl)).trans HF5.out.1
        have hg6 : FoAt w6 a1 g0 B n2 d := (hk6 _ (.inr rfl)).trans HF5.out.2
        have hr6 : TRow w6 A l := HR.out.below hc6.frame (Nat.le_refl _)
        have K2 := same_c f0 g0 A B n c n2 d l l2 w6 HN.out.1 HN.out.2 (by have := HL.out; omega) hr6 (HR2.out.below hc6.frame (Nat.le_refl _))
        rw [same_comm, hsm] at K2
        have K2 := Lib.hid K2
        have HC6 := Lib.hid (And.intro hc6 (And.intro hf6 hr6))
        have HSM := Lib.hid hsm
        obtain ⟨d0, d1, -, -⟩ := FoAt.cells hf6
        obtain ⟨e0, e1, -, -⟩ := FoAt.cells hg6
        clear hc6 hk6 hf6 hg6 hr6 hsm K HF5 HCW HB5
        go_wp2_with fail
        refine K2.out.mono ?_
        rintro e w7 ⟨rfl, hb⟩
        have hf7 : FoAt w7 w.heap.size f0 A n c := BoxAt.next HC6.out.2.1 hb (Nat.le_refl _)
        obtain ⟨hs0, KT, KF⟩ := ch_tail (HC6.out.1.below hb) hf7 (HC6.out.2.2.below hb (Nat.le_refl _)) HN.out.1 (by rw [formU_seed]; exact HSM.out)
        have HS0 := Lib.hid hs0
        clear hb hf7 hs0 K2 HC6 d0 d1 e0 e1
        go_wp2_with fail
        go_region_held3 (fun w' => w'.cell? ⟨w.heap.size, 0, none⟩ = some (.int .i64 f0) ∧ w'.cell? ⟨w.heap.size, 1, none⟩ = some (.slice A n c)) (first | exact HS0.out | exact HS1.out | exact HS2.out | go_keep)
          (first
            | (go_at_call 27; refine KT.out.mono ?_; rintro e w8 ⟨rfl, rfl⟩)
            | (go_at_call 21; refine KF.out.mono ?_; rintro e w8 ⟨A8, c8, rfl, hS, KE⟩; have HS1 := Lib.hid hS; clear hS)
            | (go_at_call 34; refine KE.out.mono ?_; rintro e w9 ⟨rfl, hS, KG, HB9⟩; have HS2 := Lib.hid hS; clear hS)
            | (go_at_call 29; refine KG.out.mono ?_; rintro e w10 ⟨rfl, rfl⟩))
        go_wp2_with fail
        go_ret
        exact ⟨rfl, HB9.out⟩
      | false =>
        rw [if_neg (by rw [hsm]; decide)] at h
        obtain ⟨rfl, hb56⟩ := h
        have hf6 : FoAt w6 w.heap.size f0 A n c := BoxAt.next HF5.out.1 hb56 (Nat.le_refl _)
        have hg6 : FoAt w6 a1 g0 B n2 d := BoxAt.next HF5.out.2 hb56 (Nat.le_refl _)
        have hc6 := HCW.out.below hb56
        have hr6 : TRow w6 A l := HR.out.below hc6.frame (Nat.le_refl _)
        have K2 := same_c f0 g0 A B n c n2 d l l2 w6 HN.out.1 HN.out.2 (by have := HL.out; omega) hr6 (HR2.out.below hc6.frame (Nat.le_refl _))
        rw [same_comm, hsm] at K2
        have K2 := Lib.hid K2
        have HC6 := Lib.hid (And.intro hc6 (And.intro hf6 hr6))
        obtain ⟨d0, d1, -, -⟩ := FoAt.cells hf6
        obtain ⟨e0, e1, -, -⟩ := FoAt.cells hg6
        clear hc6 hb56 hf6 hg6 hr6 hsm K HF5 HCW HB5
        go_wp2_with fail
        refine K2.out.mono ?_
        rintro e w7 ⟨rfl, hb⟩
        have hf7 : FoAt w7 w.heap.size f0 A n c := BoxAt.next HC6.out.2.1 hb (Nat.le_refl _)
        obtain ⟨hs0, KT, KF⟩ := ch_tail (HC6.out.1.below hb) hf7 (HC6.out.2.2.below hb (Nat.le_refl _)) HN.out.1 (by rw [formU_seed]; unfold sameB; simp)
        have HS0 := Lib.hid hs0
        clear hb hf7 hs0 K2 HC6 d0 d1 e0 e1
        go_wp2_with fail
        go_region_held3 (fun w' => w'.cell? ⟨w.heap.size, 0, none⟩ = some (.int .i64 f0) ∧ w'.cell? ⟨w.heap.size, 1, none⟩ = some (.slice A n c)) (first | exact HS0.out | exact HS1.out | exact HS2.out | go_keep)
          (first
            | (go_at_call 27; refine KT.out.mono ?_; rintro e w8 ⟨rfl, rfl⟩)
            | (go_at_call 21; refine KF.out.mono ?_; rintro e w8 ⟨A8, c8, rfl, hS, KE⟩; have HS1 := Lib.hid hS; clear hS)
            | (go_at_call 34; refine KE.out.mono ?_; rintro e w9 ⟨rfl, hS, KG, HB9⟩; have HS2 := Lib.hid hS; clear hS))
        go_wp2_with fail
        go_ret
        exact ⟨rfl, HB9.out⟩
    · unfold SeedP at h
      rw [if_neg hg2] at h
      obtain ⟨rfl, hb45⟩ := h
      have HB5 := Lib.hid (HB4.out.trans (hb45.mono HB4.out.size))
      clear hb45 hg2 KP HC HF4
      go_wp2_with fail
      go_ret
      exact ⟨rfl, HB5.out⟩
  · unfold CSeedP at h
    rw [if_neg hg1] at h
    obtain ⟨rfl, -⟩ := h
    clear hg1
    go_wp2_with fail
    refine KP.out.mono ?_
    intro e w5 h
    obtain ⟨v, z, rfl, hb45⟩ : ∃ (v : Value) (z : Int), e = .returned (.tuple #[v, .int .i64 z]) ∧ Below w4.heap.size w4 w5 := by
      unfold SeedP at h
      split at h
      · obtain ⟨p, A', st, he, -, -, -, -, hb⟩ := h
        exact ⟨_, _, he, hb⟩
      · exact ⟨_, _, h.1, h.2⟩
    have HB5 := Lib.hid (HB4.out.trans (hb45.mono HB4.out.size))
    clear hb45 KP HF4
    go_wp2_with fail
    go_ret
    exact ⟨rfl, HB5.out⟩
end Go.Proofs.YtandmngfajoinaaGreat.Po
