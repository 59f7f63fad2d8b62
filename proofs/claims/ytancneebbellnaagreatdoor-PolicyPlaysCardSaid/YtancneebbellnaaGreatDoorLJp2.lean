/- PolicyPlays. -/
import Derived.Test.YtancneebbellnaaGreatDoorJcg
import Derived.Test.YtancneebbellnaaGreatDoorJer
import Derived.Test.YtancneebbellnaaGreatDoorFrb
namespace Go.Proofs.YtancneebbellnaaGreatDoor.Po
open Go.RowKit Go.Maps

/-- An act's cells, as a walk spells them. -/
def Act4 (w : World) (a : Addr) (o i n g : Int) : Prop :=
  w.cell? a = some (.int .i64 o) ∧ w.cell? ⟨a.block, a.off + 1, none⟩ = some (.int .i64 i) ∧ w.cell? ⟨a.block, a.off + 2, none⟩ = some (.int .i64 n) ∧ w.cell? ⟨a.block, a.off + 3, none⟩ = some (.int .i64 g)
theorem act_at {w0 w : World} {A : Option Addr} {l : List (List Int)} {k : Nat} (h : Rows w0 4 A l) (hk : k < l.length) (hb : Below w0.heap.size w0 w) :
    ∃ ad o i n g, A = some ad ∧ Act4 w (ad.add (k * 4)) o i n g ∧ wf64 i ∧ wf64 n ∧ wf64 g := by
  obtain ⟨r, hr⟩ : ∃ r, l[k]? = some r := ⟨_, List.getElem?_eq_getElem hk⟩
  obtain ⟨hlen, ad, hA, hbl, hc⟩ := h k r hr
  obtain ⟨o, i, n, g, rfl⟩ : ∃ o i n g, r = [o, i, n, g] := by
    match r, hlen with
    | [o, i, n, g], _ => exact ⟨o, i, n, g, rfl⟩
  have e : ∀ j z, [o, i, n, g][j]? = some z → w.cell? (ad.add (k * 4 + j)) = some (.int .i64 z) := fun j z hj => (hb.cell (p := ad.add (k * 4 + j)) (by rw [add_block]; exact hbl)).trans (hc j z hj).1
  refine ⟨ad, o, i, n, g, hA, ⟨e 0 o rfl, ?_, ?_, ?_⟩, (hc 1 i rfl).2, (hc 2 n rfl).2, (hc 3 g rfl).2⟩
  · rw [add_next]; exact e 1 i rfl
  · rw [add_next]; exact e 2 n rfl
  · rw [add_next]; exact e 3 g rfl
/-- The act, in a box of its own. -/
def ActAt (w : World) (b : Nat) (o i n g : Int) : Prop := BoxAt w b 44 #[.int .i64 o, .int .i64 i, .int .i64 n, .int .i64 g]
theorem ActAt.cells {w : World} {b : Nat} {o i n g : Int} (h : ActAt w b o i n g) : w.cell? ⟨b, 0, none⟩ = some (.int .i64 o) ∧ w.cell? ⟨b, 1, none⟩ = some (.int .i64 i) ∧ w.cell? ⟨b, 2, none⟩ = some (.int .i64 n) ∧ w.cell? ⟨b, 3, none⟩ = some (.int .i64 g) :=
  ⟨BoxAt.cell h, BoxAt.cell h, BoxAt.cell h, BoxAt.cell h⟩
/-- Both, made of one form. -/
theorem pl_seed {t : Int} {W w3 w5 : World} {s p : Nat} {Ab : Nat → Prop} {vt : Value} {st : Int} {b f0 : Int} {l : List RI} {B : Nat} (hg : SdOk b f0 l)
    (hq : IsW t w3 s Ab st b f0 (seedU b l)) (ht0 : 0 ≤ st) (ht1 : st ≤ 4000) (hs : ∀ k, Ab k → W.heap.size ≤ k) (hb3 : Below W.heap.size W w3) (hB : w3.heap.size ≤ B) (hb5 : Below w3.heap.size w3 w5) (hr : IsT w5 p t b f0 vt (seedT b l)) (hrn : ∀ k, TOf p vt k → B ≤ k) :
    PlF t W w5 s p 0 b f0 (seedU b l) (fun _ => False) := by
  have hs3 := hb3.size
  exact ⟨⟨Ab, st, vt, seedT b l, hq.below hb5, ⟨hr, rfl⟩, ⟨ht0, by omega⟩, hs, fun k hk => by have := hrn k hk; omega, fun k hk hk' => by have := hq.lt k hk; have := hrn k hk'; omega, hb3.trans (hb5.mono hs3), fun k hk => hk.elim⟩, seed_upF hg.1 hg.2.1 hg.2.2, by rw [seedU_cut]; exact (seed_lag hg.1).2, by omega⟩
theorem P2.notRef {t : Int} {W w : World} {s S p : Nat} {bs cs bt ct : Int} {R Q : List TI} {F : Nat → Prop} (h : P2 t W w s bs cs R S p bt ct Q F) {k : Nat} (hk : F k) : k ≠ p := by
  obtain ⟨A, st, vt, T, g1, g2, g3, g4, g5, g6, g7, g8⟩ := h
  exact fun e => (g8 k hk).2.2 (.inl e)
theorem pick_none {t cur : Int} {R : List TI} (h : pickPB R = false) : pickPC t cur R = -1 := by
  unfold pickPB at h
  unfold pickPC
  rw [if_pos (by simpa using h)]
/-- Both are there, and the act in its box. -/
def AtP (t : Int) (w wr : World) (s p k ab : Nat) (o i m g : Int) : Prop := ∃ b c R, PlF t w wr s p k b c R (fun j => j = ab) ∧ ActAt wr ab o i m g

section
variable {t : Int} {w : World} {s p k ab : Nat} {o i m g : Int}
/-- The tail of a round: what the calls of its last test give. -/
theorem pl_tail (hk : Kinds w) (hg : wf64 g) (w7 : World) (b c : Int) (R : List TI) (h : PlF t w w7 s p k b c R (fun j => j = ab)) (ha : ActAt w7 ab o i m g) :
    w7.drew.cell? ⟨ab, 3, none⟩ = some (.int .i64 g) ∧ Hid (Calls Tryz.prog 31 #[.pointer (some ⟨s, 0, none⟩)] w7.drew fun e w8 => ∃ A c8, e = .returned (.agg #[.int .i64 c, .slice A R.length c8]) ∧ w8.cell? ⟨ab, 3, none⟩ = some (.int .i64 g) ∧
      Hid (Calls Tryz.prog 16 #[.agg #[.int .i64 c, .slice A R.length c8]] w8 fun e w9 => ∃ A2 c2, e = .returned (.agg #[.int .i64 c, .slice A2 R.length c2]) ∧ w9.cell? ⟨ab, 3, none⟩ = some (.int .i64 g) ∧
      Hid (Calls Tryz.prog 32 #[.pointer (some ⟨p, 0, none⟩)] w9 fun e w10 => ∃ A3 c3, e = .returned (.agg #[.int .i64 c, .slice A3 R.length c3]) ∧ w10.cell? ⟨ab, 3, none⟩ = some (.int .i64 g) ∧
      Hid (Calls Tryz.prog 30 #[.agg #[.int .i64 c, .slice A2 R.length c2], .agg #[.int .i64 c, .slice A3 R.length c3]] w10 fun e w11 => e = .returned (.bool true) ∧ w11.cell? ⟨ab, 3, none⟩ = some (.int .i64 g) ∧
      Hid (Calls Tryz.prog 14 #[.pointer (some ⟨s, 0, none⟩)] w11 fun e w12 => e = .returned (.int .i64 t) ∧ w11 = w12) ∧
      Hid (Calls Tryz.prog 13 #[.pointer (some ⟨s, 0, none⟩), .int .i64 g] w11 fun e w12 => e = .returned (.int .i64 (heldP t g)) ∧ w12.cell? ⟨ab, 3, none⟩ = some (.int .i64 g) ∧
      Hid (Calls Tryz.prog 33 #[.int .i64 t, .int .i64 g] w12 fun e w13 => e = .returned (.int .i64 (heldP t g)) ∧ w12 = w13) ∧ Hid (PlF t w w12 s p k b c R (fun _ => False))))))) := by
  have hq := h.more (Below.refl _ w7).drew (fun j hj => .inl hj)
  have hl64 := len_of hq.1.wf
  have hab : ab < w7.heap.size := ha.lt
  have hc : ∀ W : World, W.heap[ab]? = w7.heap[ab]? → W.cell? ⟨ab, 3, none⟩ = some (.int .i64 g) := fun W hW => (ActAt.cells (show ActAt W ab o i m g from hW.trans ha)).2.2.2
  have ht := hq.1.tag
  have hlo : -9223372036854775808 ≤ g := by
    unfold wf64 at hg
    simp [Lit.wf, IntKind.min, IntKind.max, IntKind.signed, IntKind.bits] at hg
    exact hg.1
  refine ⟨hc _ rfl, Lib.hid ((p2_form hq.1).mono ?_)⟩
  rintro e w8 ⟨A, c8, rfl, hT8, hb8⟩
  have k8 : Below w7.heap.size w7 w8 := (Below.refl _ w7).drew.trans hb8
  have hq8 := hq.more hb8 (fun j hj => .inl hj)
  refine ⟨A, c8, rfl, hc _ (k8.block _ hab), Lib.hid ((own_c c A R.length c8 (formU b R) w8 (formU_length _ _) (by omega) hT8).mono ?_)⟩
  rintro e w9 ⟨A2, c2, rfl, hT9, hb9⟩
  have k9 : Below w7.heap.size w7 w9 := k8.trans (hb9.mono k8.size)
  have hq9 := hq8.more hb9 (fun j hj => .inl hj)
  rw [formU_length]
  refine ⟨A2, c2, rfl, hc _ (k9.block _ hab), Lib.hid ((p2_rform hq9.1 hq9.1.wf).mono ?_)⟩
  rintro e w10 ⟨A3, c3, rfl, hT10, hb10⟩
  have k10 : Below w7.heap.size w7 w10 := k9.trans (hb10.mono k9.size)
  have hq10 := hq9.more hb10 (fun j hj => .inl hj)
  rw [formU_length]
  refine ⟨A3, c3, rfl, hc _ (k10.block _ hab), Lib.hid ((rsame_c c A2 A3 R.length c2 c3 (formU b R) w10 (formU_length _ _) (by omega) (hT9.below hb10 (Nat.le_refl _)) hT10).mono ?_)⟩
  rintro e w11 ⟨rfl, hb11⟩
  have k11 : Below w7.heap.size w7 w11 := k10.trans (hb11.mono k10.size)
  have hq11 := hq10.more hb11 (fun j hj => .inl hj)
  refine ⟨rfl, hc _ (k11.block _ hab), Lib.hid (p2_tag hq11.1), Lib.hid ((p2_held g hg (hk.below hq11.1.frame (Nat.le_refl _)) hq11.1).mono ?_)⟩
  rintro e w12 ⟨rfl, hb12⟩
  have k12 : Below w7.heap.size w7 w12 := k11.trans (hb12.mono k11.size)
  refine ⟨rfl, hc _ (k12.block _ hab), Lib.hid ((rheld_w t g w12 ht hlo).mono (fun e w13 ⟨he, hw⟩ => ⟨by rw [he, held_T ht], hw⟩)), Lib.hid (hq11.more hb12 (fun j hj => hj.elim))⟩
end

set_option maxRecDepth 100000 in
set_option maxHeartbeats 40000000 in
theorem splays_c (t f0 b : Int) (A A1 : Option Addr) (c c1 : Nat) (l : List RI) (acts : List (List Int)) (w : World) (hk : Kinds w) (hr : TRow w A l) (hr1 : Rows w 4 A1 acts) :
    Calls Tryz.prog 4 #[.int .i64 t, .agg #[.int .i64 f0, .slice A l.length c], .int .i64 b, .slice A1 acts.length c1] w fun e w' => e = .returned (.bool true) ∧ Below w.heap.size w w' := by
  have hb1 := (Below.refl _ w).alloc (Nat.le_refl _) (.cells #[.int .i64 f0, .slice A l.length c] 30)
  have hf1 : FoAt (w.alloc (.cells #[.int .i64 f0, .slice A l.length c] 30)) w.heap.size f0 A l.length c := heap_alloc_new w _
  obtain ⟨w1, hw1⟩ : ∃ w1, w.alloc (.cells #[.int .i64 f0, .slice A l.length c] 30) = w1 := ⟨_, rfl⟩
  have hs1 : w1.heap.size = w.heap.size + 1 := by rw [← hw1]; simp
  rw [hw1] at hb1 hf1
  have KA := Lib.hid (awake14_c w1 (hk.below hb1 (Nat.le_refl _)))
  obtain ⟨n, hn⟩ : ∃ n, l.length = n := ⟨_, rfl⟩
  obtain ⟨m1, hm1⟩ : ∃ m1, acts.length = m1 := ⟨_, rfl⟩
  rw [hn] at hf1 hw1 ⊢
  rw [hm1]
  have KS : Hid (∀ W, n ≤ 70 → Below w.heap.size w W → Calls Tryz.prog 10 #[.int .i64 t, .agg #[.int .i64 f0, .slice A n c], .int .i64 b] W (SeedP t b f0 l W)) := Lib.hid (fun W h64 hb => sseed_p f0 b A n c l W t hn (by omega) (hr.below hb (Nat.le_refl _)))
  have KO : Hid (∀ W, n ≤ 70 → Below w.heap.size w W → Calls Tryz.prog 16 #[.agg #[.int .i64 f0, .slice A n c]] W (FPost f0 l W)) := Lib.hid (fun W h70 hb => own_c f0 A n c l W hn (by omega) (hr.below hb (Nat.le_refl _)))
  have HB1 := Lib.hid hb1
  have HF1 := Lib.hid hf1
  have HR1 := Lib.hid hr1
  have HN := Lib.hid (And.intro hn hm1)
  have HK := Lib.hid hk
  clear hr hr1 hn hm1 hb1 hf1 hk
  go_enter Tryz.func4, Tryz.ntmps4
  go_wp2_with fail
  refine KA.out.mono ?_
  rintro e w2 ⟨rfl, hb⟩
  have HB2 := Lib.hid (HB1.out.trans (hb.mono (by omega)))
  have hf2 : FoAt w2 w.heap.size f0 A n c := BoxAt.next HF1.out hb (Nat.le_refl _)
  have HF2 := Lib.hid hf2
  obtain ⟨d0, d1, -, -⟩ := FoAt.cells hf2
  clear hb KA hf2 HF1 HB1 hs1 hw1
  by_cases h200 : (200 : Int) < (m1 : Int)
  · go_wp2_with fail
    go_ret
    exact ⟨rfl, HB2.out⟩
  by_cases h70 : (70 : Int) < (n : Int)
  · go_wp2_with fail
    go_ret
    exact ⟨rfl, HB2.out⟩
  go_wp2_with fail
  refine (KS.out _ (by omega) HB2.out).mono ?_
  rintro e w3 hP1
  have hb23 : Below w2.heap.size w2 w3 := by
    unfold SeedP at hP1
    split at hP1
    · obtain ⟨_, _, _, _, _, _, _, _, hb⟩ := hP1
      exact hb
    · exact hP1.2
  have HB3 := Lib.hid (HB2.out.trans (hb23.mono HB2.out.size))
  have hf3 : FoAt w3 w.heap.size f0 A n c := BoxAt.next HF2.out hb23 (Nat.le_refl _)
  obtain ⟨d0, d1, -, -⟩ := FoAt.cells hf3
  clear hb23 hf3 KS HF2
  by_cases hcond : Tag t ∧ SdOk b f0 l
  · unfold SeedP at hP1
    rw [if_pos hcond] at hP1
    obtain ⟨s, Ab, st, rfl, hq1, h10, h11, hnw1, hbs1⟩ := hP1
    have HQ1 := Lib.hid (And.intro hq1 (And.intro h10 (And.intro h11 (And.intro hnw1 hbs1))))
    have HC := Lib.hid hcond
    clear hq1 h10 h11 hnw1 hbs1 hcond
    go_wp2_with fail
    refine (KO.out _ (by omega) HB3.out).mono ?_
    rintro e w4 ⟨A4, c4, rfl, hT4, hb34⟩
    have HB34 := Lib.hid hb34
    have KR := rseed_p t f0 b A4 n c4 l w4 HN.out.1 (by omega) hT4
    rw [HN.out.1]
    have KR := Lib.hid KR
    clear hT4 hb34 KO
    go_wp2_with fail
    refine KR.out.mono ?_
    rintro e w5 hP2
    unfold RSPost at hP2
    rw [if_pos HC.out] at hP2
    obtain ⟨p, vt, rfl, hq2, hnw2, hb45⟩ := hP2
    have hb35 : Below w3.heap.size w3 w5 := HB34.out.trans (hb45.mono HB34.out.size)
    have HS0 : Hid (PlF t w w5 s p 0 b f0 (seedU b l) (fun _ => False)) := by
      obtain ⟨hq1, h10, h11, hnw1, hbs1⟩ := HQ1.out
      have hsz2 := HB2.out.size
      have hsz3 := HB3.out.size
      exact Lib.hid (pl_seed HC.out.2 hq1 h10 h11 (fun k hk => by have := hnw1 k hk; omega) HB3.out HB34.out.size hb35 hq2 hnw2)
    clear hq2 hnw2 hb45 hb35 HQ1 HB34 KR d0 d1
    generalize seedU b l = R0 at *
    go_wp2_with fail
    go_loopw [13] (fun iv wr => ∃ (k : Nat) (b' cur : Int) (R : List TI), iv = .int .i64 k ∧ k ≤ m1 ∧ Hid (PlF t w wr s p k b' cur R (fun _ => False))) (fun iv _ => m1 - (intOf iv).toNat)
    case atStart => exact ⟨0, _, _, _, rfl, by omega, HS0⟩
    case round =>
      obtain ⟨k, base, cur, R, rfl, hk, HQ⟩ := hrel
      clear HS0
      by_cases hlt : k < m1
      · have hlt' : (k : Int) < (m1 : Int) := by omega
        have hk200 : k < 200 := by omega
        obtain ⟨ad, o, i, m, g, rfl, ⟨a0, a1, a2, a3⟩, hwi, hwm, hwg⟩ := act_at HR1.out (by rw [HN.out.2]; exact hlt) HQ.out.1.frame
        have hb2 : Below wr.heap.size wr (wr.alloc (.cells #[.int .i64 o, .int .i64 i, .int .i64 m, .int .i64 g] 44)) := (Below.refl _ wr).alloc (Nat.le_refl _) _
        have hbx : ActAt (wr.alloc (.cells #[.int .i64 o, .int .i64 i, .int .i64 m, .int .i64 g] 44)) wr.heap.size o i m g := heap_alloc_new wr _
        obtain ⟨ab, hab⟩ : ∃ ab, wr.heap.size = ab := ⟨_, rfl⟩
        obtain ⟨w6, hw6⟩ : ∃ w6, wr.alloc (.cells #[.int .i64 o, .int .i64 i, .int .i64 m, .int .i64 g] 44) = w6 := ⟨_, rfl⟩
        have hsz6 : w6.heap.size = ab + 1 := by rw [← hw6, ← hab]; simp
        rw [hw6, hab] at hbx
        rw [hw6] at hb2
        have HX : Hid (∀ W' : World, W'.heap[ab]? = w6.heap[ab]? → ActAt W' ab o i m g ∧ W'.cell? ⟨ab, 1, none⟩ = some (.int .i64 i) ∧ W'.cell? ⟨ab, 2, none⟩ = some (.int .i64 m) ∧ W'.cell? ⟨ab, 3, none⟩ = some (.int .i64 g)) := Lib.hid (fun W' h => ⟨h.trans hbx, (ActAt.cells (h.trans hbx)).2⟩)
        have HQ6 : Hid (PlF t w w6 s p k base cur R (fun j => j = ab)) := Lib.hid (HQ.out.more hb2 (fun j hj => .inr (by omega)))
        have HI := Lib.hid (And.intro hwi (And.intro hwm hwg))
        have hcur : cur = -1 ∨ (0 ≤ cur ∧ cur ≠ -1) := by
          have hwf := HQ.out.1.wf
          rcases hwf.cur with h1 | h1
          · exact .inl h1
          · obtain ⟨r, hr, he⟩ := hasI_iff.1 h1
            have := (hwf.each r hr).1
            exact .inr (by omega)
        have HC2 := Lib.hid hcur
        have HUF := Lib.hid HQ.out.2.1
        obtain ⟨x0, x1, x2, x3⟩ := hbx.cells
        clear HQ hb2 hbx hsz6 hcur hwi hwm hwg
        go_upto_block 2 with fail
        clear a0 a1 a2 a3 hw6 hab
        go_cut [15, 16, 17, 18, 19, 20, 21, 22, 23, 24, 25, 26, 27, 28, 29, 30, 31, 32] from 73 to 262 (fun _ _ _ _ _ _ _ _ _ _ _ _ _ _ _ _ _ _ wx => Hid (AtP t w wx s p (k + 1) ab o i m g))
        case first =>

          by_cases ho0 : o = 0
          · as_aux_lemma =>
              subst ho0
              have HS0 := Lib.hid (And.intro x1 (And.intro x2 x3))
              have HQD : Hid (PlF t w w6.drew s p k base cur R (fun j => j = ab)) := Lib.hid (HQ6.out.more (Below.refl _ w6).drew (fun j hj => .inl hj))
              have K1 := Lib.hid ((pl_enter1 (i, m, g)  HQD.out hk200).mono (fun e w' ⟨he, hq, hF⟩ => And.intro he (And.intro (Lib.hid hq) (And.intro (hF _ (.inl rfl)) (HX.out w' (hF _ (.inl rfl))).2))))
              have K2 := Lib.hid (fun (w7 : World) (h7 : PlH t w w7 s p k (entP t base R (i, m, g)).2.1 cur (entP t base R (i, m, g)).2.2 base cur R (fun j => j = ab)) (h8 : w7.heap[ab]? = w6.drew.heap[ab]?) => (pl_enter2 (w := w7) (i, m, g)  h7).mono (fun e w' ⟨he, hq, hF⟩ => And.intro he (And.intro (Lib.hid (show AtP t w w' s p (k + 1) ab 0 i m g from ⟨_, _, _, hq, (HX.out w' ((hF _ rfl).trans h8)).1⟩)) (HX.out w' ((hF _ rfl).trans h8)).2)))
              generalize (entP t base R (i, m, g)).1 = r1 at *
              generalize (entP t base R (i, m, g)).2.1 = base1 at *
              generalize (entP t base R (i, m, g)).2.2 = R1 at *
              clear HQ6 HI HC2 HUF
              go_wp2_with fail
              go_region_held3 (fun w' => w'.cell? ⟨ab, 1, none⟩ = some (.int .i64 i) ∧ w'.cell? ⟨ab, 2, none⟩ = some (.int .i64 m) ∧ w'.cell? ⟨ab, 3, none⟩ = some (.int .i64 g)) (first | exact HS0.out | exact HS1.out | exact HS2.out | go_keep)
                (first
                  | (go_at_call 17; refine K1.out.mono ?_; rintro e w7 ⟨rfl, HH, h8, hS⟩; have HS1 := Lib.hid hS; have H8 := Lib.hid h8; clear hS h8)
                  | (go_at_call 18; refine (K2.out _ HH.out H8.out).mono ?_; rintro e w8 ⟨rfl, HD, hS⟩; have HS2 := Lib.hid hS; clear hS))
              go_wp2_with fail
              go_meet
              exact HD
          by_cases ho1 : o = 1
          · as_aux_lemma =>
              subst ho1
              have HS0 := Lib.hid (And.intro x1 (And.intro x2 x3))
              have HQD : Hid (PlF t w w6.drew s p k base cur R (fun j => j = ab)) := Lib.hid (HQ6.out.more (Below.refl _ w6).drew (fun j hj => .inl hj))
              have K1 := Lib.hid ((pl_put1 (i, m, g)  HQD.out hk200).mono (fun e w' ⟨he, hq, hF⟩ => And.intro he (And.intro (Lib.hid hq) (And.intro (hF _ (.inl rfl)) (HX.out w' (hF _ (.inl rfl))).2))))
              have K2 := Lib.hid (fun (w7 : World) (h7 : PlH t w w7 s p k (putU base R (i, m, g)).2.1 cur (putU base R (i, m, g)).2.2 base cur R (fun j => j = ab)) (h8 : w7.heap[ab]? = w6.drew.heap[ab]?) => (pl_put2 (w := w7) (i, m, g)  h7).mono (fun e w' ⟨he, hq, hF⟩ => And.intro he (And.intro (Lib.hid (show AtP t w w' s p (k + 1) ab 1 i m g from ⟨_, _, _, hq, (HX.out w' ((hF _ rfl).trans h8)).1⟩)) (HX.out w' ((hF _ rfl).trans h8)).2)))
              generalize (putU base R (i, m, g)).1 = r1 at *
              generalize (putU base R (i, m, g)).2.1 = base1 at *
              generalize (putU base R (i, m, g)).2.2 = R1 at *
              clear HQ6 HI HC2 HUF
              go_wp2_with fail
              go_region_held3 (fun w' => w'.cell? ⟨ab, 1, none⟩ = some (.int .i64 i) ∧ w'.cell? ⟨ab, 2, none⟩ = some (.int .i64 m) ∧ w'.cell? ⟨ab, 3, none⟩ = some (.int .i64 g)) (first | exact HS0.out | exact HS1.out | exact HS2.out | go_keep)
                (first
                  | (go_at_call 19; refine K1.out.mono ?_; rintro e w7 ⟨rfl, HH, h8, hS⟩; have HS1 := Lib.hid hS; have H8 := Lib.hid h8; clear hS h8)
                  | (go_at_call 18; refine (K2.out _ HH.out H8.out).mono ?_; rintro e w8 ⟨rfl, HD, hS⟩; have HS2 := Lib.hid hS; clear hS))
              go_wp2_with fail
              go_meet
              exact HD
          by_cases ho2 : o = 2
          · as_aux_lemma =>
              subst ho2
              have K1 := Lib.hid ((pl_leave1 i HI.out.1 HQ6.out hk200).mono (fun e w' ⟨he, hq, hF⟩ => And.intro he (And.intro (Lib.hid hq) (And.intro (Lib.hid (hF _ (.inl rfl))) (HX.out w' (hF _ (.inl rfl))).2))))
              have K2 := Lib.hid (fun (w7 : World) (h7 : PlH t w w7 s p k (leaveU base cur R i).2.2.1 (leaveU base cur R i).2.2.2.1 (leaveU base cur R i).2.2.2.2 base cur R (fun j => j = ab)) (h8 : w7.heap[ab]? = w6.heap[ab]?) => (pl_leave2 (w := w7) i HI.out.1 h7).mono (fun e w' ⟨he, hq, hF⟩ => And.intro he (Lib.hid (show AtP t w w' s p (k + 1) ab 2 i m g from ⟨_, _, _, hq, (HX.out w' ((hF _ rfl).trans h8)).1⟩))))
              generalize (leaveU base cur R i).1 = r1 at *
              generalize (leaveU base cur R i).2.1 = r2 at *
              generalize (leaveU base cur R i).2.2.1 = base1 at *
              generalize (leaveU base cur R i).2.2.2.1 = cur1 at *
              generalize (leaveU base cur R i).2.2.2.2 = R1 at *
              clear HQ6 HI HC2 HUF
              go_wp2_with fail
              refine K1.out.mono ?_
              rintro e w7 ⟨rfl, HH, h8, y1, y2, y3⟩
              go_wp2_with fail
              refine (K2.out _ HH.out h8.out).mono ?_
              rintro e w8 ⟨rfl, HD⟩
              clear K1 K2 HH h8 y1 y2 y3 x0 x1 x2 x3
              go_wp2_with fail
              go_meet
              exact HD
          by_cases ho3 : o = 3
          · as_aux_lemma =>
              subst ho3
              have HS0 := Lib.hid (And.intro x1 (And.intro x2 x3))
              have HQD : Hid (PlF t w w6.drew s p k base cur R (fun j => j = ab)) := Lib.hid (HQ6.out.more (Below.refl _ w6).drew (fun j hj => .inl hj))
              have K1 := Lib.hid ((pl_weigh1 i m HI.out.1 HI.out.2.1 HQD.out hk200).mono (fun e w' ⟨he, hq, hF⟩ => And.intro he (And.intro (Lib.hid hq) (And.intro (hF _ (.inl rfl)) (HX.out w' (hF _ (.inl rfl))).2))))
              have K2 := Lib.hid (fun (w7 : World) (h7 : PlH t w w7 s p k base cur (weighU R i m).2 base cur R (fun j => j = ab)) (h8 : w7.heap[ab]? = w6.drew.heap[ab]?) => (pl_weigh2 (w := w7) i m HI.out.1 HI.out.2.1 h7).mono (fun e w' ⟨he, hq, hF⟩ => And.intro he (And.intro (Lib.hid (show AtP t w w' s p (k + 1) ab 3 i m g from ⟨_, _, _, hq, (HX.out w' ((hF _ rfl).trans h8)).1⟩)) (HX.out w' ((hF _ rfl).trans h8)).2)))
              generalize (weighU R i m).1 = r1 at *
              generalize (weighU R i m).2 = R1 at *
              clear HQ6 HI HC2 HUF
              go_wp2_with fail
              go_region_held3 (fun w' => w'.cell? ⟨ab, 1, none⟩ = some (.int .i64 i) ∧ w'.cell? ⟨ab, 2, none⟩ = some (.int .i64 m) ∧ w'.cell? ⟨ab, 3, none⟩ = some (.int .i64 g)) (first | exact HS0.out | exact HS1.out | exact HS2.out | go_keep)
                (first
                  | (go_at_call 22; refine K1.out.mono ?_; rintro e w7 ⟨rfl, HH, h8, hS⟩; have HS1 := Lib.hid hS; have H8 := Lib.hid h8; clear hS h8)
                  | (go_at_call 23; refine (K2.out _ HH.out H8.out).mono ?_; rintro e w8 ⟨rfl, HD, hS⟩; have HS2 := Lib.hid hS; clear hS))
              go_wp2_with fail
              go_meet
              exact HD
          by_cases ho4 : o = 4
          · as_aux_lemma =>
              subst ho4
              have K1 := Lib.hid ((pl_pick1   HQ6.out hk200).mono (fun e w' ⟨he, hq, hF⟩ => And.intro he (And.intro (Lib.hid hq) (And.intro (Lib.hid (hF _ (.inl rfl))) (HX.out w' (hF _ (.inl rfl))).2))))
              have K2 := Lib.hid (fun (w7 : World) (h7 : PlH t w w7 s p k base (pickPC t cur R) R base cur R (fun j => j = ab)) (h8 : w7.heap[ab]? = w6.heap[ab]?) => (pl_pick2 (w := w7)   h7).mono (fun e w' ⟨he, hq, hF⟩ => And.intro he (Lib.hid (show AtP t w w' s p (k + 1) ab 4 i m g from ⟨_, _, _, hq, (HX.out w' ((hF _ rfl).trans h8)).1⟩))))
              generalize pickPV t cur R = r1 at *
              generalize pickPB R = r2 at *
              generalize pickPC t cur R = cur1 at *
              clear HQ6 HI HC2 HUF
              go_wp2_with fail
              refine K1.out.mono ?_
              rintro e w7 ⟨rfl, HH, h8, y1, y2, y3⟩
              go_wp2_with fail
              refine (K2.out _ HH.out h8.out).mono ?_
              rintro e w8 ⟨rfl, HD⟩
              clear K1 K2 HH h8 y1 y2 y3 x0 x1 x2 x3
              go_wp2_with fail
              go_meet
              exact HD
          by_cases ho5 : o = 5
          · as_aux_lemma =>
              subst ho5
              have K1 := Lib.hid ((pl_charge1   HQ6.out hk200).mono (fun e w' ⟨he, hq, hF⟩ => And.intro he (And.intro (Lib.hid hq) (And.intro (Lib.hid (hF _ (.inl rfl))) (HX.out w' (hF _ (.inl rfl))).2))))
              have K2 := Lib.hid (fun (w7 : World) (h7 : PlH t w w7 s p k (chargeU base cur R).2.2.1 cur (chargeU base cur R).2.2.2 base cur R (fun j => j = ab)) (h8 : w7.heap[ab]? = w6.heap[ab]?) => (pl_charge2 (w := w7)   h7).mono (fun e w' ⟨he, hq, hF⟩ => And.intro he (Lib.hid (show AtP t w w' s p (k + 1) ab 5 i m g from ⟨_, _, _, hq, (HX.out w' ((hF _ rfl).trans h8)).1⟩))))
              generalize (chargeU base cur R).1 = r1 at *
              generalize (chargeU base cur R).2.1 = r2 at *
              generalize (chargeU base cur R).2.2.1 = base1 at *
              generalize (chargeU base cur R).2.2.2 = R1 at *
              clear HQ6 HI HC2 HUF
              go_wp2_with fail
              refine K1.out.mono ?_
              rintro e w7 ⟨rfl, HH, h8, y1, y2, y3⟩
              go_wp2_with fail
              refine (K2.out _ HH.out h8.out).mono ?_
              rintro e w8 ⟨rfl, HD⟩
              clear K1 K2 HH h8 y1 y2 y3 x0 x1 x2 x3
              go_wp2_with fail
              go_meet
              exact HD
          by_cases ho6 : o = 6
          · as_aux_lemma =>
              subst ho6
              have HQD : Hid (PlF t w w6.drew s p k base cur R (fun j => j = ab)) := Lib.hid (HQ6.out.more (Below.refl _ w6).drew (fun j hj => .inl hj))
              have HS0 := Lib.hid HQD.out.1.refCells.2.1
              have HNE : Hid (∀ W : World, PlH t w W s p k base (-1) R base cur R (fun j => j = ab) → (W.setCell ⟨p, 2, none⟩ (.int .i64 (-1))).heap[ab]? = W.heap[ab]?) := Lib.hid (fun W h => Below.heap_setCell W _ _ ab (h.1.notRef rfl))
              have k1 := (pl_back1 HQD.out hk200).mono (fun e w' ⟨he, hq, hF⟩ => And.intro he (And.intro (Lib.hid hq) (And.intro ((cellq_of (hF _ (.inr rfl)) 2).trans HS0.out) (Lib.hid (hF _ (.inl rfl))))))
              rcases HC2.out with hc | ⟨hc1, hc2⟩
              · rw [decide_eq_true hc] at k1
                subst hc
                simp only [Bool.not_true] at k1
                have K1 := Lib.hid k1
                clear k1
                go_wp2_with fail
                go_region_held3 (fun w' => w'.cell? ⟨p, 2, none⟩ = some (.int .i64 (-1))) (first | exact HS0.out | exact HS1.out | go_keep)
                  (first
                    | (go_at_call 28; refine K1.out.mono ?_; rintro e w7 ⟨rfl, HH, hS, h8⟩; have HS1 := Lib.hid hS; clear hS))
                have r2 := HH.out.1.refCells.2.1
                have rf := HH.out.1.refCells.2.2
                have HD := Lib.hid (pl_back2 HH.out)
                have HA : Hid (AtP t w (w7.setCell ⟨p, 2, none⟩ (.int .i64 (-1))) s p (k + 1) ab 6 i m g) := Lib.hid ⟨_, _, _, HD.out, (HX.out _ ((HNE.out w7 HH.out).trans h8.out)).1⟩
                clear HS0 HS1 K1 HH HQD HD HNE x0 x1 x2 x3 h8
                go_wp2_with fail
                go_meet
                exact HA
              · rw [decide_eq_false hc2] at k1
                simp only [Bool.not_false] at k1
                have K1 := Lib.hid k1
                clear k1
                go_wp2_with fail
                go_region_held3 (fun w' => w'.cell? ⟨p, 2, none⟩ = some (.int .i64 cur)) (first | exact HS0.out | exact HS1.out | go_keep)
                  (first
                    | (go_at_call 28; refine K1.out.mono ?_; rintro e w7 ⟨rfl, HH, hS, h8⟩; have HS1 := Lib.hid hS; clear hS))
                have r2 := HH.out.1.refCells.2.1
                have rf := HH.out.1.refCells.2.2
                have HD := Lib.hid (pl_back2 HH.out)
                have HA : Hid (AtP t w (w7.setCell ⟨p, 2, none⟩ (.int .i64 (-1))) s p (k + 1) ab 6 i m g) := Lib.hid ⟨_, _, _, HD.out, (HX.out _ ((HNE.out w7 HH.out).trans h8.out)).1⟩
                clear HS0 HS1 K1 HH HQD HD HNE x0 x1 x2 x3 h8
                go_wp2_with fail
                go_meet
                exact HA
          as_aux_lemma =>
            have e0 : (o == 0) = false := by simp [ho0]
            have e1 : (o == 1) = false := by simp [ho1]
            have e2 : (o == 2) = false := by simp [ho2]
            have e3 : (o == 3) = false := by simp [ho3]
            have e4 : (o == 4) = false := by simp [ho4]
            have e5 : (o == 5) = false := by simp [ho5]
            have e6 : (o == 6) = false := by simp [ho6]
            clear ho0 ho1 ho2 ho3 ho4 ho5 ho6
            have K1 := Lib.hid ((pl_run1 HQ6.out hk200).mono (fun e w' ⟨he, hq, hF⟩ => And.intro he (And.intro (Lib.hid hq) (And.intro (Lib.hid (hF _ (.inl rfl))) (HX.out w' (hF _ (.inl rfl))).2))))
            have K2 := Lib.hid (fun (w7 : World) (h7 : PlH t w w7 s p k (chargeU base (pickPC t cur R) R).2.2.1 (pickPC t cur R) (chargeU base (pickPC t cur R) R).2.2.2 base cur R (fun j => j = ab)) (h8 : w7.heap[ab]? = w6.heap[ab]?) => (pl_run2 (w := w7) HUF.out h7).mono (fun e w' ⟨he, hq, hF⟩ => And.intro he (And.intro (Lib.hid hq) (Lib.hid ((hF _ rfl).trans h8)))))
            have K3 := Lib.hid (fun (w7 : World) (h7 : PlH t w w7 s p k (chargeU base (pickPC t cur R) R).2.2.1 (pickPC t cur R) (chargeU base (pickPC t cur R) R).2.2.2 base (pickPC t cur R) R (fun j => j = ab)) (h8 : w7.heap[ab]? = w6.heap[ab]?) => (pl_charge2 (w := w7) h7).mono (fun e w' ⟨he, hq, hF⟩ => And.intro he (Lib.hid (show AtP t w w' s p (k + 1) ab o i m g from ⟨_, _, _, hq, (HX.out w' ((hF _ rfl).trans h8)).1⟩))))
            cases hpb : pickPB R
            · have hc1 := pick_none (t := t) (cur := cur) hpb
              have K4 := Lib.hid (fun (w7 : World) (h7 : PlH t w w7 s p k (chargeU base (pickPC t cur R) R).2.2.1 (pickPC t cur R) (chargeU base (pickPC t cur R) R).2.2.2 base (pickPC t cur R) R (fun j => j = ab)) (h8 : w7.heap[ab]? = w6.heap[ab]?) => show AtP t w w7 s p (k + 1) ab o i m g from ⟨_, _, _, pl_run0 h7 hc1, (HX.out w7 h8).1⟩)
              have hr1 : (chargeU base (pickPC t cur R) R).1 = 0 := by rw [hc1]; rfl
              have hr2 : (chargeU base (pickPC t cur R) R).2.1 = 14 := by rw [hc1]; rfl
              rw [hpb] at K2
              rw [hr1, hr2] at K1
              clear hpb hc1 hr1 hr2 K3 HQ6 HI HC2 HUF
              generalize (chargeU base (pickPC t cur R) R).2.2.1 = base1 at *
              generalize (chargeU base (pickPC t cur R) R).2.2.2 = R1 at *
              generalize pickPV t cur R = v1 at *
              generalize pickPC t cur R = cur1 at *
              go_wp2_with fail
              refine K1.out.mono ?_
              rintro e w7 ⟨rfl, HH, h8, y1, y2, y3⟩
              go_wp2_with fail
              refine (K2.out _ HH.out h8.out).mono ?_
              rintro e w8 ⟨rfl, HH2, h9⟩
              have HA := Lib.hid (K4.out _ HH2.out h9.out)
              clear K1 K2 K4 HH HH2 h8 h9 y1 y2 y3 x0 x1 x2 x3
              go_wp2_with fail
              go_meet
              exact HA
            · rw [hpb] at K2
              clear hpb HQ6 HI HC2 HUF
              generalize (chargeU base (pickPC t cur R) R).1 = r1 at *
              generalize (chargeU base (pickPC t cur R) R).2.1 = r2 at *
              generalize (chargeU base (pickPC t cur R) R).2.2.1 = base1 at *
              generalize (chargeU base (pickPC t cur R) R).2.2.2 = R1 at *
              generalize pickPV t cur R = v1 at *
              generalize pickPC t cur R = cur1 at *
              go_wp2_with fail
              refine K1.out.mono ?_
              rintro e w7 ⟨rfl, HH, h8, y1, y2, y3⟩
              go_wp2_with fail
              refine (K2.out _ HH.out h8.out).mono ?_
              rintro e w8 ⟨rfl, HH2, h9⟩
              clear HH h8 y1 y2 y3 x0 x1 x2 x3
              go_wp2_with fail
              refine (K3.out _ HH2.out h9.out).mono ?_
              rintro e w9 ⟨rfl, HA⟩
              clear K1 K2 K3 HH2 h9
              go_wp2_with fail
              go_meet
              exact HA
        case rest =>
          obtain ⟨b'', c'', R', hq, ha⟩ := hcut.out
          clear hcut
          obtain ⟨hs0, KF⟩ := pl_tail HK.out HI.out.2.2 _ b'' c'' R' hq ha
          have HS0 := Lib.hid hs0
          clear hq ha HX HQ6 HI HC2 HUF hs0 x0 x1 x2 x3
          go_wp2_with fail
          go_region_held3 (fun w' => w'.cell? ⟨ab, 3, none⟩ = some (.int .i64 g)) (first | exact HS0.out | exact HS1.out | exact HS2.out | exact HS3.out | exact HS4.out | exact HS5.out | go_keep)
            (first
              | (go_at_call 31; refine KF.out.mono ?_; rintro e w8 ⟨A8, c8, rfl, hS, KO⟩; have HS1 := Lib.hid hS; clear hS)
              | (go_at_call 16; refine KO.out.mono ?_; rintro e w9 ⟨A9, c9, rfl, hS, KR⟩; have HS2 := Lib.hid hS; clear hS)
              | (go_at_call 32; refine KR.out.mono ?_; rintro e w10 ⟨A10, c10, rfl, hS, KS⟩; have HS3 := Lib.hid hS; clear hS)
              | (go_at_call 30; refine KS.out.mono ?_; rintro e w11 ⟨rfl, hS, KT, KH⟩; have HS4 := Lib.hid hS; clear hS)
              | (go_at_call 14; refine KT.out.mono ?_; rintro e w12 ⟨rfl, rfl⟩)
              | (go_at_call 13; refine KH.out.mono ?_; rintro e w12 ⟨rfl, hS, KV, HE⟩; have HS5 := Lib.hid hS; clear hS)
              | (go_at_call 33; refine KV.out.mono ?_; rintro e w13 ⟨rfl, rfl⟩))
          go_wp2_with fail
          go_roundw
          case rel => exact ⟨k + 1, _, _, _, by go_num, by omega, HE⟩
          case measure => simp [intOf]; omega
      · have HB : Hid (Below w.heap.size w wr) := Lib.hid HQ.out.1.frame
        have hlt' : decide ((k : Int) < (m1 : Int)) = false := by simp; omega
        clear HQ
        go_wp2_with fail
        go_ret
        exact ⟨rfl, HB.out⟩
  · unfold SeedP at hP1
    rw [if_neg hcond] at hP1
    obtain ⟨rfl, -⟩ := hP1
    have HC := Lib.hid hcond
    clear hcond
    go_wp2_with fail
    refine (KO.out _ (by omega) HB3.out).mono ?_
    rintro e w4 ⟨A4, c4, rfl, hT4, hb34⟩
    have HB4 := Lib.hid (HB3.out.trans (hb34.mono HB3.out.size))
    have KR := rseed_p t f0 b A4 n c4 l w4 HN.out.1 (by omega) hT4
    rw [HN.out.1]
    have KR := Lib.hid KR
    clear hT4 hb34 KO
    go_wp2_with fail
    refine KR.out.mono ?_
    rintro e w5 hP2
    unfold RSPost at hP2
    rw [if_neg HC.out] at hP2
    obtain ⟨rfl, hb45⟩ := hP2
    have HB5 := Lib.hid (HB4.out.trans (hb45.mono HB4.out.size))
    clear hb45 KR
    go_wp2_with fail
    go_ret
    exact ⟨rfl, HB5.out⟩
end Go.Proofs.YtancneebbellnaaGreatDoor.Po
