/- policy's seed, Seed, New, Good, Name, Held. -/
import Derived.Test.YtancneebbellnaaGreatDoorJc
import Derived.Test.YtancneebbellnaaGreatDoorJt
namespace Go.Proofs.YtancneebbellnaaGreatDoor.Po
open Go.RowKit Go.Maps

abbrev SdOk (base f0 : Int) (l : List RI) : Prop := goodV f0 l = true ∧ -1152921504606846976 ≤ base ∧ base ≤ 1152921504606846976
instance (t : Int) : Decidable (Tag t) := inferInstanceAs (Decidable (t = 0 ∨ t = 1 ∨ t = 2))
/-- What seed answers, of a good form. -/
def GYes (t base f0 : Int) (l : List RI) (w : World) (e : Ending) (w' : World) : Prop :=
  ∃ s B st, e = .returned (.tuple #[.iface (tyP t) (.pointer (some ⟨s, 0, none⟩)), .int .i64 0]) ∧ IsG t w' s B st base f0 (seedU base l) ∧ 0 ≤ st ∧ st ≤ 4000 ∧ (∀ k, B k → w.heap.size ≤ k) ∧ Below w.heap.size w w'
/-- .. of another. -/
def GNo (w : World) (e : Ending) (w' : World) : Prop := ∃ v, e = .returned (.tuple #[v, .int .i64 1]) ∧ Below w.heap.size w w'
/-- What Seed answers. -/
def SeedP (t base f0 : Int) (l : List RI) (w : World) (e : Ending) (w' : World) : Prop :=
  if Tag t ∧ SdOk base f0 l then
    ∃ p A st, e = .returned (.tuple #[.pointer (some ⟨p, 0, none⟩), .int .i64 0]) ∧ IsW t w' p A st base f0 (seedU base l) ∧ 0 ≤ st ∧ st ≤ 4000 ∧ (∀ k, A k → w.heap.size ≤ k) ∧ Below w.heap.size w w'
  else e = .returned (.tuple #[.pointer none, .int .i64 1]) ∧ Below w.heap.size w w'
theorem pgood_k (t : Int) (w : World) : Calls Tryz.prog 11 #[.int .i64 t] w fun e w' => e = .returned (.bool (decide (Tag t))) ∧ w = w' := by
  have hi : Tag t ↔ 0 ≤ t ∧ t < 3 := by unfold Tag; omega
  have hd : decide (Tag t) = (decide (0 ≤ t) && decide (t < 3)) := by
    by_cases h1 : 0 ≤ t
    · by_cases h2 : t < 3
      · rw [decide_eq_true (hi.2 ⟨h1, h2⟩), decide_eq_true h1, decide_eq_true h2]; rfl
      · rw [decide_eq_false (fun h => h2 (hi.1 h).2), decide_eq_false h2, Bool.and_false]
    · rw [decide_eq_false (fun h => h1 (hi.1 h).1), decide_eq_false h1, Bool.false_and]
  rw [hd]
  clear hd hi
  go_enter Tryz.func11, Tryz.ntmps11
  by_cases h1 : 0 ≤ t
  · by_cases h2 : t < 3
    · go_wp2_with fail
      go_ret
      exact ⟨by rw [decide_eq_true h1, decide_eq_true h2]; rfl, rfl⟩
    · go_wp2_with fail
      go_ret
      exact ⟨by rw [show decide (t < 3) = false from decide_eq_false (by omega)]; rfl, rfl⟩
  · go_wp2_with fail
    go_ret
    exact ⟨by rw [show decide (0 ≤ t) = false from decide_eq_false (by omega), Bool.false_and]; rfl, rfl⟩

section
variable (f0 base : Int) (A : Option Addr) (n c : Nat) (l : List RI) (w : World)
set_option maxRecDepth 100000 in
set_option maxHeartbeats 2000000 in
theorem gseed0_yes (hn : l.length = n) (hl : n ≤ 4611686018427387904) (hr : TRow w A l) (hg : SdOk base f0 l) :
    Calls Tryz.prog 38 #[.int .i64 0, .agg #[.int .i64 f0, .slice A n c], .int .i64 base] w (GYes 0 base f0 l w) := by
  have hb1 : Below w.heap.size w (w.alloc (.cells #[.int .i64 f0, .slice A n c] 30)) := (Below.refl _ w).alloc (Nat.le_refl _) _
  have hf1 : FoAt (w.alloc (.cells #[.int .i64 f0, .slice A n c] 30)) w.heap.size f0 A n c := heap_alloc_new w _
  obtain ⟨w0, hw0⟩ : ∃ w0, w.alloc (.cells #[.int .i64 f0, .slice A n c] 30) = w0 := ⟨_, rfl⟩
  have hs1 : w0.heap.size = w.heap.size + 1 := by rw [← hw0]; simp
  rw [hw0] at hb1 hf1
  obtain ⟨d0, d1, -, -⟩ := FoAt.cells hf1
  have K0 := St.sseed_c f0 base A n c l w0 hn hl (hr.below hb1 (Nat.le_refl _))
  have HB1 := Lib.hid (And.intro hb1 hs1)
  unfold St.SeedPost at K0
  have K := Lib.hid (K0.mono (fun e w' h => by rw [if_pos hg] at h; exact h))
  clear hg hn hl hr hb1 hf1 hs1 K0
  go_enter Tryz.func38, Tryz.ntmps38
  go_wp2_with fail
  refine K.out.mono ?_
  rintro e w1 ⟨s, B, st, rfl, hq, s1, s2, hn, hb⟩
  have hz : w.heap.size ≤ w0.heap.size := HB1.out.1.size
  have FIN : Hid (IsG 0 w1 s B st base f0 (seedU base l) ∧ 0 ≤ st ∧ st ≤ 4000 ∧ (∀ k, B k → w.heap.size ≤ k) ∧ Below w.heap.size w w1) := by
    rw [← seedU_cut] at hq
    exact Lib.hid ⟨.inl ⟨rfl, hq⟩, s1, by omega, fun k hk => Nat.le_trans hz (hn k hk), HB1.out.1.trans (hb.mono hz)⟩
  clear hq s1 s2 hn hb hz K d0 d1
  go_wp2_with fail
  go_ret2
  exact ⟨_, _, _, rfl, FIN.out⟩
set_option maxRecDepth 100000 in
set_option maxHeartbeats 2000000 in
theorem gseed0_no (hn : l.length = n) (hl : n ≤ 4611686018427387904) (hr : TRow w A l) (hg : ¬ SdOk base f0 l) :
    Calls Tryz.prog 38 #[.int .i64 0, .agg #[.int .i64 f0, .slice A n c], .int .i64 base] w (GNo w) := by
  have hb1 : Below w.heap.size w (w.alloc (.cells #[.int .i64 f0, .slice A n c] 30)) := (Below.refl _ w).alloc (Nat.le_refl _) _
  have hf1 : FoAt (w.alloc (.cells #[.int .i64 f0, .slice A n c] 30)) w.heap.size f0 A n c := heap_alloc_new w _
  obtain ⟨w0, hw0⟩ : ∃ w0, w.alloc (.cells #[.int .i64 f0, .slice A n c] 30) = w0 := ⟨_, rfl⟩
  have hs1 : w0.heap.size = w.heap.size + 1 := by rw [← hw0]; simp
  rw [hw0] at hb1 hf1
  obtain ⟨d0, d1, -, -⟩ := FoAt.cells hf1
  have K0 := St.sseed_c f0 base A n c l w0 hn hl (hr.below hb1 (Nat.le_refl _))
  have HB1 := Lib.hid (And.intro hb1 hs1)
  unfold St.SeedPost at K0
  have K := Lib.hid (K0.mono (fun e w' h => by rw [if_neg hg] at h; exact h))
  clear hg hn hl hr hb1 hf1 hs1 K0
  go_enter Tryz.func38, Tryz.ntmps38
  go_wp2_with fail
  refine K.out.mono ?_
  rintro e w1 ⟨rfl, hb⟩
  have FIN := Lib.hid (HB1.out.1.trans (hb.mono HB1.out.1.size))
  clear hb K d0 d1
  go_wp2_with fail
  go_ret2
  exact ⟨_, rfl, FIN.out⟩
set_option maxRecDepth 100000 in
set_option maxHeartbeats 2000000 in
theorem gseed1_yes (hn : l.length = n) (hl : n ≤ 4611686018427387904) (hr : TRow w A l) (hg : SdOk base f0 l) :
    Calls Tryz.prog 38 #[.int .i64 1, .agg #[.int .i64 f0, .slice A n c], .int .i64 base] w (GYes 1 base f0 l w) := by
  have hb1 : Below w.heap.size w (w.alloc (.cells #[.int .i64 f0, .slice A n c] 30)) := (Below.refl _ w).alloc (Nat.le_refl _) _
  have hf1 : FoAt (w.alloc (.cells #[.int .i64 f0, .slice A n c] 30)) w.heap.size f0 A n c := heap_alloc_new w _
  obtain ⟨w0, hw0⟩ : ∃ w0, w.alloc (.cells #[.int .i64 f0, .slice A n c] 30) = w0 := ⟨_, rfl⟩
  have hs1 : w0.heap.size = w.heap.size + 1 := by rw [← hw0]; simp
  rw [hw0] at hb1 hf1
  obtain ⟨d0, d1, -, -⟩ := FoAt.cells hf1
  have K0 := Fa.sseed_c f0 base A n c l w0 hn hl (hr.below hb1 (Nat.le_refl _))
  have HB1 := Lib.hid (And.intro hb1 hs1)
  unfold Fa.SeedPost at K0
  have K := Lib.hid (K0.mono (fun e w' h => by rw [if_pos hg] at h; exact h))
  clear hg hn hl hr hb1 hf1 hs1 K0
  go_enter Tryz.func38, Tryz.ntmps38
  go_wp2_with fail
  refine K.out.mono ?_
  rintro e w1 ⟨s, B, st, rfl, hq, s1, s2, hn, hb⟩
  have hz : w.heap.size ≤ w0.heap.size := HB1.out.1.size
  have FIN : Hid (IsG 1 w1 s B st base f0 (seedU base l) ∧ 0 ≤ st ∧ st ≤ 4000 ∧ (∀ k, B k → w.heap.size ≤ k) ∧ Below w.heap.size w w1) := by
    rw [← seedU_cut] at hq
    exact Lib.hid ⟨.inr (.inl ⟨rfl, hq⟩), s1, by omega, fun k hk => Nat.le_trans hz (hn k hk), HB1.out.1.trans (hb.mono hz)⟩
  clear hq s1 s2 hn hb hz K d0 d1
  go_wp2_with fail
  go_ret2
  exact ⟨_, _, _, rfl, FIN.out⟩
set_option maxRecDepth 100000 in
set_option maxHeartbeats 2000000 in
theorem gseed1_no (hn : l.length = n) (hl : n ≤ 4611686018427387904) (hr : TRow w A l) (hg : ¬ SdOk base f0 l) :
    Calls Tryz.prog 38 #[.int .i64 1, .agg #[.int .i64 f0, .slice A n c], .int .i64 base] w (GNo w) := by
  have hb1 : Below w.heap.size w (w.alloc (.cells #[.int .i64 f0, .slice A n c] 30)) := (Below.refl _ w).alloc (Nat.le_refl _) _
  have hf1 : FoAt (w.alloc (.cells #[.int .i64 f0, .slice A n c] 30)) w.heap.size f0 A n c := heap_alloc_new w _
  obtain ⟨w0, hw0⟩ : ∃ w0, w.alloc (.cells #[.int .i64 f0, .slice A n c] 30) = w0 := ⟨_, rfl⟩
  have hs1 : w0.heap.size = w.heap.size + 1 := by rw [← hw0]; simp
  rw [hw0] at hb1 hf1
  obtain ⟨d0, d1, -, -⟩ := FoAt.cells hf1
  have K0 := Fa.sseed_c f0 base A n c l w0 hn hl (hr.below hb1 (Nat.le_refl _))
  have HB1 := Lib.hid (And.intro hb1 hs1)
  unfold Fa.SeedPost at K0
  have K := Lib.hid (K0.mono (fun e w' h => by rw [if_neg hg] at h; exact h))
  clear hg hn hl hr hb1 hf1 hs1 K0
  go_enter Tryz.func38, Tryz.ntmps38
  go_wp2_with fail
  refine K.out.mono ?_
  rintro e w1 ⟨rfl, hb⟩
  have FIN := Lib.hid (HB1.out.1.trans (hb.mono HB1.out.1.size))
  clear hb K d0 d1
  go_wp2_with fail
  go_ret2
  exact ⟨_, rfl, FIN.out⟩
set_option maxRecDepth 100000 in
set_option maxHeartbeats 2000000 in
theorem gseed2_yes (hn : l.length = n) (hl : n ≤ 4611686018427387904) (hr : TRow w A l) (hg : SdOk base f0 l) :
    Calls Tryz.prog 38 #[.int .i64 2, .agg #[.int .i64 f0, .slice A n c], .int .i64 base] w (GYes 2 base f0 l w) := by
  have hb1 : Below w.heap.size w (w.alloc (.cells #[.int .i64 f0, .slice A n c] 30)) := (Below.refl _ w).alloc (Nat.le_refl _) _
  have hf1 : FoAt (w.alloc (.cells #[.int .i64 f0, .slice A n c] 30)) w.heap.size f0 A n c := heap_alloc_new w _
  obtain ⟨w0, hw0⟩ : ∃ w0, w.alloc (.cells #[.int .i64 f0, .slice A n c] 30) = w0 := ⟨_, rfl⟩
  have hs1 : w0.heap.size = w.heap.size + 1 := by rw [← hw0]; simp
  rw [hw0] at hb1 hf1
  obtain ⟨d0, d1, -, -⟩ := FoAt.cells hf1
  have K0 := sseed_c f0 base A n c l w0 hn hl (hr.below hb1 (Nat.le_refl _))
  have HB1 := Lib.hid (And.intro hb1 hs1)
  unfold SeedPost at K0
  have K := Lib.hid (K0.mono (fun e w' h => by rw [if_pos hg] at h; exact h))
  clear hg hn hl hr hb1 hf1 hs1 K0
  go_enter Tryz.func38, Tryz.ntmps38
  go_wp2_with fail
  refine K.out.mono ?_
  rintro e w1 ⟨s, B, st, rfl, hq, s1, s2, hn, hb⟩
  have hz : w.heap.size ≤ w0.heap.size := HB1.out.1.size
  have FIN : Hid (IsG 2 w1 s B st base f0 (seedU base l) ∧ 0 ≤ st ∧ st ≤ 4000 ∧ (∀ k, B k → w.heap.size ≤ k) ∧ Below w.heap.size w w1) := by
    exact Lib.hid ⟨.inr (.inr ⟨rfl, hq⟩), s1, by omega, fun k hk => Nat.le_trans hz (hn k hk), HB1.out.1.trans (hb.mono hz)⟩
  clear hq s1 s2 hn hb hz K d0 d1
  go_wp2_with fail
  go_ret2
  exact ⟨_, _, _, rfl, FIN.out⟩
set_option maxRecDepth 100000 in
set_option maxHeartbeats 2000000 in
theorem gseed2_no (hn : l.length = n) (hl : n ≤ 4611686018427387904) (hr : TRow w A l) (hg : ¬ SdOk base f0 l) :
    Calls Tryz.prog 38 #[.int .i64 2, .agg #[.int .i64 f0, .slice A n c], .int .i64 base] w (GNo w) := by
  have hb1 : Below w.heap.size w (w.alloc (.cells #[.int .i64 f0, .slice A n c] 30)) := (Below.refl _ w).alloc (Nat.le_refl _) _
  have hf1 : FoAt (w.alloc (.cells #[.int .i64 f0, .slice A n c] 30)) w.heap.size f0 A n c := heap_alloc_new w _
  obtain ⟨w0, hw0⟩ : ∃ w0, w.alloc (.cells #[.int .i64 f0, .slice A n c] 30) = w0 := ⟨_, rfl⟩
  have hs1 : w0.heap.size = w.heap.size + 1 := by rw [← hw0]; simp
  rw [hw0] at hb1 hf1
  obtain ⟨d0, d1, -, -⟩ := FoAt.cells hf1
  have K0 := sseed_c f0 base A n c l w0 hn hl (hr.below hb1 (Nat.le_refl _))
  have HB1 := Lib.hid (And.intro hb1 hs1)
  unfold SeedPost at K0
  have K := Lib.hid (K0.mono (fun e w' h => by rw [if_neg hg] at h; exact h))
  clear hg hn hl hr hb1 hf1 hs1 K0
  go_enter Tryz.func38, Tryz.ntmps38
  go_wp2_with fail
  refine K.out.mono ?_
  rintro e w1 ⟨rfl, hb⟩
  have FIN := Lib.hid (HB1.out.1.trans (hb.mono HB1.out.1.size))
  clear hb K d0 d1
  go_wp2_with fail
  go_ret2
  exact ⟨_, rfl, FIN.out⟩
set_option maxRecDepth 100000 in
set_option maxHeartbeats 2000000 in
theorem gseed_bad (t : Int) (ht : ¬ Tag t) :
    Calls Tryz.prog 38 #[.int .i64 t, .agg #[.int .i64 f0, .slice A n c], .int .i64 base] w (GNo w) := by
  have hb1 : Below w.heap.size w (w.alloc (.cells #[.int .i64 f0, .slice A n c] 30)) := (Below.refl _ w).alloc (Nat.le_refl _) _
  have HB := Lib.hid hb1
  have e0 : (t == 0) = false := by simp; exact fun h => ht (.inl h)
  have e1 : (t == 1) = false := by simp; exact fun h => ht (.inr (.inl h))
  have e2 : (t == 2) = false := by simp; exact fun h => ht (.inr (.inr h))
  clear hb1 ht
  go_enter Tryz.func38, Tryz.ntmps38
  go_wp2_with fail
  go_ret2
  exact ⟨_, rfl, HB.out⟩
theorem gseed_yes (t : Int) (hn : l.length = n) (hl : n ≤ 4611686018427387904) (hr : TRow w A l) (ht : Tag t) (hg : SdOk base f0 l) :
    Calls Tryz.prog 38 #[.int .i64 t, .agg #[.int .i64 f0, .slice A n c], .int .i64 base] w (GYes t base f0 l w) := by
  rcases ht with rfl | rfl | rfl
  · exact gseed0_yes f0 base A n c l w hn hl hr hg
  · exact gseed1_yes f0 base A n c l w hn hl hr hg
  · exact gseed2_yes f0 base A n c l w hn hl hr hg
theorem gseed_no (t : Int) (hn : l.length = n) (hl : n ≤ 4611686018427387904) (hr : TRow w A l) (h : ¬ (Tag t ∧ SdOk base f0 l)) :
    Calls Tryz.prog 38 #[.int .i64 t, .agg #[.int .i64 f0, .slice A n c], .int .i64 base] w (GNo w) := by
  by_cases ht : Tag t
  · have hg : ¬ SdOk base f0 l := fun hg => h ⟨ht, hg⟩
    rcases ht with rfl | rfl | rfl
    · exact gseed0_no f0 base A n c l w hn hl hr hg
    · exact gseed1_no f0 base A n c l w hn hl hr hg
    · exact gseed2_no f0 base A n c l w hn hl hr hg
  · exact gseed_bad f0 base A n c w t ht

set_option maxRecDepth 100000 in
set_option maxHeartbeats 2000000 in
theorem sseed_p (t : Int) (hn : l.length = n) (hl : n ≤ 4611686018427387904) (hr : TRow w A l) :
    Calls Tryz.prog 10 #[.int .i64 t, .agg #[.int .i64 f0, .slice A n c], .int .i64 base] w (SeedP t base f0 l w) := by
  have hb1 : Below w.heap.size w (w.alloc (.cells #[.int .i64 f0, .slice A n c] 30)) := (Below.refl _ w).alloc (Nat.le_refl _) _
  have hf1 : FoAt (w.alloc (.cells #[.int .i64 f0, .slice A n c] 30)) w.heap.size f0 A n c := heap_alloc_new w _
  obtain ⟨w0, hw0⟩ : ∃ w0, w.alloc (.cells #[.int .i64 f0, .slice A n c] 30) = w0 := ⟨_, rfl⟩
  have hs1 : w0.heap.size = w.heap.size + 1 := by rw [← hw0]; simp
  rw [hw0] at hb1 hf1
  obtain ⟨d0, d1, -, -⟩ := FoAt.cells hf1
  have HB1 := Lib.hid (And.intro hb1 hs1)
  by_cases hg : Tag t ∧ SdOk base f0 l
  · refine Calls.mono (?_ : Calls _ _ _ _ (fun e w' => ∃ p A st, e = .returned (.tuple #[.pointer (some ⟨p, 0, none⟩), .int .i64 0]) ∧ IsW t w' p A st base f0 (seedU base l) ∧ 0 ≤ st ∧ st ≤ 4000 ∧ (∀ k, A k → w.heap.size ≤ k) ∧ Below w.heap.size w w')) (fun e w' h => by unfold SeedP; rw [if_pos hg]; exact h)
    have K := Lib.hid (gseed_yes f0 base A n c l w0 t hn hl (hr.below hb1 (Nat.le_refl _)) hg.1 hg.2)
    clear hg hn hl hr hb1 hf1 hs1
    go_enter Tryz.func10, Tryz.ntmps10
    go_wp2_with fail
    refine K.out.mono ?_
    rintro e w1 ⟨s, B, st, rfl, hq, s1, s2, hn, hb⟩
    have hz : w.heap.size ≤ w0.heap.size := HB1.out.1.size
    have hbw : Below w.heap.size w w1 := HB1.out.1.trans (hb.mono hz)
    have hb2 : Below w1.heap.size w1 (w1.alloc (.cells #[.int .i64 t, .iface (tyP t) (.pointer (some ⟨s, 0, none⟩))] 79)) := (Below.refl _ w1).alloc (Nat.le_refl _) _
    have FIN : Hid (IsW t (w1.alloc (.cells #[.int .i64 t, .iface (tyP t) (.pointer (some ⟨s, 0, none⟩))] 79)) w1.heap.size (fun k => k = w1.heap.size ∨ B k) st base f0 (seedU base l) ∧ 0 ≤ st ∧ st ≤ 4000 ∧ (∀ k, (k = w1.heap.size ∨ B k) → w.heap.size ≤ k) ∧ Below w.heap.size w (w1.alloc (.cells #[.int .i64 t, .iface (tyP t) (.pointer (some ⟨s, 0, none⟩))] 79))) :=
      Lib.hid ⟨⟨s, B, World.alloc_heap_new w1 _, hq.keep (fun k hk => hb2.block k (hq.lt k hk)), fun hh => by have := hq.lt _ hh; omega, fun _ => Iff.rfl⟩, s1, s2, fun k hk => by
        rcases hk with rfl | hk
        · exact hbw.size
        · exact Nat.le_trans hz (hn k hk), hbw.trans (hb2.mono hbw.size)⟩
    clear hq hn hb hb2 K s1 s2 hz hbw d0 d1
    go_wp2_with fail
    go_ret2
    exact ⟨_, _, _, rfl, FIN.out⟩
  · refine Calls.mono (?_ : Calls _ _ _ _ (fun e w' => e = .returned (.tuple #[.pointer none, .int .i64 1]) ∧ Below w.heap.size w w')) (fun e w' h => by unfold SeedP; rw [if_neg hg]; exact h)
    have K := Lib.hid (gseed_no f0 base A n c l w0 t hn hl (hr.below hb1 (Nat.le_refl _)) hg)
    clear hg hn hl hr hb1 hf1 hs1
    go_enter Tryz.func10, Tryz.ntmps10
    go_wp2_with fail
    refine K.out.mono ?_
    rintro e w1 ⟨v, rfl, hb⟩
    have HB := Lib.hid (HB1.out.1.trans (hb.mono HB1.out.1.size))
    clear hb K d0 d1
    go_wp2_with fail
    go_ret2
    exact ⟨rfl, HB.out⟩
end
theorem good_none : goodV (-1) [] = true := by decide +kernel
set_option maxRecDepth 100000 in
set_option maxHeartbeats 2000000 in
/-- New: a queue of none. -/
theorem pnew_p (t base : Int) (w : World) :
    Calls Tryz.prog 9 #[.int .i64 t, .int .i64 base] w (SeedP t base (-1) [] w) := by
  have K0 := sseed_p (-1) base none 0 0 [] w t rfl (by omega) TRow.nil
  by_cases hg : Tag t ∧ SdOk base (-1) []
  · refine Calls.mono (?_ : Calls _ _ _ _ (fun e w' => ∃ p A st, e = .returned (.tuple #[.pointer (some ⟨p, 0, none⟩), .int .i64 0]) ∧ IsW t w' p A st base (-1) (seedU base []) ∧ 0 ≤ st ∧ st ≤ 4000 ∧ (∀ k, A k → w.heap.size ≤ k) ∧ Below w.heap.size w w')) (fun e w' h => by unfold SeedP; rw [if_pos hg]; exact h)
    have K := Lib.hid (K0.mono (fun e w' h => by unfold SeedP at h; rw [if_pos hg] at h; exact h))
    clear hg K0
    go_enter Tryz.func9, Tryz.ntmps9
    go_wp2_with fail
    refine K.out.mono ?_
    rintro e w1 ⟨s, B, st, rfl, hq⟩
    have HQ := Lib.hid hq
    clear hq K
    go_wp2_with fail
    go_ret2
    exact ⟨_, _, _, rfl, HQ.out⟩
  · refine Calls.mono (?_ : Calls _ _ _ _ (fun e w' => e = .returned (.tuple #[.pointer none, .int .i64 1]) ∧ Below w.heap.size w w')) (fun e w' h => by unfold SeedP; rw [if_neg hg]; exact h)
    have K := Lib.hid (K0.mono (fun e w' h => by unfold SeedP at h; rw [if_neg hg] at h; exact h))
    clear hg K0
    go_enter Tryz.func9, Tryz.ntmps9
    go_wp2_with fail
    refine K.out.mono ?_
    rintro e w1 ⟨rfl, hb⟩
    have HB := Lib.hid hb
    clear hb K
    go_wp2_with fail
    go_ret2
    exact ⟨rfl, HB.out⟩

/-- What a policy is called. -/
def nameP (t : Int) : ByteArray := if t = 0 then bS else if t = 1 then bF else if t = 2 then bD else ⟨#[63]⟩
set_option maxRecDepth 100000 in
set_option maxHeartbeats 2000000 in
theorem pname_k (t : Int) (w : World) (hk : Kinds w) : Calls Tryz.prog 12 #[.int .i64 t] w fun e w' => e = .returned (.string (nameP t)) ∧ w = w' := by
  obtain ⟨ty, fr, hk⟩ := hk
  have K := Lib.hid (pgood_k t w)
  have c0 : w.cell? ⟨0, 0, none⟩ = some (.string bS) := by simp [World.cell?, hk]
  have c3 : w.cell? ⟨0, 3, none⟩ = some (.string bF) := by simp [World.cell?, hk]
  have c6 : w.cell? ⟨0, 6, none⟩ = some (.string bD) := by simp [World.cell?, hk]
  clear hk
  by_cases ht : Tag t
  · rw [decide_eq_true ht] at K
    rcases ht with rfl | rfl | rfl
    · have e : nameP 0 = bS := rfl
      rw [e]
      go_enter Tryz.func12, Tryz.ntmps12
      go_wp2_with fail
      refine K.out.mono ?_
      rintro e w' ⟨rfl, rfl⟩
      go_wp2_with fail
      go_ret
      exact ⟨rfl, rfl⟩
    · have e : nameP 1 = bF := rfl
      rw [e]
      go_enter Tryz.func12, Tryz.ntmps12
      go_wp2_with fail
      refine K.out.mono ?_
      rintro e w' ⟨rfl, rfl⟩
      go_wp2_with fail
      go_ret
      exact ⟨rfl, rfl⟩
    · have e : nameP 2 = bD := rfl
      rw [e]
      go_enter Tryz.func12, Tryz.ntmps12
      go_wp2_with fail
      refine K.out.mono ?_
      rintro e w' ⟨rfl, rfl⟩
      go_wp2_with fail
      go_ret
      exact ⟨rfl, rfl⟩
  · rw [decide_eq_false ht] at K
    have e : nameP t = ⟨#[63]⟩ := by
      unfold nameP
      rw [if_neg (fun h => ht (.inl h)), if_neg (fun h => ht (.inr (.inl h))), if_neg (fun h => ht (.inr (.inr h)))]
    rw [e]
    go_enter Tryz.func12, Tryz.ntmps12
    go_wp2_with fail
    refine K.out.mono ?_
    rintro e w' ⟨rfl, rfl⟩
    go_wp2_with fail
    go_ret
    exact ⟨rfl, rfl⟩
theorem held_of (t x a b : Int) (hx : wf64 x) (h : (t = 0 ∧ a = -9223372036854775808 ∧ b = 0) ∨ (t = 1 ∧ a = -9223372036854775808 ∧ b = 698377680) ∨ (t = 2 ∧ a = -698377680 ∧ b = 698377680)) : min (max x a) b = heldP t x := by
  have h1 : -9223372036854775808 ≤ x := by
    unfold wf64 at hx
    simp [Lit.wf, IntKind.min, IntKind.max, IntKind.signed, IntKind.bits] at hx
    exact hx.1
  unfold heldP
  rcases h with ⟨rfl, rfl, rfl⟩ | ⟨rfl, rfl, rfl⟩ | ⟨rfl, rfl, rfl⟩
  · rw [if_pos rfl]; omega
  · rw [if_neg (by decide), if_pos rfl]; omega
  · rw [if_neg (by decide), if_neg (by decide)]
set_option maxRecDepth 100000 in
set_option maxHeartbeats 2000000 in
theorem pheld_k {t : Int} {w : World} {p : Nat} {A : Nat → Prop} {st base cur : Int} {T : List TI} (x : Int) (hx : wf64 x) (h : IsW t w p A st base cur T) (hk : Kinds w) :
    Calls Tryz.prog 13 #[.pointer (some ⟨p, 0, none⟩), .int .i64 x] w fun e w' => e = .returned (.int .i64 (heldP t x)) ∧ Below w.heap.size w w' := by
  have ht := h.tag
  have d0 := h.cell0
  obtain ⟨ty, fr, hk⟩ := hk
  clear h
  rcases ht with rfl | rfl | rfl
  · rw [← held_of 0 x (-9223372036854775808) 0 hx (.inl ⟨rfl, rfl, rfl⟩)]
    have e3 : w.cell? ⟨0, 0, none⟩ = some (.string bS) := by simp [World.cell?, hk]
    have e4 : w.cell? ⟨0, 1, none⟩ = some (.int .i64 (-9223372036854775808)) := by simp [World.cell?, hk]
    have e5 : w.cell? ⟨0, 2, none⟩ = some (.int .i64 0) := by simp [World.cell?, hk]
    clear hk hx
    go_enter Tryz.func13, Tryz.ntmps13
    go_wp2_with fail
    go_ret
    exact ⟨rfl, (Below.refl _ w).alloc (Nat.le_refl _) _⟩
  · rw [← held_of 1 x (-9223372036854775808) 698377680 hx (.inr (.inl ⟨rfl, rfl, rfl⟩))]
    have e3 : w.cell? ⟨0, 3, none⟩ = some (.string bF) := by simp [World.cell?, hk]
    have e4 : w.cell? ⟨0, 4, none⟩ = some (.int .i64 (-9223372036854775808)) := by simp [World.cell?, hk]
    have e5 : w.cell? ⟨0, 5, none⟩ = some (.int .i64 698377680) := by simp [World.cell?, hk]
    clear hk hx
    go_enter Tryz.func13, Tryz.ntmps13
    go_wp2_with fail
    go_ret
    exact ⟨rfl, (Below.refl _ w).alloc (Nat.le_refl _) _⟩
  · rw [← held_of 2 x (-698377680) 698377680 hx (.inr (.inr ⟨rfl, rfl, rfl⟩))]
    have e3 : w.cell? ⟨0, 6, none⟩ = some (.string bD) := by simp [World.cell?, hk]
    have e4 : w.cell? ⟨0, 7, none⟩ = some (.int .i64 (-698377680)) := by simp [World.cell?, hk]
    have e5 : w.cell? ⟨0, 8, none⟩ = some (.int .i64 698377680) := by simp [World.cell?, hk]
    clear hk hx
    go_enter Tryz.func13, Tryz.ntmps13
    go_wp2_with fail
    go_ret
    exact ⟨rfl, (Below.refl _ w).alloc (Nat.le_refl _) _⟩
end Go.Proofs.YtancneebbellnaaGreatDoor.Po
