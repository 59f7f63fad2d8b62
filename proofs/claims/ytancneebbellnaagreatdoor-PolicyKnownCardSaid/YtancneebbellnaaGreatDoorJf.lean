/- fair's queue: a cell that points at a queue of points; what it is in, its calls, as a law makes it. -/
import Derived.Test.YtancneebbellnaaGreatDoorSi
namespace Go.Proofs.YtancneebbellnaaGreatDoor.Fa
open Go.RowKit Go.Maps

def OBox (w : World) (o s : Nat) : Prop := w.heap[o]? = some (.cells #[.pointer (some ⟨s, 0, none⟩)] 116 (0, 0))
theorem OBox.lt {w : World} {o s : Nat} (h : OBox w o s) : o < w.heap.size := (Array.getElem?_eq_some_iff.1 h).1
theorem OBox.cell {w : World} {o s : Nat} (h : OBox w o s) : w.cell? ⟨o, 0, none⟩ = some (.pointer (some ⟨s, 0, none⟩)) := by simp [World.cell?, show w.heap[o]? = _ from h]
theorem OBox.keep {w w' : World} {o s : Nat} (h : OBox w o s) (hs : w'.heap[o]? = w.heap[o]?) : OBox w' o s := hs.trans h

/-- Block o is a queue; A: its blocks. -/
def IsK (w : World) (o : Nat) (A : Nat → Prop) (st base cur : Int) (R : List RI) : Prop :=
  ∃ s b mp mw v L, OBox w o s ∧ IsS w s b mp mw v st base cur L R ∧ ¬ SOf s b mp mw v o ∧ ∀ k, A k ↔ (k = o ∨ SOf s b mp mw v k)
/-- What is left behind a call. -/
def KPost (o : Nat) (A : Nat → Prop) (st base cur : Int) (R : List RI) (K : Nat) (w w' : World) : Prop :=
  ∃ A', ∃ k : Nat, k ≤ K ∧ IsK w' o A' (st + (k : Int)) base cur R ∧ Trip A w A' w'
section
variable {w w' : World} {o : Nat} {A : Nat → Prop} {st base cur : Int} {R : List RI}
theorem IsK.wf (h : IsK w o A st base cur R) : WfS base cur R := by
  obtain ⟨s, b, mp, mw, v, L, h1, h2, h3, h4⟩ := h
  exact h2.wf
theorem IsK.self_of (h : IsK w o A st base cur R) : A o := by
  obtain ⟨s, b, mp, mw, v, L, h1, h2, h3, h4⟩ := h
  exact (h4 o).2 (.inl rfl)
theorem IsK.lt (h : IsK w o A st base cur R) : ∀ k, A k → k < w.heap.size := by
  obtain ⟨s, b, mp, mw, v, L, h1, h2, h3, h4⟩ := h
  intro k hk
  rcases (h4 k).1 hk with rfl | hk
  · exact h1.lt
  · exact h2.lt k hk
theorem IsK.keep (h : IsK w o A st base cur R) (hs : ∀ k, A k → w'.heap[k]? = w.heap[k]?) : IsK w' o A st base cur R := by
  obtain ⟨s, b, mp, mw, v, L, h1, h2, h3, h4⟩ := h
  exact ⟨s, b, mp, mw, v, L, h1.keep (hs o ((h4 o).2 (.inl rfl))), h2.keep (fun k hk => hs k ((h4 k).2 (.inr hk))), h3, h4⟩
theorem IsK.below (h : IsK w o A st base cur R) (hb : Below w.heap.size w w') : IsK w' o A st base cur R := h.keep (fun k hk => hb.block k (h.lt k hk))
theorem IsK.self (h : IsK w o A st base cur R) (hb : Below w.heap.size w w') : Trip A w A w' := below_trip hb h.lt
theorem KPost.same {K : Nat} (h : IsK w o A st base cur R) (hb : Below w.heap.size w w') : KPost o A st base cur R K w w' :=
  ⟨A, 0, Nat.zero_le _, by simpa using h.below hb, h.self hb⟩
theorem KPost.of {s b mp mw K : Nat} {v : Value} {base' cur' : Int} {L : List QI} {R' : List RI} (h1 : OBox w o s) (_h2 : IsS w s b mp mw v st base cur L R) (h3 : ¬ SOf s b mp mw v o) (h4 : ∀ k, A k ↔ (k = o ∨ SOf s b mp mw v k)) (hP : SPost s b mp mw v st base' cur' R' K w w') : KPost o A st base' cur' R' K w w' := by
  obtain ⟨v', L', k, hk, hq, ht⟩ := hP
  have ho := h1.lt
  have hz := ht.size
  refine ⟨fun j => j = o ∨ SOf s b mp mw v' j, k, hk, ⟨s, b, mp, mw, v', L', h1.keep (ht.block o ho h3), hq, fun hh => (ht.sub o hh).elim h3 (fun _ => by omega), fun _ => Iff.rfl⟩, ⟨ht.os, ht.tape, ht.output, hz, fun j hj hn => ht.block j hj (fun hh => hn ((h4 j).2 (.inr hh))), fun j hj => ?_, fun j hj => ?_⟩⟩
  · rcases hj with rfl | hj
    · exact .inl ((h4 _).2 (.inl rfl))
    · exact (ht.sub j hj).imp (fun hh => (h4 j).2 (.inr hh)) id
  · rcases hj with rfl | hj
    · omega
    · exact ht.bd j hj


set_option maxHeartbeats 1000000 in
theorem sput_k (x0 x1 x2 : Int) (w : World) (h : IsK w o A st base cur R) (b1 : -3900000000000000000 ≤ base) (b2 : base ≤ 3900000000000000000) (s1 : 0 ≤ st) (s2 : st < 1000000000000000) :
    Calls Tryz.prog 161 #[.pointer (some ⟨o, 0, none⟩), .int .i64 x0, .int .i64 x1, .int .i64 x2] w fun e w' => e = .returned (.int .i64 (putM base R (x0, x1, x2)).1) ∧ KPost o A st (putM base R (x0, x1, x2)).2.1 cur (putM base R (x0, x1, x2)).2.2 8 w w' := by
  obtain ⟨s, b, mp, mw, v, L, h1, h2, h3, h4⟩ := h
  have c0 := h1.cell
  have K := Lib.hid (sput_c x0 x1 x2 w h2 b1 b2 s1 s2)
  have POST := Lib.hid (fun w' (hP : SPost s b mp mw v st (putM base R (x0, x1, x2)).2.1 cur (putM base R (x0, x1, x2)).2.2 8 w w') => KPost.of h1 h2 h3 h4 hP)
  clear h1 h2 h3 h4
  go_enter Tryz.func161, Tryz.ntmps161
  go_wp2_with fail
  refine K.out.mono ?_
  rintro e w' ⟨rfl, hP⟩
  have HP := Lib.hid (POST.out _ hP)
  clear hP K POST
  go_wp2_with fail
  go_ret
  exact ⟨rfl, HP.out⟩

set_option maxHeartbeats 1000000 in
theorem sleave_k (id : Int) (w : World) (h : IsK w o A st base cur R) (hid : wf64 id) (s1 : 0 ≤ st) (s2 : st < 1000000000000000) :
    Calls Tryz.prog 159 #[.pointer (some ⟨o, 0, none⟩), .int .i64 id] w fun e w' => e = .returned (.tuple #[.int .i64 (leaveM base cur R id).1, .int .i64 (leaveM base cur R id).2.1]) ∧ KPost o A st (leaveM base cur R id).2.2.1 (leaveM base cur R id).2.2.2.1 (leaveM base cur R id).2.2.2.2 8 w w' := by
  obtain ⟨s, b, mp, mw, v, L, h1, h2, h3, h4⟩ := h
  have c0 := h1.cell
  have K := Lib.hid (sleave_c id w h2 hid s1 s2)
  have POST := Lib.hid (fun w' (hP : SPost s b mp mw v st (leaveM base cur R id).2.2.1 (leaveM base cur R id).2.2.2.1 (leaveM base cur R id).2.2.2.2 8 w w') => KPost.of h1 h2 h3 h4 hP)
  clear h1 h2 h3 h4
  go_enter Tryz.func159, Tryz.ntmps159
  go_wp2_with fail
  refine K.out.mono ?_
  rintro e w' ⟨rfl, hP⟩
  have HP := Lib.hid (POST.out _ hP)
  clear hP K POST
  go_wp2_with fail
  go_ret2
  exact ⟨rfl, HP.out⟩

set_option maxHeartbeats 1000000 in
theorem sweigh_k (id n : Int) (w : World) (h : IsK w o A st base cur R) (hid : wf64 id) (hn : wf64 n) :
    Calls Tryz.prog 162 #[.pointer (some ⟨o, 0, none⟩), .int .i64 id, .int .i64 n] w fun e w' => e = .returned (.int .i64 (weighM R id n).1) ∧ KPost o A st base cur (weighM R id n).2 0 w w' := by
  obtain ⟨s, b, mp, mw, v, L, h1, h2, h3, h4⟩ := h
  have c0 := h1.cell
  have K := Lib.hid (sweigh_c id n w h2 hid hn)
  have POST := Lib.hid (fun w' (hP : SPost s b mp mw v st base cur (weighM R id n).2 0 w w') => KPost.of h1 h2 h3 h4 hP)
  clear h1 h2 h3 h4
  go_enter Tryz.func162, Tryz.ntmps162
  go_wp2_with fail
  refine K.out.mono ?_
  rintro e w' ⟨rfl, hP⟩
  have HP := Lib.hid (POST.out _ hP)
  clear hP K POST
  go_wp2_with fail
  go_ret
  exact ⟨rfl, HP.out⟩

set_option maxHeartbeats 1000000 in
theorem scharge_k (w : World) (h : IsK w o A st base cur R) (s1 : 0 ≤ st) (s2 : st < 1000000000000000) :
    Calls Tryz.prog 156 #[.pointer (some ⟨o, 0, none⟩)] w fun e w' => e = .returned (.tuple #[.int .i64 (chargeM base cur R).1, .int .i64 (chargeM base cur R).2.1]) ∧ KPost o A st (chargeM base cur R).2.2.1 cur (chargeM base cur R).2.2.2 16 w w' := by
  obtain ⟨s, b, mp, mw, v, L, h1, h2, h3, h4⟩ := h
  have c0 := h1.cell
  have K := Lib.hid (scharge_c w h2 s1 s2)
  have POST := Lib.hid (fun w' (hP : SPost s b mp mw v st (chargeM base cur R).2.2.1 cur (chargeM base cur R).2.2.2 16 w w') => KPost.of h1 h2 h3 h4 hP)
  clear h1 h2 h3 h4
  go_enter Tryz.func156, Tryz.ntmps156
  go_wp2_with fail
  refine K.out.mono ?_
  rintro e w' ⟨rfl, hP⟩
  have HP := Lib.hid (POST.out _ hP)
  clear hP K POST
  go_wp2_with fail
  go_ret2
  exact ⟨rfl, HP.out⟩

set_option maxHeartbeats 1000000 in
theorem sback_k (w : World) (h : IsK w o A st base cur R) :
    Calls Tryz.prog 155 #[.pointer (some ⟨o, 0, none⟩)] w fun e w' => e = .returned (.bool (!decide (cur = -1))) ∧ KPost o A st base (-1) R 0 w w' := by
  obtain ⟨s, b, mp, mw, v, L, h1, h2, h3, h4⟩ := h
  have c0 := h1.cell
  have K := Lib.hid (sback_c w h2)
  have POST := Lib.hid (fun w' (hP : SPost s b mp mw v st base (-1) R 0 w w') => KPost.of h1 h2 h3 h4 hP)
  clear h1 h2 h3 h4
  go_enter Tryz.func155, Tryz.ntmps155
  go_wp2_with fail
  refine K.out.mono ?_
  rintro e w' ⟨rfl, hP⟩
  have HP := Lib.hid (POST.out _ hP)
  clear hP K POST
  go_wp2_with fail
  go_ret
  exact ⟨rfl, HP.out⟩

/-- What Enter answers, and what it leaves. -/
def enterM (base : Int) (R : List RI) (x : RI) : Int × Int × List RI :=
  if 1125899906842624 < x.2.2 then (1, base, R) else putM base R (x.1, x.2.1, min x.2.2 698377680)

set_option maxRecDepth 100000 in
set_option maxHeartbeats 4000000 in
theorem senter_k (x0 x1 x2 : Int) (w : World) (h : IsK w o A st base cur R) (b1 : -3900000000000000000 ≤ base) (b2 : base ≤ 3900000000000000000) (s1 : 0 ≤ st) (s2 : st < 1000000000000000) :
    Calls Tryz.prog 157 #[.pointer (some ⟨o, 0, none⟩), .int .i64 x0, .int .i64 x1, .int .i64 x2] w fun e w' => e = .returned (.int .i64 (enterM base R (x0, x1, x2)).1) ∧ KPost o A st (enterM base R (x0, x1, x2)).2.1 cur (enterM base R (x0, x1, x2)).2.2 8 w w' := by
  have POST := Lib.hid (KPost.same (K := 8) h (Below.refl _ w))
  have KG := Lib.hid (goodlag_c x2 w)
  have KP := Lib.hid (fun z => sput_k x0 x1 z w h b1 b2 s1 s2)
  have e1 : Hid (lagB x2 = false → enterM base R (x0, x1, x2) = (1, base, R)) := Lib.hid (fun hc => by
    unfold enterM
    by_cases hx : (1125899906842624 : Int) < x2
    · rw [if_pos hx]
    · rw [if_neg hx]
      have hx2 : x2 < -1125899906842624 := by
        unfold lagB at hc
        simp only [Bool.and_eq_false_iff, decide_eq_false_iff_not] at hc
        omega
      have hi : itemB (x0, x1, min x2 698377680) = false := by
        cases hI : itemB (x0, x1, min x2 698377680) with
        | false => rfl
        | true => have := (itemB_true.1 hI).2.2.2.1; simp only at this; omega
      unfold putM
      rw [hi, if_neg (by decide)])
  have e2 : Hid (lagB x2 = true → enterM base R (x0, x1, x2) = putM base R (x0, x1, min x2 698377680)) := Lib.hid (fun hc => by
    unfold lagB at hc
    simp only [Bool.and_eq_true, decide_eq_true_eq] at hc
    unfold enterM
    rw [if_neg (by show ¬ (1125899906842624 : Int) < x2; omega)])
  generalize enterM base R (x0, x1, x2) = M at *
  clear h b1 b2 s1 s2
  cases hL : lagB x2 with
  | false =>
    have e := e1.out hL
    subst e
    rw [hL] at KG
    clear KP e1 e2 hL
    go_enter Tryz.func157, Tryz.ntmps157
    go_wp2_with fail
    refine KG.out.mono ?_
    rintro e w' ⟨rfl, rfl⟩
    go_wp2_with fail
    go_ret
    exact ⟨rfl, POST.out⟩
  | true =>
    have e := e2.out hL
    subst e
    rw [hL] at KG
    clear e1 e2 hL POST
    go_enter Tryz.func157, Tryz.ntmps157
    go_wp2_with fail
    refine KG.out.mono ?_
    rintro e w' ⟨rfl, rfl⟩
    go_wp2_with fail
    refine (KP.out _).mono ?_
    rintro e w' ⟨rfl, hP⟩
    have HP := Lib.hid hP
    clear hP KP KG
    go_wp2_with fail
    go_ret
    exact ⟨rfl, HP.out⟩

set_option maxRecDepth 100000 in
set_option maxHeartbeats 1000000 in
theorem sform_k (w : World) (h : IsK w o A st base cur R) :
    Calls Tryz.prog 158 #[.pointer (some ⟨o, 0, none⟩)] w fun e w' => ∃ A c, e = .returned (.agg #[.int .i64 cur, .slice A R.length c]) ∧ TRow w' A (formL base R) ∧ Below w.heap.size w w' := by
  obtain ⟨s, b, mp, mw, v, L, h1, h2, -, -⟩ := h
  have hb1 : Below w.heap.size w (w.alloc (.cells #[.int .i64 0, .slice none 0 0] 30)) := (Below.refl _ w).alloc (Nat.le_refl _) _
  have hf1 : FoAt (w.alloc (.cells #[.int .i64 0, .slice none 0 0] 30)) w.heap.size 0 none 0 0 := heap_alloc_new w _
  obtain ⟨w1, hw1⟩ : ∃ w1, w.alloc (.cells #[.int .i64 0, .slice none 0 0] 30) = w1 := ⟨_, rfl⟩
  have hs1 : w1.heap.size = w.heap.size + 1 := by rw [← hw1]; simp
  rw [hw1] at hb1 hf1
  have c0 := (h1.keep (hb1.block o h1.lt)).cell
  have K := Lib.hid (sform_c s b mp mw v st base cur L R w1 (h2.below hb1))
  have H1 := Lib.hid (And.intro hb1 (And.intro hf1 hs1))
  clear h1 h2 hb1 hf1 hs1
  go_enter Tryz.func158, Tryz.ntmps158
  go_wp2_with fail
  refine K.out.mono ?_
  rintro e w2 ⟨g, c, rfl, hT, hb, hg⟩
  have hf2 : FoAt w2 w.heap.size 0 none 0 0 := BoxAt.next H1.out.2.1 hb (Nat.le_refl _)
  obtain ⟨t0, t1, t2, t3⟩ := two_cells hf2 (.int .i64 cur)
  have hf3 : FoAt (set2 w2 w.heap.size (.int .i64 cur) (.slice (some ⟨g, 0, none⟩) R.length c)) w.heap.size cur (some ⟨g, 0, none⟩) R.length c := set2_same _ _ hf2
  have hb3 : Below w.heap.size w (set2 w2 w.heap.size (.int .i64 cur) (.slice (some ⟨g, 0, none⟩) R.length c)) := below_set2 _ _ (H1.out.1.trans (hb.mono (by have := H1.out.2.2; omega))) (Nat.le_refl _)
  have hT3 : TRow (set2 w2 w.heap.size (.int .i64 cur) (.slice (some ⟨g, 0, none⟩) R.length c)) (some ⟨g, 0, none⟩) (formL base R) := fun i r hir => by
    obtain ⟨ad, he, a0, a1, a2⟩ := hT i r hir
    obtain rfl := Option.some.inj he
    have hne : g ≠ w.heap.size := by have := H1.out.2.2; omega
    have hk : ∀ j, (set2 w2 w.heap.size (.int .i64 cur) (.slice (some ⟨g, 0, none⟩) R.length c)).cell? ((⟨g, 0, none⟩ : Addr).add j) = w2.cell? ((⟨g, 0, none⟩ : Addr).add j) := fun j => by
      rw [addr_add]
      exact cellq_of (set2_other _ _ hne) _
    exact ⟨_, rfl, (hk _).trans a0, (hk _).trans a1, (hk _).trans a2⟩
  have HT := Lib.hid (And.intro hf3 (And.intro hT3 hb3))
  clear hT hb K hf2 hf3 hb3 hT3 hg
  go_wp2_with fail
  refine bodyPost_ret (res_box1 rfl _ w.heap.size _ _ rfl HT.out.1 Tryz.underlying30 rfl (by kernel_rfl)) rfl ?_
  exact ⟨_, c, rfl, HT.out.2⟩
end

/-- What Seed answers. -/
def SeedPost (base f0 : Int) (l : List RI) (w : World) (e : Ending) (w' : World) : Prop :=
  if goodV f0 l = true ∧ -1152921504606846976 ≤ base ∧ base ≤ 1152921504606846976 then
    ∃ o A st, e = .returned (.tuple #[.pointer (some ⟨o, 0, none⟩), .int .i64 0]) ∧ IsK w' o A st base f0 (seedR base l) ∧ 0 ≤ st ∧ st ≤ 1000 ∧ (∀ k, A k → w.heap.size ≤ k) ∧ Below w.heap.size w w'
  else e = .returned (.tuple #[.pointer none, .int .i64 1]) ∧ Below w.heap.size w w'
set_option maxRecDepth 100000 in
set_option maxHeartbeats 2000000 in
theorem sseed_c (f0 base : Int) (A : Option Addr) (n c : Nat) (l : List RI) (w : World) (hn : l.length = n) (hl : n ≤ 4611686018427387904) (hr : TRow w A l) :
    Calls Tryz.prog 56 #[.agg #[.int .i64 f0, .slice A n c], .int .i64 base] w (SeedPost base f0 l w) := by
  have hb1 : Below w.heap.size w (w.alloc (.cells #[.int .i64 f0, .slice A n c] 30)) := (Below.refl _ w).alloc (Nat.le_refl _) _
  have hf1 : FoAt (w.alloc (.cells #[.int .i64 f0, .slice A n c] 30)) w.heap.size f0 A n c := heap_alloc_new w _
  obtain ⟨w0, hw0⟩ : ∃ w0, w.alloc (.cells #[.int .i64 f0, .slice A n c] 30) = w0 := ⟨_, rfl⟩
  have hs1 : w0.heap.size = w.heap.size + 1 := by rw [← hw0]; simp
  rw [hw0] at hb1 hf1
  obtain ⟨d0, d1, -, -⟩ := FoAt.cells hf1
  have K0 := pseed_c f0 base A n c l w0 hn hl (hr.below hb1 (Nat.le_refl _))
  have HB1 := Lib.hid (And.intro hb1 hs1)
  by_cases hg : goodV f0 l = true ∧ -1152921504606846976 ≤ base ∧ base ≤ 1152921504606846976
  · refine Calls.mono (?_ : Calls _ _ _ _ (fun e w' => ∃ o A st, e = .returned (.tuple #[.pointer (some ⟨o, 0, none⟩), .int .i64 0]) ∧ IsK w' o A st base f0 (seedR base l) ∧ 0 ≤ st ∧ st ≤ 1000 ∧ (∀ k, A k → w.heap.size ≤ k) ∧ Below w.heap.size w w')) (fun e w' h => by unfold SeedPost; rw [if_pos hg]; exact h)
    have K := Lib.hid (K0.mono (fun e w' h => by unfold SeedPostP at h; rw [if_pos hg] at h; exact h))
    clear hg hn hl hr hb1 hf1 hs1 K0
    go_enter Tryz.func56, Tryz.ntmps56
    go_wp2_with fail
    refine K.out.mono ?_
    rintro e w1 ⟨s, b, mp, mw, v, st, L, rfl, hq, s1, s2, hn, hb⟩
    have hz : w.heap.size ≤ w0.heap.size := HB1.out.1.size
    have hbw : Below w.heap.size w w1 := HB1.out.1.trans (hb.mono hz)
    have hb2 : Below w1.heap.size w1 (w1.alloc (.cells #[.pointer (some ⟨s, 0, none⟩)] 116)) := (Below.refl _ w1).alloc (Nat.le_refl _) _
    have FIN : Hid (IsK (w1.alloc (.cells #[.pointer (some ⟨s, 0, none⟩)] 116)) w1.heap.size (fun k => k = w1.heap.size ∨ SOf s b mp mw v k) st base f0 (seedR base l) ∧ 0 ≤ st ∧ st ≤ 1000 ∧ (∀ k, (k = w1.heap.size ∨ SOf s b mp mw v k) → w.heap.size ≤ k) ∧ Below w.heap.size w (w1.alloc (.cells #[.pointer (some ⟨s, 0, none⟩)] 116))) :=
      Lib.hid ⟨⟨s, b, mp, mw, v, L, World.alloc_heap_new w1 _, hq.below hb2, fun hh => by have := hq.lt _ hh; omega, fun _ => Iff.rfl⟩, s1, s2, fun k hk => by
        rcases hk with rfl | hk
        · exact hbw.size
        · exact Nat.le_trans hz (hn k hk), hbw.trans (hb2.mono hbw.size)⟩
    clear hq hn hb hb2 K s1 s2 hz hbw d0 d1
    go_wp2_with fail
    go_ret2
    exact ⟨_, _, _, rfl, FIN.out⟩
  · refine Calls.mono (?_ : Calls _ _ _ _ (fun e w' => e = .returned (.tuple #[.pointer none, .int .i64 1]) ∧ Below w.heap.size w w')) (fun e w' h => by unfold SeedPost; rw [if_neg hg]; exact h)
    have K := Lib.hid (K0.mono (fun e w' h => by unfold SeedPostP at h; rw [if_neg hg] at h; exact h))
    clear hg hn hl hr hb1 hf1 hs1 K0
    go_enter Tryz.func56, Tryz.ntmps56
    go_wp2_with fail
    refine K.out.mono ?_
    rintro e w1 ⟨rfl, hb⟩
    have HB := Lib.hid (HB1.out.1.trans (hb.mono HB1.out.1.size))
    clear hb K d0 d1
    go_wp2_with fail
    go_ret2
    exact ⟨rfl, HB.out⟩

/-- Who runs next: Cur goes on until it is too far ahead of the least one. -/
def pickC (cur : Int) (R : List RI) : Int := if R = [] then -1 else if hasI R cur = true then (if (minR R).1 < (getI R cur).2.2 - 465585120 then (minR R).2 else cur) else (minR R).2
def pickV (cur : Int) (R : List RI) : Int := if R = [] then 0 else pickC cur R
def pickB (R : List RI) : Bool := !decide (R = [])
section
variable {w w' : World} {o : Nat} {A : Nat → Prop} {st base cur : Int} {R : List RI}
theorem KPost.pre {W : World} {base' cur' : Int} {R' : List RI} {K : Nat} (h : IsK w o A st base cur R) (hb : Below w.heap.size w W) (hP : KPost o A st base' cur' R' K W w') : KPost o A st base' cur' R' K w w' := by
  obtain ⟨A', k, hk, hq, ht⟩ := hP
  exact ⟨A', k, hk, hq, (h.self hb).trans ht⟩
set_option maxRecDepth 100000 in
set_option maxHeartbeats 1000000 in
theorem far_k (x0 x1 : Int) (w : World) (h : IsK w o A st base cur R) (hR : R ≠ []) (hx1 : -4000000000000000000 ≤ x0) (hx2 : x0 ≤ 4000000000000000000) :
    Calls Tryz.prog 163 #[.pointer (some ⟨o, 0, none⟩), .agg #[.int .i64 x0, .int .i64 x1]] w fun e w' => e = .returned (.bool (decide ((minR R).1 < x0 - 465585120))) ∧ Below w.heap.size w w' := by
  obtain ⟨s, b, mp, mw, v, L, h1, h2, -, -⟩ := h
  have hb1 : Below w.heap.size w (w.alloc (.cells #[.int .i64 x0, .int .i64 x1] 140)) := (Below.refl _ w).alloc (Nat.le_refl _) _
  have hnew := World.alloc_heap_new w (.cells #[.int .i64 x0, .int .i64 x1] 140)
  obtain ⟨w1, hw1⟩ : ∃ w1, w.alloc (.cells #[.int .i64 x0, .int .i64 x1] 140) = w1 := ⟨_, rfl⟩
  have hs1 : w1.heap.size = w.heap.size + 1 := by rw [← hw1]; simp
  rw [hw1] at hb1 hnew
  have c0 := (h1.keep (hb1.block o h1.lt)).cell
  have KL := Lib.hid (sleast_c w1 (h2.below hb1))
  rw [if_neg hR] at KL
  generalize minR R = m at *
  obtain ⟨m0, m1⟩ := m
  simp only [encQ] at KL ⊢
  have hw : IntKind.i64.wrap (x0 - 465585120) = x0 - 465585120 := by rw [IntKind.wrap_i64]; omega
  have H1 := Lib.hid (And.intro hb1 (And.intro hnew hs1))
  clear h1 h2 hR hx1 hx2 hb1 hnew hs1
  go_enter Tryz.func163, Tryz.ntmps163
  go_wp2_with fail
  refine KL.out.mono ?_
  rintro e w2 ⟨rfl, hb2⟩
  obtain ⟨w3, hw3⟩ : ∃ w3, w2.alloc (.cells #[.int .i64 m0, .int .i64 m1] 140) = w3 := ⟨_, rfl⟩
  have hb23 : Below w1.heap.size w1 w3 := by rw [← hw3]; exact hb2.alloc hb2.size _
  have hn3 : w3.heap[w2.heap.size]? = some (.cells #[.int .i64 m0, .int .i64 m1] 140 (0, 0)) := by rw [← hw3]; exact World.alloc_heap_new _ _
  have hx3 : w3.heap[w.heap.size]? = some (.cells #[.int .i64 x0, .int .i64 x1] 140 (0, 0)) := (hb23.block _ (by rw [H1.out.2.2]; omega)).trans H1.out.2.1
  have y0 : w3.cell? ⟨w2.heap.size, 0, none⟩ = some (.int .i64 m0) := by simp [World.cell?, hn3]
  have z0 : w3.cell? ⟨w.heap.size, 0, none⟩ = some (.int .i64 x0) := by simp [World.cell?, hx3]
  have HB := Lib.hid (H1.out.1.trans (hb23.mono (by rw [H1.out.2.2]; omega)))
  clear hb2 hb23 hn3 hx3 KL c0
  go_wp2_with fail
  go_ret
  exact ⟨rfl, HB.out⟩
set_option maxRecDepth 100000 in
set_option maxHeartbeats 4000000 in
theorem spick_k (w : World) (h : IsK w o A st base cur R) :
    Calls Tryz.prog 160 #[.pointer (some ⟨o, 0, none⟩)] w fun e w' => e = .returned (.tuple #[.int .i64 (pickV cur R), .bool (pickB R)]) ∧ KPost o A st base (pickC cur R) R 0 w w' := by
  have h' := h
  obtain ⟨s, b, mp, mw, v, L, h1, h2, h3, h4⟩ := h
  have c0 := h1.cell
  have KC := Lib.hid (scur_c w h2)
  have KP : Hid (∀ W, Below w.heap.size w W → Calls Tryz.prog 124 #[.pointer (some ⟨s, 0, none⟩)] W fun e w' => e = .returned (.tuple #[.int .i64 (if R = [] then 0 else (minR R).2), .bool (!decide (R = []))]) ∧ KPost o A st base (if R = [] then -1 else (minR R).2) R 0 w w') :=
    Lib.hid (fun W hb => (spick_c W (h2.below hb)).mono (fun e w' ⟨he, hP⟩ => ⟨he, KPost.pre h' hb (KPost.of (h1.keep (hb.block o h1.lt)) (h2.below hb) h3 h4 hP)⟩))
  have OB : Hid (∀ W, Below w.heap.size w W → W.cell? ⟨o, 0, none⟩ = some (.pointer (some ⟨s, 0, none⟩))) := Lib.hid (fun W hb => (h1.keep (hb.block o h1.lt)).cell)
  unfold pickB
  cases hI : hasI R cur with
  | false =>
    have e1 : pickC cur R = if R = [] then -1 else (minR R).2 := by unfold pickC; rw [hI]; rfl
    have e2 : pickV cur R = if R = [] then 0 else (minR R).2 := by
      unfold pickV
      rw [e1]
      by_cases hR : R = []
      · rw [if_pos hR, if_pos hR]
      · rw [if_neg hR, if_neg hR, if_neg hR]
    have e3 : curV cur R = ((0, 0), false) := by unfold curV; rw [hI]; rfl
    rw [e1, e2]
    rw [e3] at KC
    generalize (if R = [] then (0 : Int) else (minR R).2) = r0 at *
    generalize (if R = [] then (-1 : Int) else (minR R).2) = r1 at *
    generalize decide (R = []) = r2 at *
    simp only [encQ] at KC
    clear h' h1 h2 h3 h4 hI e1 e2 e3
    go_enter Tryz.func160, Tryz.ntmps160
    go_wp2_with fail
    refine KC.out.mono ?_
    rintro e w1 ⟨rfl, hb⟩
    have hb2 : Below w.heap.size w (w1.alloc (.cells #[.int .i64 0, .int .i64 0] 140)) := hb.alloc hb.size _
    have c2 := OB.out _ hb2
    have K2 := Lib.hid (KP.out _ hb2)
    clear hb hb2 KC KP OB
    go_wp2_with fail
    refine K2.out.mono ?_
    rintro e w3 ⟨rfl, hP⟩
    have HP := Lib.hid hP
    clear hP K2
    go_wp2_with fail
    go_ret2
    exact ⟨rfl, HP.out⟩
  | true =>
    obtain ⟨hr, he⟩ := getI_mem hI
    have hR : R ≠ [] := List.ne_nil_of_mem hr
    have heach := h'.wf.each _ hr
    have e1 : pickC cur R = if (minR R).1 < (getI R cur).2.2 - 465585120 then (minR R).2 else cur := by unfold pickC; rw [if_neg hR, hI, if_pos rfl]
    have e2 : pickV cur R = pickC cur R := by unfold pickV; rw [if_neg hR]
    have e3 : curV cur R = (((getI R cur).2.2, cur), true) := by unfold curV; rw [hI, if_pos rfl]
    rw [e2, e1, decide_eq_false hR]
    rw [e3] at KC
    rw [if_neg hR, if_neg hR, decide_eq_false hR] at KP
    have KF : Hid (∀ W, Below w.heap.size w W → Calls Tryz.prog 163 #[.pointer (some ⟨o, 0, none⟩), .agg #[.int .i64 (getI R cur).2.2, .int .i64 cur]] W fun e w' => e = .returned (.bool (decide ((minR R).1 < (getI R cur).2.2 - 465585120))) ∧ Below W.heap.size W w') := Lib.hid (fun W hb => far_k _ _ W (h'.below hb) hR heach.2.2.2.2.1 heach.2.2.2.2.2)
    have POST : Hid (∀ W, Below w.heap.size w W → KPost o A st base cur R 0 w W) := Lib.hid (fun W hb => KPost.same h' hb)
    generalize (getI R cur).2.2 = x0 at *
    generalize minR R = m at *
    obtain ⟨m0, m1⟩ := m
    simp only [encQ] at KC KP KF ⊢
    clear h' h1 h2 h3 h4 hI e1 e2 e3 hr he hR heach
    obtain ⟨M, hM⟩ : ∃ M, (if m0 < x0 - 465585120 then m1 else cur) = M := ⟨_, rfl⟩
    rw [hM]
    have HM := Lib.hid hM
    clear hM
    go_enter Tryz.func160, Tryz.ntmps160
    go_wp2_with fail
    refine KC.out.mono ?_
    rintro e w1 ⟨rfl, hb⟩
    obtain ⟨w2, hw2⟩ : ∃ w2, w1.alloc (.cells #[.int .i64 x0, .int .i64 cur] 140) = w2 := ⟨_, rfl⟩
    have hb2 : Below w.heap.size w w2 := by rw [← hw2]; exact hb.alloc hb.size _
    have hn2 : w2.heap[w1.heap.size]? = some (.cells #[.int .i64 x0, .int .i64 cur] 140 (0, 0)) := by rw [← hw2]; exact World.alloc_heap_new _ _
    have hs2 : w2.heap.size = w1.heap.size + 1 := by rw [← hw2]; simp
    have y0 : w2.cell? ⟨w1.heap.size, 0, none⟩ = some (.int .i64 x0) := by simp [World.cell?, hn2]
    have y1 : w2.cell? ⟨w1.heap.size, 1, none⟩ = some (.int .i64 cur) := by simp [World.cell?, hn2]
    have K2 := Lib.hid (KF.out _ hb2)
    have H2 := Lib.hid (And.intro hb2 (And.intro hn2 hs2))
    clear hb hb2 hn2 hs2 KC KF
    by_cases hf : m0 < x0 - 465585120
    · rw [decide_eq_true hf] at K2
      have hm := HM.out
      rw [if_pos hf] at hm
      subst hm
      go_wp2_with fail
      refine K2.out.mono ?_
      rintro e w3 ⟨rfl, hb3⟩
      have hb4 := H2.out.1.trans (hb3.mono H2.out.1.size)
      have c3 := OB.out _ hb4
      have K3 := Lib.hid (KP.out _ hb4)
      clear hb3 hb4 K2 KP OB y0 y1
      go_wp2_with fail
      refine K3.out.mono ?_
      rintro e w4 ⟨rfl, hP⟩
      have HP := Lib.hid hP
      clear hP K3
      go_wp2_with fail
      go_ret2
      exact ⟨rfl, HP.out⟩
    · rw [decide_eq_false hf] at K2
      have hm := HM.out
      rw [if_neg hf] at hm
      subst hm
      go_wp2_with fail
      refine K2.out.mono ?_
      rintro e w3 ⟨rfl, hb3⟩
      have hn3 : w3.heap[w1.heap.size]? = some (.cells #[.int .i64 x0, .int .i64 cur] 140 (0, 0)) := (hb3.block _ (by rw [H2.out.2.2]; omega)).trans H2.out.2.1
      have z1 : w3.cell? ⟨w1.heap.size, 1, none⟩ = some (.int .i64 cur) := by simp [World.cell?, hn3]
      have FIN := Lib.hid (POST.out _ (H2.out.1.trans (hb3.mono H2.out.1.size)))
      clear hb3 hn3 K2 KP OB y0 y1 POST
      go_wp2_with fail
      go_ret2
      exact ⟨rfl, FIN.out⟩
end

/-- A queue that was made since W, its steps at most S; the blocks F are none of its. -/
def SIn (W w : World) (s : Nat) (base cur : Int) (R : List RI) (S : Nat) (F : Nat → Prop) : Prop :=
  ∃ A st, IsK w s A st base cur R ∧ 0 ≤ st ∧ st ≤ (S : Int) ∧ (∀ k, A k → W.heap.size ≤ k) ∧ Below W.heap.size W w ∧ ∀ k, F k → k < w.heap.size ∧ ¬ A k
section
variable {W w w' : World} {s S : Nat} {base cur : Int} {R : List RI} {F : Nat → Prop}
theorem SIn.wf (h : SIn W w s base cur R S F) : WfS base cur R := by
  obtain ⟨A, st, h1, _⟩ := h
  exact h1.wf
theorem SIn.frame (h : SIn W w s base cur R S F) : Below W.heap.size W w := by
  obtain ⟨A, st, h1, h2, h3, h4, h5, h6⟩ := h
  exact h5
theorem SIn.below (h : SIn W w s base cur R S F) (hb : Below w.heap.size w w') : SIn W w' s base cur R S F := by
  obtain ⟨A, st, h1, h2, h3, h4, h5, h6⟩ := h
  exact ⟨A, st, h1.below hb, h2, h3, h4, h5.trans (hb.mono h5.size), fun k hk => ⟨by have := (h6 k hk).1; have := hb.size; omega, (h6 k hk).2⟩⟩
theorem SIn.weak (h : SIn W w s base cur R S F) {S' : Nat} (hS : S ≤ S') : SIn W w s base cur R S' F := by
  obtain ⟨A, st, h1, h2, h3, h4, h5, h6⟩ := h
  exact ⟨A, st, h1, h2, by omega, h4, h5, h6⟩
/-- What has been made since is none of its. -/
theorem SIn.more {G : Nat → Prop} (h : SIn W w s base cur R S F) (hb : Below w.heap.size w w') (hG : ∀ k, G k → F k ∨ (w.heap.size ≤ k ∧ k < w'.heap.size)) : SIn W w' s base cur R S G := by
  obtain ⟨A, st, h1, h2, h3, h4, h5, h6⟩ := h
  refine ⟨A, st, h1.below hb, h2, h3, h4, h5.trans (hb.mono h5.size), fun k hk => ?_⟩
  rcases hG k hk with h | h
  · exact ⟨by have := (h6 k h).1; have := hb.size; omega, (h6 k h).2⟩
  · exact ⟨h.2, fun hq => by have := h1.lt k hq; omega⟩
theorem SIn.alloc (h : SIn W w s base cur R S F) (o : Obj) : SIn W (w.alloc o) s base cur R S F := h.below ((Below.refl _ w).alloc (Nat.le_refl _) o)
theorem SIn.post {A : Nat → Prop} {K : Nat} {st base' cur' : Int} {R' : List RI} (hP : KPost s A st base' cur' R' K w w') (h2 : 0 ≤ st) (h3 : st ≤ (S : Int)) (h4 : ∀ k, A k → W.heap.size ≤ k) (h5 : Below W.heap.size W w) (h6 : ∀ k, F k → k < w.heap.size ∧ ¬ A k) :
    SIn W w' s base' cur' R' (S + K) F ∧ ∀ k, F k → w'.heap[k]? = w.heap[k]? := by
  obtain ⟨A', k, hk, hq, ht⟩ := hP
  refine ⟨⟨A', _, hq, by omega, by omega, fun j hj => ?_, h5.trans (ht.below h4 h5.size), fun j hj => ?_⟩, fun j hj => ht.block j (h6 j hj).1 (h6 j hj).2⟩
  · rcases ht.sub j hj with h | h
    · exact h4 j h
    · have := h5.size; omega
  · have h7 := (h6 j hj).1
    refine ⟨by have := ht.size; omega, fun hq' => ?_⟩
    rcases ht.sub j hq' with h | h
    · exact (h6 j hj).2 h
    · omega
/-- What comes back, and what is left. -/
def InPost (W w : World) (s : Nat) (base cur : Int) (R : List RI) (S : Nat) (F : Nat → Prop) (r : Value) (e : Ending) (w' : World) : Prop :=
  e = .returned r ∧ SIn W w' s base cur R S F ∧ ∀ k, F k → w'.heap[k]? = w.heap[k]?
theorem sput_in (x : RI) (h : SIn W w s base cur R S F) (h1 : -3900000000000000000 ≤ base) (h2 : base ≤ 3900000000000000000) (hS : S ≤ 1000000000) :
    Calls Tryz.prog 161 #[.pointer (some ⟨s, 0, none⟩), .int .i64 x.1, .int .i64 x.2.1, .int .i64 x.2.2] w (InPost W w s (putM base R x).2.1 cur (putM base R x).2.2 (S + 8) F (.int .i64 (putM base R x).1)) := by
  obtain ⟨A, st, g1, g2, g3, g4, g5, g6⟩ := h
  refine (sput_k x.1 x.2.1 x.2.2 w g1 h1 h2 g2 (by omega)).mono ?_
  rintro e w' ⟨rfl, hP⟩
  exact ⟨rfl, SIn.post hP g2 g3 g4 g5 g6⟩
theorem senter_in (x : RI) (h : SIn W w s base cur R S F) (h1 : -3900000000000000000 ≤ base) (h2 : base ≤ 3900000000000000000) (hS : S ≤ 1000000000) :
    Calls Tryz.prog 157 #[.pointer (some ⟨s, 0, none⟩), .int .i64 x.1, .int .i64 x.2.1, .int .i64 x.2.2] w (InPost W w s (enterM base R x).2.1 cur (enterM base R x).2.2 (S + 8) F (.int .i64 (enterM base R x).1)) := by
  obtain ⟨A, st, g1, g2, g3, g4, g5, g6⟩ := h
  refine (senter_k x.1 x.2.1 x.2.2 w g1 h1 h2 g2 (by omega)).mono ?_
  rintro e w' ⟨rfl, hP⟩
  exact ⟨rfl, SIn.post hP g2 g3 g4 g5 g6⟩
theorem spick_in (h : SIn W w s base cur R S F) :
    Calls Tryz.prog 160 #[.pointer (some ⟨s, 0, none⟩)] w (InPost W w s base (pickC cur R) R S F (.tuple #[.int .i64 (pickV cur R), .bool (pickB R)])) := by
  obtain ⟨A, st, g1, g2, g3, g4, g5, g6⟩ := h
  refine (spick_k w g1).mono ?_
  rintro e w' ⟨rfl, hP⟩
  exact ⟨rfl, SIn.post hP g2 g3 g4 g5 g6⟩
theorem scharge_in (h : SIn W w s base cur R S F) (hS : S ≤ 1000000000) :
    Calls Tryz.prog 156 #[.pointer (some ⟨s, 0, none⟩)] w (InPost W w s (chargeM base cur R).2.2.1 cur (chargeM base cur R).2.2.2 (S + 16) F (.tuple #[.int .i64 (chargeM base cur R).1, .int .i64 (chargeM base cur R).2.1])) := by
  obtain ⟨A, st, g1, g2, g3, g4, g5, g6⟩ := h
  refine (scharge_k w g1 g2 (by omega)).mono ?_
  rintro e w' ⟨rfl, hP⟩
  exact ⟨rfl, SIn.post hP g2 g3 g4 g5 g6⟩
theorem sleave_in (id : Int) (h : SIn W w s base cur R S F) (hid : wf64 id) (hS : S ≤ 1000000000) :
    Calls Tryz.prog 159 #[.pointer (some ⟨s, 0, none⟩), .int .i64 id] w (InPost W w s (leaveM base cur R id).2.2.1 (leaveM base cur R id).2.2.2.1 (leaveM base cur R id).2.2.2.2 (S + 8) F (.tuple #[.int .i64 (leaveM base cur R id).1, .int .i64 (leaveM base cur R id).2.1])) := by
  obtain ⟨A, st, g1, g2, g3, g4, g5, g6⟩ := h
  refine (sleave_k id w g1 hid g2 (by omega)).mono ?_
  rintro e w' ⟨rfl, hP⟩
  exact ⟨rfl, SIn.post hP g2 g3 g4 g5 g6⟩
theorem sweigh_in (id n : Int) (h : SIn W w s base cur R S F) (hid : wf64 id) (hn : wf64 n) :
    Calls Tryz.prog 162 #[.pointer (some ⟨s, 0, none⟩), .int .i64 id, .int .i64 n] w (InPost W w s base cur (weighM R id n).2 S F (.int .i64 (weighM R id n).1)) := by
  obtain ⟨A, st, g1, g2, g3, g4, g5, g6⟩ := h
  refine (sweigh_k id n w g1 hid hn).mono ?_
  rintro e w' ⟨rfl, hP⟩
  exact ⟨rfl, SIn.post hP g2 g3 g4 g5 g6⟩
theorem sback_in (h : SIn W w s base cur R S F) :
    Calls Tryz.prog 155 #[.pointer (some ⟨s, 0, none⟩)] w (InPost W w s base (-1) R S F (.bool (!decide (cur = -1)))) := by
  obtain ⟨A, st, g1, g2, g3, g4, g5, g6⟩ := h
  refine (sback_k w g1).mono ?_
  rintro e w' ⟨rfl, hP⟩
  exact ⟨rfl, SIn.post hP g2 g3 g4 g5 g6⟩
def FormPost (W w : World) (s : Nat) (base cur : Int) (R : List RI) (S : Nat) (F : Nat → Prop) (e : Ending) (w' : World) : Prop :=
  ∃ A c, e = .returned (.agg #[.int .i64 cur, .slice A R.length c]) ∧ TRow w' A (formL base R) ∧ SIn W w' s base cur R S F ∧ Below w.heap.size w w'
theorem sform_in (h : SIn W w s base cur R S F) :
    Calls Tryz.prog 158 #[.pointer (some ⟨s, 0, none⟩)] w (FormPost W w s base cur R S F) := by
  have h' := h
  obtain ⟨A, st, g1, _⟩ := h
  refine (sform_k w g1).mono ?_
  rintro e w' ⟨A, c, rfl, hT, hb⟩
  exact ⟨A, c, rfl, hT, h'.below hb, hb⟩
theorem formL_length (base : Int) (R : List RI) : (formL base R).length = R.length := by unfold formL; simp
end
end Go.Proofs.YtancneebbellnaaGreatDoor.Fa
