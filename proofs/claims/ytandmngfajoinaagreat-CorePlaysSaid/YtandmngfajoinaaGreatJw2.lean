/- stride's queue: a cell that points at a queue of points; what it is in, its calls, as a law makes it. fair's queue: a cell that points at a queue of points; what it is in, its calls, as a law makes it. policy's queue: a cell with the tag and an interface value that points at a queue of that policy; its calls. -/
import Derived.Test.YtandmngfajoinaaGreatSi
import Derived.Test.YtandmngfajoinaaGreatUh5
namespace Go.Proofs.YtandmngfajoinaaGreat.St
open Go.RowKit Go.Maps

def OBox (w : World) (o s : Nat) : Prop := w.heap[o]? = some (.cells #[.pointer (some ⟨s, 0, none⟩)] 110 (0, 0))
theorem OBox.lt {w : World} {o s : Nat} (h : OBox w o s) : o < w.heap.size := (Array.getElem?_eq_some_iff.1 h).1
theorem OBox.cell {w : World} {o s : Nat} (h : OBox w o s) : w.cell? ⟨o, 0, none⟩ = some (.pointer (some ⟨s, 0, none⟩)) := by simp [World.cell?, show w.heap[o]? = _ from h]
theorem OBox.keep {w w' : World} {o s : Nat} (h : OBox w o s) (hs : w'.heap[o]? = w.heap[o]?) : OBox w' o s := hs.trans h

/-- Block o is a queue; A: its blocks. -/
def IsK (w : World) (o : Nat) (A : Nat → Prop) (st base cur : Int) (R : List RI) : Prop :=
  ∃ s b mp mw v L, OBox w o s ∧ IsS w s b mp mw v st base cur L R ∧ ¬ SOf s b mp mw v o ∧ ∀ k, A k ↔ (k = o ∨ SOf s b mp mw v k)
/-- What is left behind a call. -/
def KPost (o : Nat) (A : Nat → Prop) (st base cur : Int) (R : List RI) (K : Nat) (w w' : World) : Prop :=
  ∃ A', ∃ k : Nat, k ≤ K ∧ IsK w' o A' (st + (k : Int)) base cur R ∧ Trip A w A' w'
section
variable {w w' : World} {o : Nat} {A : Nat → Prop} {st base cur : Int} {R : List RI}
theorem IsK.wf (h : IsK w o A st base cur R) : WfS base cur R := by
  obtain ⟨s, b, mp, mw, v, L, h1, h2, h3, h4⟩ := h
  exact h2.wf
theorem IsK.self_of (h : IsK w o A st base cur R) : A o := by
  obtain ⟨s, b, mp, mw, v, L, h1, h2, h3, h4⟩ := h
  exact (h4 o).2 (.inl rfl)
theorem IsK.lt (h : IsK w o A st base cur R) : ∀ k, A k → k < w.heap.size := by
  obtain ⟨s, b, mp, mw, v, L, h1, h2, h3, h4⟩ := h
  intro k hk
  rcases (h4 k).1 hk with rfl | hk
  · exact h1.lt
  · exact h2.lt k hk
theorem IsK.keep (h : IsK w o A st base cur R) (hs : ∀ k, A k → w'.heap[k]? = w.heap[k]?) : IsK w' o A st base cur R := by
  obtain ⟨s, b, mp, mw, v, L, h1, h2, h3, h4⟩ := h
  exact ⟨s, b, mp, mw, v, L, h1.keep (hs o ((h4 o).2 (.inl rfl))), h2.keep (fun k hk => hs k ((h4 k).2 (.inr hk))), h3, h4⟩
theorem IsK.below (h : IsK w o A st base cur R) (hb : Below w.heap.size w w') : IsK w' o A st base cur R := h.keep (fun k hk => hb.block k (h.lt k hk))
theorem IsK.self (h : IsK w o A st base cur R) (hb : Below w.heap.size w w') : Trip A w A w' := below_trip hb h.lt
theorem KPost.same {K : Nat} (h : IsK w o A st base cur R) (hb : Below w.heap.size w w') : KPost o A st base cur R K w w' :=
  ⟨A, 0, Nat.zero_le _, by simpa using h.below hb, h.self hb⟩
theorem KPost.of {s b mp mw K : Nat} {v : Value} {base' cur' : Int} {L : List QI} {R' : List RI} (h1 : OBox w o s) (_h2 : IsS w s b mp mw v st base cur L R) (h3 : ¬ SOf s b mp mw v o) (h4 : ∀ k, A k ↔ (k = o ∨ SOf s b mp mw v k)) (hP : SPost s b mp mw v st base' cur' R' K w w') : KPost o A st base' cur' R' K w w' := by
  obtain ⟨v', L', k, hk, hq, ht⟩ := hP
  have ho := h1.lt
  have hz := ht.size
  refine ⟨fun j => j = o ∨ SOf s b mp mw v' j, k, hk, ⟨s, b, mp, mw, v', L', h1.keep (ht.block o ho h3), hq, fun hh => (ht.sub o hh).elim h3 (fun _ => by omega), fun _ => Iff.rfl⟩, ⟨ht.os, ht.tape, ht.output, hz, fun j hj hn => ht.block j hj (fun hh => hn ((h4 j).2 (.inr hh))), fun j hj => ?_, fun j hj => ?_⟩⟩
  · rcases hj with rfl | hj
    · exact .inl ((h4 _).2 (.inl rfl))
    · exact (ht.sub j hj).imp (fun hh => (h4 j).2 (.inr hh)) id
  · rcases hj with rfl | hj
    · omega
    · exact ht.bd j hj


set_option maxHeartbeats 1000000 in
theorem sput_k (x0 x1 x2 : Int) (w : World) (h : IsK w o A st base cur R) (b1 : -3900000000000000000 ≤ base) (b2 : base ≤ 3900000000000000000) (s1 : 0 ≤ st) (s2 : st < 1000000000000000) :
    Calls Tryz.prog 129 #[.pointer (some ⟨o, 0, none⟩), .int .i64 x0, .int .i64 x1, .int .i64 x2] w fun e w' => e = .returned (.int .i64 (putM base R (x0, x1, x2)).1) ∧ KPost o A st (putM base R (x0, x1, x2)).2.1 cur (putM base R (x0, x1, x2)).2.2 8 w w' := by
  obtain ⟨s, b, mp, mw, v, L, h1, h2, h3, h4⟩ := h
  have c0 := h1.cell
  have K := Lib.hid (sput_c x0 x1 x2 w h2 b1 b2 s1 s2)
  have POST := Lib.hid (fun w' (hP : SPost s b mp mw v st (putM base R (x0, x1, x2)).2.1 cur (putM base R (x0, x1, x2)).2.2 8 w w') => KPost.of h1 h2 h3 h4 hP)
  clear h1 h2 h3 h4
  go_enter Tryz.func129, Tryz.ntmps129
  go_wp2_with fail
  refine K.out.mono ?_
  rintro e w' ⟨rfl, hP⟩
  have HP := Lib.hid (POST.out _ hP)
  clear hP K POST
  go_wp2_with fail
  go_ret
  exact ⟨rfl, HP.out⟩

set_option maxHeartbeats 1000000 in
theorem sleave_k (id : Int) (w : World) (h : IsK w o A st base cur R) (hid : wf64 id) (s1 : 0 ≤ st) (s2 : st < 1000000000000000) :
    Calls Tryz.prog 127 #[.pointer (some ⟨o, 0, none⟩), .int .i64 id] w fun e w' => e = .returned (.tuple #[.int .i64 (leaveM base cur R id).1, .int .i64 (leaveM base cur R id).2.1]) ∧ KPost o A st (leaveM base cur R id).2.2.1 (leaveM base cur R id).2.2.2.1 (leaveM base cur R id).2.2.2.2 8 w w' := by
  obtain ⟨s, b, mp, mw, v, L, h1, h2, h3, h4⟩ := h
  have c0 := h1.cell
  have K := Lib.hid (sleave_c id w h2 hid s1 s2)
  have POST := Lib.hid (fun w' (hP : SPost s b mp mw v st (leaveM base cur R id).2.2.1 (leaveM base cur R id).2.2.2.1 (leaveM base cur R id).2.2.2.2 8 w w') => KPost.of h1 h2 h3 h4 hP)
  clear h1 h2 h3 h4
  go_enter Tryz.func127, Tryz.ntmps127
  go_wp2_with fail
  refine K.out.mono ?_
  rintro e w' ⟨rfl, hP⟩
  have HP := Lib.hid (POST.out _ hP)
  clear hP K POST
  go_wp2_with fail
  go_ret2
  exact ⟨rfl, HP.out⟩

set_option maxHeartbeats 1000000 in
theorem sweigh_k (id n : Int) (w : World) (h : IsK w o A st base cur R) (hid : wf64 id) (hn : wf64 n) :
    Calls Tryz.prog 130 #[.pointer (some ⟨o, 0, none⟩), .int .i64 id, .int .i64 n] w fun e w' => e = .returned (.int .i64 (weighM R id n).1) ∧ KPost o A st base cur (weighM R id n).2 0 w w' := by
  obtain ⟨s, b, mp, mw, v, L, h1, h2, h3, h4⟩ := h
  have c0 := h1.cell
  have K := Lib.hid (sweigh_c id n w h2 hid hn)
  have POST := Lib.hid (fun w' (hP : SPost s b mp mw v st base cur (weighM R id n).2 0 w w') => KPost.of h1 h2 h3 h4 hP)
  clear h1 h2 h3 h4
  go_enter Tryz.func130, Tryz.ntmps130
  go_wp2_with fail
  refine K.out.mono ?_
  rintro e w' ⟨rfl, hP⟩
  have HP := Lib.hid (POST.out _ hP)
  clear hP K POST
  go_wp2_with fail
  go_ret
  exact ⟨rfl, HP.out⟩

set_option maxHeartbeats 1000000 in
theorem scharge_k (w : World) (h : IsK w o A st base cur R) (s1 : 0 ≤ st) (s2 : st < 1000000000000000) :
    Calls Tryz.prog 124 #[.pointer (some ⟨o, 0, none⟩)] w fun e w' => e = .returned (.tuple #[.int .i64 (chargeM base cur R).1, .int .i64 (chargeM base cur R).2.1]) ∧ KPost o A st (chargeM base cur R).2.2.1 cur (chargeM base cur R).2.2.2 16 w w' := by
  obtain ⟨s, b, mp, mw, v, L, h1, h2, h3, h4⟩ := h
  have c0 := h1.cell
  have K := Lib.hid (scharge_c w h2 s1 s2)
  have POST := Lib.hid (fun w' (hP : SPost s b mp mw v st (chargeM base cur R).2.2.1 cur (chargeM base cur R).2.2.2 16 w w') => KPost.of h1 h2 h3 h4 hP)
  clear h1 h2 h3 h4
  go_enter Tryz.func124, Tryz.ntmps124
  go_wp2_with fail
  refine K.out.mono ?_
  rintro e w' ⟨rfl, hP⟩
  have HP := Lib.hid (POST.out _ hP)
  clear hP K POST
  go_wp2_with fail
  go_ret2
  exact ⟨rfl, HP.out⟩


/-- What Enter answers, and what it leaves. -/
def enterM (base : Int) (R : List RI) (x : RI) : Int × Int × List RI :=
  if 1125899906842624 < x.2.2 then (1, base, R) else putM base R (x.1, x.2.1, min x.2.2 0)

set_option maxHeartbeats 1000000 in
theorem spick_k (w : World) (h : IsK w o A st base cur R) :
    Calls Tryz.prog 128 #[.pointer (some ⟨o, 0, none⟩)] w fun e w' => e = .returned (.tuple #[.int .i64 (if R = [] then 0 else (minR R).2), .bool (!decide (R = []))]) ∧ KPost o A st base (if R = [] then -1 else (minR R).2) R 0 w w' := by
  obtain ⟨s, b, mp, mw, v, L, h1, h2, h3, h4⟩ := h
  have c0 := h1.cell
  have K := Lib.hid (spick_c w h2)
  have POST := Lib.hid (fun w' (hP : SPost s b mp mw v st base (if R = [] then -1 else (minR R).2) R 0 w w') => KPost.of h1 h2 h3 h4 hP)
  clear h1 h2 h3 h4
  generalize (if R = [] then (0 : Int) else (minR R).2) = r0 at *
  generalize (if R = [] then (-1 : Int) else (minR R).2) = r1 at *
  generalize decide (R = []) = r2 at *
  go_enter Tryz.func128, Tryz.ntmps128
  go_wp2_with fail
  refine K.out.mono ?_
  rintro e w' ⟨rfl, hP⟩
  have HP := Lib.hid (POST.out _ hP)
  clear hP K POST
  go_wp2_with fail
  go_ret2
  exact ⟨rfl, HP.out⟩

set_option maxRecDepth 100000 in
set_option maxHeartbeats 4000000 in
theorem senter_k (x0 x1 x2 : Int) (w : World) (h : IsK w o A st base cur R) (b1 : -3900000000000000000 ≤ base) (b2 : base ≤ 3900000000000000000) (s1 : 0 ≤ st) (s2 : st < 1000000000000000) :
    Calls Tryz.prog 125 #[.pointer (some ⟨o, 0, none⟩), .int .i64 x0, .int .i64 x1, .int .i64 x2] w fun e w' => e = .returned (.int .i64 (enterM base R (x0, x1, x2)).1) ∧ KPost o A st (enterM base R (x0, x1, x2)).2.1 cur (enterM base R (x0, x1, x2)).2.2 8 w w' := by
  have POST := Lib.hid (KPost.same (K := 8) h (Below.refl _ w))
  have KG := Lib.hid (goodlag_c x2 w)
  have KP := Lib.hid (fun z => sput_k x0 x1 z w h b1 b2 s1 s2)
  have e1 : Hid (lagB x2 = false → enterM base R (x0, x1, x2) = (1, base, R)) := Lib.hid (fun hc => by
    unfold enterM
    by_cases hx : (1125899906842624 : Int) < x2
    · rw [if_pos hx]
    · rw [if_neg hx]
      have hx2 : x2 < -1125899906842624 := by
        unfold lagB at hc
        simp only [Bool.and_eq_false_iff, decide_eq_false_iff_not] at hc
        omega
      have hi : itemB (x0, x1, min x2 0) = false := by
        cases hI : itemB (x0, x1, min x2 0) with
        | false => rfl
        | true => have := (itemB_true.1 hI).2.2.2.1; simp only at this; omega
      unfold putM
      rw [hi, if_neg (by decide)])
  have e2 : Hid (lagB x2 = true → enterM base R (x0, x1, x2) = putM base R (x0, x1, min x2 0)) := Lib.hid (fun hc => by
    unfold lagB at hc
    simp only [Bool.and_eq_true, decide_eq_true_eq] at hc
    unfold enterM
    rw [if_neg (by show ¬ (1125899906842624 : Int) < x2; omega)])
  generalize enterM base R (x0, x1, x2) = M at *
  clear h b1 b2 s1 s2
  cases hL : lagB x2 with
  | false =>
    have e := e1.out hL
    subst e
    rw [hL] at KG
    clear KP e1 e2 hL
    go_enter Tryz.func125, Tryz.ntmps125
    go_wp2_with fail
    refine KG.out.mono ?_
    rintro e w' ⟨rfl, rfl⟩
    go_wp2_with fail
    go_ret
    exact ⟨rfl, POST.out⟩
  | true =>
    have e := e2.out hL
    subst e
    rw [hL] at KG
    clear e1 e2 hL POST
    go_enter Tryz.func125, Tryz.ntmps125
    go_wp2_with fail
    refine KG.out.mono ?_
    rintro e w' ⟨rfl, rfl⟩
    go_wp2_with fail
    refine (KP.out _).mono ?_
    rintro e w' ⟨rfl, hP⟩
    have HP := Lib.hid hP
    clear hP KP KG
    go_wp2_with fail
    go_ret
    exact ⟨rfl, HP.out⟩

set_option maxRecDepth 100000 in
set_option maxHeartbeats 1000000 in
theorem sform_k (w : World) (h : IsK w o A st base cur R) :
    Calls Tryz.prog 126 #[.pointer (some ⟨o, 0, none⟩)] w fun e w' => ∃ A c, e = .returned (.agg #[.int .i64 cur, .slice A R.length c]) ∧ TRow w' A (formL base R) ∧ Below w.heap.size w w' := by
  obtain ⟨s, b, mp, mw, v, L, h1, h2, -, -⟩ := h
  have hb1 : Below w.heap.size w (w.alloc (.cells #[.int .i64 0, .slice none 0 0] 47)) := (Below.refl _ w).alloc (Nat.le_refl _) _
  have hf1 : FoAt (w.alloc (.cells #[.int .i64 0, .slice none 0 0] 47)) w.heap.size 0 none 0 0 := heap_alloc_new w _
  obtain ⟨w1, hw1⟩ : ∃ w1, w.alloc (.cells #[.int .i64 0, .slice none 0 0] 47) = w1 := ⟨_, rfl⟩
  have hs1 : w1.heap.size = w.heap.size + 1 := by rw [← hw1]; simp
  rw [hw1] at hb1 hf1
  have c0 := (h1.keep (hb1.block o h1.lt)).cell
  have K := Lib.hid (sform_c s b mp mw v st base cur L R w1 (h2.below hb1))
  have H1 := Lib.hid (And.intro hb1 (And.intro hf1 hs1))
  clear h1 h2 hb1 hf1 hs1
  go_enter Tryz.func126, Tryz.ntmps126
  go_wp2_with fail
  refine K.out.mono ?_
  rintro e w2 ⟨g, c, rfl, hT, hb, hg⟩
  have hf2 : FoAt w2 w.heap.size 0 none 0 0 := BoxAt.next H1.out.2.1 hb (Nat.le_refl _)
  obtain ⟨t0, t1, t2, t3⟩ := two_cells hf2 (.int .i64 cur)
  have hf3 : FoAt (set2 w2 w.heap.size (.int .i64 cur) (.slice (some ⟨g, 0, none⟩) R.length c)) w.heap.size cur (some ⟨g, 0, none⟩) R.length c := set2_same _ _ hf2
  have hb3 : Below w.heap.size w (set2 w2 w.heap.size (.int .i64 cur) (.slice (some ⟨g, 0, none⟩) R.length c)) := below_set2 _ _ (H1.out.1.trans (hb.mono (by have := H1.out.2.2; omega))) (Nat.le_refl _)
  have hT3 : TRow (set2 w2 w.heap.size (.int .i64 cur) (.slice (some ⟨g, 0, none⟩) R.length c)) (some ⟨g, 0, none⟩) (formL base R) := fun i r hir => by
    obtain ⟨ad, he, a0, a1, a2⟩ := hT i r hir
    obtain rfl := Option.some.inj he
    have hne : g ≠ w.heap.size := by have := H1.out.2.2; omega
    have hk : ∀ j, (set2 w2 w.heap.size (.int .i64 cur) (.slice (some ⟨g, 0, none⟩) R.length c)).cell? ((⟨g, 0, none⟩ : Addr).add j) = w2.cell? ((⟨g, 0, none⟩ : Addr).add j) := fun j => by
      rw [addr_add]
      exact cellq_of (set2_other _ _ hne) _
    exact ⟨_, rfl, (hk _).trans a0, (hk _).trans a1, (hk _).trans a2⟩
  have HT := Lib.hid (And.intro hf3 (And.intro hT3 hb3))
  clear hT hb K hf2 hf3 hb3 hT3 hg
  go_wp2_with fail
  refine bodyPost_ret (res_box1 rfl _ w.heap.size _ _ rfl HT.out.1 Tryz.underlying47 rfl (by kernel_rfl)) rfl ?_
  exact ⟨_, c, rfl, HT.out.2⟩
end

/-- What Seed answers. -/
def SeedPost (base f0 : Int) (l : List RI) (w : World) (e : Ending) (w' : World) : Prop :=
  if goodV f0 l = true ∧ -1152921504606846976 ≤ base ∧ base ≤ 1152921504606846976 then
    ∃ o A st, e = .returned (.tuple #[.pointer (some ⟨o, 0, none⟩), .int .i64 0]) ∧ IsK w' o A st base f0 (seedR base l) ∧ 0 ≤ st ∧ st ≤ 1000 ∧ (∀ k, A k → w.heap.size ≤ k) ∧ Below w.heap.size w w'
  else e = .returned (.tuple #[.pointer none, .int .i64 1]) ∧ Below w.heap.size w w'
set_option maxRecDepth 100000 in
set_option maxHeartbeats 2000000 in
theorem sseed_c (f0 base : Int) (A : Option Addr) (n c : Nat) (l : List RI) (w : World) (hn : l.length = n) (hl : n ≤ 4611686018427387904) (hr : TRow w A l) :
    Calls Tryz.prog 57 #[.agg #[.int .i64 f0, .slice A n c], .int .i64 base] w (SeedPost base f0 l w) := by
  have hb1 : Below w.heap.size w (w.alloc (.cells #[.int .i64 f0, .slice A n c] 47)) := (Below.refl _ w).alloc (Nat.le_refl _) _
  have hf1 : FoAt (w.alloc (.cells #[.int .i64 f0, .slice A n c] 47)) w.heap.size f0 A n c := heap_alloc_new w _
  obtain ⟨w0, hw0⟩ : ∃ w0, w.alloc (.cells #[.int .i64 f0, .slice A n c] 47) = w0 := ⟨_, rfl⟩
  have hs1 : w0.heap.size = w.heap.size + 1 := by rw [← hw0]; simp
  rw [hw0] at hb1 hf1
  obtain ⟨d0, d1, -, -⟩ := FoAt.cells hf1
  have K0 := pseed_c f0 base A n c l w0 hn hl (hr.below hb1 (Nat.le_refl _))
  have HB1 := Lib.hid (And.intro hb1 hs1)
  by_cases hg : goodV f0 l = true ∧ -1152921504606846976 ≤ base ∧ base ≤ 1152921504606846976
  · refine Calls.mono (?_ : Calls _ _ _ _ (fun e w' => ∃ o A st, e = .returned (.tuple #[.pointer (some ⟨o, 0, none⟩), .int .i64 0]) ∧ IsK w' o A st base f0 (seedR base l) ∧ 0 ≤ st ∧ st ≤ 1000 ∧ (∀ k, A k → w.heap.size ≤ k) ∧ Below w.heap.size w w')) (fun e w' h => by unfold SeedPost; rw [if_pos hg]; exact h)
    have K := Lib.hid (K0.mono (fun e w' h => by unfold SeedPostP at h; rw [if_pos hg] at h; exact h))
    clear hg hn hl hr hb1 hf1 hs1 K0
    go_enter Tryz.func57, Tryz.ntmps57
    go_wp2_with fail
    refine K.out.mono ?_
    rintro e w1 ⟨s, b, mp, mw, v, st, L, rfl, hq, s1, s2, hn, hb⟩
    have hz : w.heap.size ≤ w0.heap.size := HB1.out.1.size
    have hbw : Below w.heap.size w w1 := HB1.out.1.trans (hb.mono hz)
    have hb2 : Below w1.heap.size w1 (w1.alloc (.cells #[.pointer (some ⟨s, 0, none⟩)] 110)) := (Below.refl _ w1).alloc (Nat.le_refl _) _
    have FIN : Hid (IsK (w1.alloc (.cells #[.pointer (some ⟨s, 0, none⟩)] 110)) w1.heap.size (fun k => k = w1.heap.size ∨ SOf s b mp mw v k) st base f0 (seedR base l) ∧ 0 ≤ st ∧ st ≤ 1000 ∧ (∀ k, (k = w1.heap.size ∨ SOf s b mp mw v k) → w.heap.size ≤ k) ∧ Below w.heap.size w (w1.alloc (.cells #[.pointer (some ⟨s, 0, none⟩)] 110))) :=
      Lib.hid ⟨⟨s, b, mp, mw, v, L, World.alloc_heap_new w1 _, hq.below hb2, fun hh => by have := hq.lt _ hh; omega, fun _ => Iff.rfl⟩, s1, s2, fun k hk => by
        rcases hk with rfl | hk
        · exact hbw.size
        · exact Nat.le_trans hz (hn k hk), hbw.trans (hb2.mono hbw.size)⟩
    clear hq hn hb hb2 K s1 s2 hz hbw d0 d1
    go_wp2_with fail
    go_ret2
    exact ⟨_, _, _, rfl, FIN.out⟩
  · refine Calls.mono (?_ : Calls _ _ _ _ (fun e w' => e = .returned (.tuple #[.pointer none, .int .i64 1]) ∧ Below w.heap.size w w')) (fun e w' h => by unfold SeedPost; rw [if_neg hg]; exact h)
    have K := Lib.hid (K0.mono (fun e w' h => by unfold SeedPostP at h; rw [if_neg hg] at h; exact h))
    clear hg hn hl hr hb1 hf1 hs1 K0
    go_enter Tryz.func57, Tryz.ntmps57
    go_wp2_with fail
    refine K.out.mono ?_
    rintro e w1 ⟨rfl, hb⟩
    have HB := Lib.hid (HB1.out.1.trans (hb.mono HB1.out.1.size))
    clear hb K d0 d1
    go_wp2_with fail
    go_ret2
    exact ⟨rfl, HB.out⟩

/-- A queue that was made since W, its steps at most S; the blocks F are none of its. -/
def SIn (W w : World) (s : Nat) (base cur : Int) (R : List RI) (S : Nat) (F : Nat → Prop) : Prop :=
  ∃ A st, IsK w s A st base cur R ∧ 0 ≤ st ∧ st ≤ (S : Int) ∧ (∀ k, A k → W.heap.size ≤ k) ∧ Below W.heap.size W w ∧ ∀ k, F k → k < w.heap.size ∧ ¬ A k
section
variable {W w w' : World} {s S : Nat} {base cur : Int} {R : List RI} {F : Nat → Prop}
theorem SIn.wf (h : SIn W w s base cur R S F) : WfS base cur R := by
  obtain ⟨A, st, h1, _⟩ := h
  exact h1.wf
theorem SIn.frame (h : SIn W w s base cur R S F) : Below W.heap.size W w := by
  obtain ⟨A, st, h1, h2, h3, h4, h5, h6⟩ := h
  exact h5
theorem SIn.below (h : SIn W w s base cur R S F) (hb : Below w.heap.size w w') : SIn W w' s base cur R S F := by
  obtain ⟨A, st, h1, h2, h3, h4, h5, h6⟩ := h
  exact ⟨A, st, h1.below hb, h2, h3, h4, h5.trans (hb.mono h5.size), fun k hk => ⟨by have := (h6 k hk).1; have := hb.size; omega, (h6 k hk).2⟩⟩
theorem SIn.weak (h : SIn W w s base cur R S F) {S' : Nat} (hS : S ≤ S') : SIn W w s base cur R S' F := by
  obtain ⟨A, st, h1, h2, h3, h4, h5, h6⟩ := h
  exact ⟨A, st, h1, h2, by omega, h4, h5, h6⟩
/-- What has been made since is none of its. -/
theorem SIn.more {G : Nat → Prop} (h : SIn W w s base cur R S F) (hb : Below w.heap.size w w') (hG : ∀ k, G k → F k ∨ (w.heap.size ≤ k ∧ k < w'.heap.size)) : SIn W w' s base cur R S G := by
  obtain ⟨A, st, h1, h2, h3, h4, h5, h6⟩ := h
  refine ⟨A, st, h1.below hb, h2, h3, h4, h5.trans (hb.mono h5.size), fun k hk => ?_⟩
  rcases hG k hk with h | h
  · exact ⟨by have := (h6 k h).1; have := hb.size; omega, (h6 k h).2⟩
  · exact ⟨h.2, fun hq => by have := h1.lt k hq; omega⟩
theorem SIn.alloc (h : SIn W w s base cur R S F) (o : Obj) : SIn W (w.alloc o) s base cur R S F := h.below ((Below.refl _ w).alloc (Nat.le_refl _) o)
theorem SIn.post {A : Nat → Prop} {K : Nat} {st base' cur' : Int} {R' : List RI} (hP : KPost s A st base' cur' R' K w w') (h2 : 0 ≤ st) (h3 : st ≤ (S : Int)) (h4 : ∀ k, A k → W.heap.size ≤ k) (h5 : Below W.heap.size W w) (h6 : ∀ k, F k → k < w.heap.size ∧ ¬ A k) :
    SIn W w' s base' cur' R' (S + K) F ∧ ∀ k, F k → w'.heap[k]? = w.heap[k]? := by
  obtain ⟨A', k, hk, hq, ht⟩ := hP
  refine ⟨⟨A', _, hq, by omega, by omega, fun j hj => ?_, h5.trans (ht.below h4 h5.size), fun j hj => ?_⟩, fun j hj => ht.block j (h6 j hj).1 (h6 j hj).2⟩
  · rcases ht.sub j hj with h | h
    · exact h4 j h
    · have := h5.size; omega
  · have h7 := (h6 j hj).1
    refine ⟨by have := ht.size; omega, fun hq' => ?_⟩
    rcases ht.sub j hq' with h | h
    · exact (h6 j hj).2 h
    · omega
/-- What comes back, and what is left. -/
def InPost (W w : World) (s : Nat) (base cur : Int) (R : List RI) (S : Nat) (F : Nat → Prop) (r : Value) (e : Ending) (w' : World) : Prop :=
  e = .returned r ∧ SIn W w' s base cur R S F ∧ ∀ k, F k → w'.heap[k]? = w.heap[k]?
theorem sput_in (x : RI) (h : SIn W w s base cur R S F) (h1 : -3900000000000000000 ≤ base) (h2 : base ≤ 3900000000000000000) (hS : S ≤ 1000000000) :
    Calls Tryz.prog 129 #[.pointer (some ⟨s, 0, none⟩), .int .i64 x.1, .int .i64 x.2.1, .int .i64 x.2.2] w (InPost W w s (putM base R x).2.1 cur (putM base R x).2.2 (S + 8) F (.int .i64 (putM base R x).1)) := by
  obtain ⟨A, st, g1, g2, g3, g4, g5, g6⟩ := h
  refine (sput_k x.1 x.2.1 x.2.2 w g1 h1 h2 g2 (by omega)).mono ?_
  rintro e w' ⟨rfl, hP⟩
  exact ⟨rfl, SIn.post hP g2 g3 g4 g5 g6⟩
theorem senter_in (x : RI) (h : SIn W w s base cur R S F) (h1 : -3900000000000000000 ≤ base) (h2 : base ≤ 3900000000000000000) (hS : S ≤ 1000000000) :
    Calls Tryz.prog 125 #[.pointer (some ⟨s, 0, none⟩), .int .i64 x.1, .int .i64 x.2.1, .int .i64 x.2.2] w (InPost W w s (enterM base R x).2.1 cur (enterM base R x).2.2 (S + 8) F (.int .i64 (enterM base R x).1)) := by
  obtain ⟨A, st, g1, g2, g3, g4, g5, g6⟩ := h
  refine (senter_k x.1 x.2.1 x.2.2 w g1 h1 h2 g2 (by omega)).mono ?_
  rintro e w' ⟨rfl, hP⟩
  exact ⟨rfl, SIn.post hP g2 g3 g4 g5 g6⟩
theorem spick_in (h : SIn W w s base cur R S F) :
    Calls Tryz.prog 128 #[.pointer (some ⟨s, 0, none⟩)] w (InPost W w s base (if R = [] then -1 else (minR R).2) R S F (.tuple #[.int .i64 (if R = [] then 0 else (minR R).2), .bool (!decide (R = []))])) := by
  obtain ⟨A, st, g1, g2, g3, g4, g5, g6⟩ := h
  refine (spick_k w g1).mono ?_
  rintro e w' ⟨rfl, hP⟩
  exact ⟨rfl, SIn.post hP g2 g3 g4 g5 g6⟩
theorem scharge_in (h : SIn W w s base cur R S F) (hS : S ≤ 1000000000) :
    Calls Tryz.prog 124 #[.pointer (some ⟨s, 0, none⟩)] w (InPost W w s (chargeM base cur R).2.2.1 cur (chargeM base cur R).2.2.2 (S + 16) F (.tuple #[.int .i64 (chargeM base cur R).1, .int .i64 (chargeM base cur R).2.1])) := by
  obtain ⟨A, st, g1, g2, g3, g4, g5, g6⟩ := h
  refine (scharge_k w g1 g2 (by omega)).mono ?_
  rintro e w' ⟨rfl, hP⟩
  exact ⟨rfl, SIn.post hP g2 g3 g4 g5 g6⟩
theorem sleave_in (id : Int) (h : SIn W w s base cur R S F) (hid : wf64 id) (hS : S ≤ 1000000000) :
    Calls Tryz.prog 127 #[.pointer (some ⟨s, 0, none⟩), .int .i64 id] w (InPost W w s (leaveM base cur R id).2.2.1 (leaveM base cur R id).2.2.2.1 (leaveM base cur R id).2.2.2.2 (S + 8) F (.tuple #[.int .i64 (leaveM base cur R id).1, .int .i64 (leaveM base cur R id).2.1])) := by
  obtain ⟨A, st, g1, g2, g3, g4, g5, g6⟩ := h
  refine (sleave_k id w g1 hid g2 (by omega)).mono ?_
  rintro e w' ⟨rfl, hP⟩
  exact ⟨rfl, SIn.post hP g2 g3 g4 g5 g6⟩
theorem sweigh_in (id n : Int) (h : SIn W w s base cur R S F) (hid : wf64 id) (hn : wf64 n) :
    Calls Tryz.prog 130 #[.pointer (some ⟨s, 0, none⟩), .int .i64 id, .int .i64 n] w (InPost W w s base cur (weighM R id n).2 S F (.int .i64 (weighM R id n).1)) := by
  obtain ⟨A, st, g1, g2, g3, g4, g5, g6⟩ := h
  refine (sweigh_k id n w g1 hid hn).mono ?_
  rintro e w' ⟨rfl, hP⟩
  exact ⟨rfl, SIn.post hP g2 g3 g4 g5 g6⟩
def FormPost (W w : World) (s : Nat) (base cur : Int) (R : List RI) (S : Nat) (F : Nat → Prop) (e : Ending) (w' : World) : Prop :=
  ∃ A c, e = .returned (.agg #[.int .i64 cur, .slice A R.length c]) ∧ TRow w' A (formL base R) ∧ SIn W w' s base cur R S F ∧ Below w.heap.size w w'
theorem sform_in (h : SIn W w s base cur R S F) :
    Calls Tryz.prog 126 #[.pointer (some ⟨s, 0, none⟩)] w (FormPost W w s base cur R S F) := by
  have h' := h
  obtain ⟨A, st, g1, _⟩ := h
  refine (sform_k w g1).mono ?_
  rintro e w' ⟨A, c, rfl, hT, hb⟩
  exact ⟨A, c, rfl, hT, h'.below hb, hb⟩
theorem formL_length (base : Int) (R : List RI) : (formL base R).length = R.length := by unfold formL; simp
end

/-! The law's awake -/
def awS : Nat → Int × List RI
  | 0 => (0, [(1, 1, 0), (2, 2, 0)])
  | k + 1 => let c := chargeM (awS k).1 (minR (awS k).2).2 (awS k).2; (c.2.2.1, c.2.2.2)
def wantA : List Int := [1, 2, 2, 1, 2, 2]
def awOk (k : Nat) : Bool := !decide ((awS k).2 = []) && decide (wantA[k]? = some (minR (awS k).2).2) && decide (chargeM (awS k).1 (minR (awS k).2).2 (awS k).2 = ((minR (awS k).2).2, 0, awS (k + 1)))
theorem aw_next : ∀ k, k < 6 → awOk k = true := by decide +kernel
theorem aw_init : enterM 0 [] (1, 1, 0) = (0, 0, [(1, 1, 0)]) ∧ enterM 0 [(1, 1, 0)] (2, 2, 0) = (0, 0, [(1, 1, 0), (2, 2, 0)]) := by decide +kernel
end Go.Proofs.YtandmngfajoinaaGreat.St

namespace Go.Proofs.YtandmngfajoinaaGreat.Fa
open Go.RowKit Go.Maps

def OBox (w : World) (o s : Nat) : Prop := w.heap[o]? = some (.cells #[.pointer (some ⟨s, 0, none⟩)] 112 (0, 0))
theorem OBox.lt {w : World} {o s : Nat} (h : OBox w o s) : o < w.heap.size := (Array.getElem?_eq_some_iff.1 h).1
theorem OBox.cell {w : World} {o s : Nat} (h : OBox w o s) : w.cell? ⟨o, 0, none⟩ = some (.pointer (some ⟨s, 0, none⟩)) := by simp [World.cell?, show w.heap[o]? = _ from h]
theorem OBox.keep {w w' : World} {o s : Nat} (h : OBox w o s) (hs : w'.heap[o]? = w.heap[o]?) : OBox w' o s := hs.trans h

/-- Block o is a queue; A: its blocks. -/
def IsK (w : World) (o : Nat) (A : Nat → Prop) (st base cur : Int) (R : List RI) : Prop :=
  ∃ s b mp mw v L, OBox w o s ∧ IsS w s b mp mw v st base cur L R ∧ ¬ SOf s b mp mw v o ∧ ∀ k, A k ↔ (k = o ∨ SOf s b mp mw v k)
/-- What is left behind a call. -/
def KPost (o : Nat) (A : Nat → Prop) (st base cur : Int) (R : List RI) (K : Nat) (w w' : World) : Prop :=
  ∃ A', ∃ k : Nat, k ≤ K ∧ IsK w' o A' (st + (k : Int)) base cur R ∧ Trip A w A' w'
section
variable {w w' : World} {o : Nat} {A : Nat → Prop} {st base cur : Int} {R : List RI}
theorem IsK.wf (h : IsK w o A st base cur R) : WfS base cur R := by
  obtain ⟨s, b, mp, mw, v, L, h1, h2, h3, h4⟩ := h
  exact h2.wf
theorem IsK.self_of (h : IsK w o A st base cur R) : A o := by
  obtain ⟨s, b, mp, mw, v, L, h1, h2, h3, h4⟩ := h
  exact (h4 o).2 (.inl rfl)
theorem IsK.lt (h : IsK w o A st base cur R) : ∀ k, A k → k < w.heap.size := by
  obtain ⟨s, b, mp, mw, v, L, h1, h2, h3, h4⟩ := h
  intro k hk
  rcases (h4 k).1 hk with rfl | hk
  · exact h1.lt
  · exact h2.lt k hk
theorem IsK.keep (h : IsK w o A st base cur R) (hs : ∀ k, A k → w'.heap[k]? = w.heap[k]?) : IsK w' o A st base cur R := by
  obtain ⟨s, b, mp, mw, v, L, h1, h2, h3, h4⟩ := h
  exact ⟨s, b, mp, mw, v, L, h1.keep (hs o ((h4 o).2 (.inl rfl))), h2.keep (fun k hk => hs k ((h4 k).2 (.inr hk))), h3, h4⟩
theorem IsK.below (h : IsK w o A st base cur R) (hb : Below w.heap.size w w') : IsK w' o A st base cur R := h.keep (fun k hk => hb.block k (h.lt k hk))
theorem IsK.self (h : IsK w o A st base cur R) (hb : Below w.heap.size w w') : Trip A w A w' := below_trip hb h.lt
theorem KPost.same {K : Nat} (h : IsK w o A st base cur R) (hb : Below w.heap.size w w') : KPost o A st base cur R K w w' :=
  ⟨A, 0, Nat.zero_le _, by simpa using h.below hb, h.self hb⟩
theorem KPost.of {s b mp mw K : Nat} {v : Value} {base' cur' : Int} {L : List QI} {R' : List RI} (h1 : OBox w o s) (_h2 : IsS w s b mp mw v st base cur L R) (h3 : ¬ SOf s b mp mw v o) (h4 : ∀ k, A k ↔ (k = o ∨ SOf s b mp mw v k)) (hP : SPost s b mp mw v st base' cur' R' K w w') : KPost o A st base' cur' R' K w w' := by
  obtain ⟨v', L', k, hk, hq, ht⟩ := hP
  have ho := h1.lt
  have hz := ht.size
  refine ⟨fun j => j = o ∨ SOf s b mp mw v' j, k, hk, ⟨s, b, mp, mw, v', L', h1.keep (ht.block o ho h3), hq, fun hh => (ht.sub o hh).elim h3 (fun _ => by omega), fun _ => Iff.rfl⟩, ⟨ht.os, ht.tape, ht.output, hz, fun j hj hn => ht.block j hj (fun hh => hn ((h4 j).2 (.inr hh))), fun j hj => ?_, fun j hj => ?_⟩⟩
  · rcases hj with rfl | hj
    · exact .inl ((h4 _).2 (.inl rfl))
    · exact (ht.sub j hj).imp (fun hh => (h4 j).2 (.inr hh)) id
  · rcases hj with rfl | hj
    · omega
    · exact ht.bd j hj


set_option maxHeartbeats 1000000 in
theorem sput_k (x0 x1 x2 : Int) (w : World) (h : IsK w o A st base cur R) (b1 : -3900000000000000000 ≤ base) (b2 : base ≤ 3900000000000000000) (s1 : 0 ≤ st) (s2 : st < 1000000000000000) :
    Calls Tryz.prog 172 #[.pointer (some ⟨o, 0, none⟩), .int .i64 x0, .int .i64 x1, .int .i64 x2] w fun e w' => e = .returned (.int .i64 (putM base R (x0, x1, x2)).1) ∧ KPost o A st (putM base R (x0, x1, x2)).2.1 cur (putM base R (x0, x1, x2)).2.2 8 w w' := by
  obtain ⟨s, b, mp, mw, v, L, h1, h2, h3, h4⟩ := h
  have c0 := h1.cell
  have K := Lib.hid (sput_c x0 x1 x2 w h2 b1 b2 s1 s2)
  have POST := Lib.hid (fun w' (hP : SPost s b mp mw v st (putM base R (x0, x1, x2)).2.1 cur (putM base R (x0, x1, x2)).2.2 8 w w') => KPost.of h1 h2 h3 h4 hP)
  clear h1 h2 h3 h4
  go_enter Tryz.func172, Tryz.ntmps172
  go_wp2_with fail
  refine K.out.mono ?_
  rintro e w' ⟨rfl, hP⟩
  have HP := Lib.hid (POST.out _ hP)
  clear hP K POST
  go_wp2_with fail
  go_ret
  exact ⟨rfl, HP.out⟩

set_option maxHeartbeats 1000000 in
theorem sleave_k (id : Int) (w : World) (h : IsK w o A st base cur R) (hid : wf64 id) (s1 : 0 ≤ st) (s2 : st < 1000000000000000) :
    Calls Tryz.prog 170 #[.pointer (some ⟨o, 0, none⟩), .int .i64 id] w fun e w' => e = .returned (.tuple #[.int .i64 (leaveM base cur R id).1, .int .i64 (leaveM base cur R id).2.1]) ∧ KPost o A st (leaveM base cur R id).2.2.1 (leaveM base cur R id).2.2.2.1 (leaveM base cur R id).2.2.2.2 8 w w' := by
  obtain ⟨s, b, mp, mw, v, L, h1, h2, h3, h4⟩ := h
  have c0 := h1.cell
  have K := Lib.hid (sleave_c id w h2 hid s1 s2)
  have POST := Lib.hid (fun w' (hP : SPost s b mp mw v st (leaveM base cur R id).2.2.1 (leaveM base cur R id).2.2.2.1 (leaveM base cur R id).2.2.2.2 8 w w') => KPost.of h1 h2 h3 h4 hP)
  clear h1 h2 h3 h4
  go_enter Tryz.func170, Tryz.ntmps170
  go_wp2_with fail
  refine K.out.mono ?_
  rintro e w' ⟨rfl, hP⟩
  have HP := Lib.hid (POST.out _ hP)
  clear hP K POST
  go_wp2_with fail
  go_ret2
  exact ⟨rfl, HP.out⟩

set_option maxHeartbeats 1000000 in
theorem sweigh_k (id n : Int) (w : World) (h : IsK w o A st base cur R) (hid : wf64 id) (hn : wf64 n) :
    Calls Tryz.prog 173 #[.pointer (some ⟨o, 0, none⟩), .int .i64 id, .int .i64 n] w fun e w' => e = .returned (.int .i64 (weighM R id n).1) ∧ KPost o A st base cur (weighM R id n).2 0 w w' := by
  obtain ⟨s, b, mp, mw, v, L, h1, h2, h3, h4⟩ := h
  have c0 := h1.cell
  have K := Lib.hid (sweigh_c id n w h2 hid hn)
  have POST := Lib.hid (fun w' (hP : SPost s b mp mw v st base cur (weighM R id n).2 0 w w') => KPost.of h1 h2 h3 h4 hP)
  clear h1 h2 h3 h4
  go_enter Tryz.func173, Tryz.ntmps173
  go_wp2_with fail
  refine K.out.mono ?_
  rintro e w' ⟨rfl, hP⟩
  have HP := Lib.hid (POST.out _ hP)
  clear hP K POST
  go_wp2_with fail
  go_ret
  exact ⟨rfl, HP.out⟩

set_option maxHeartbeats 1000000 in
theorem scharge_k (w : World) (h : IsK w o A st base cur R) (s1 : 0 ≤ st) (s2 : st < 1000000000000000) :
    Calls Tryz.prog 167 #[.pointer (some ⟨o, 0, none⟩)] w fun e w' => e = .returned (.tuple #[.int .i64 (chargeM base cur R).1, .int .i64 (chargeM base cur R).2.1]) ∧ KPost o A st (chargeM base cur R).2.2.1 cur (chargeM base cur R).2.2.2 16 w w' := by
  obtain ⟨s, b, mp, mw, v, L, h1, h2, h3, h4⟩ := h
  have c0 := h1.cell
  have K := Lib.hid (scharge_c w h2 s1 s2)
  have POST := Lib.hid (fun w' (hP : SPost s b mp mw v st (chargeM base cur R).2.2.1 cur (chargeM base cur R).2.2.2 16 w w') => KPost.of h1 h2 h3 h4 hP)
  clear h1 h2 h3 h4
  go_enter Tryz.func167, Tryz.ntmps167
  go_wp2_with fail
  refine K.out.mono ?_
  rintro e w' ⟨rfl, hP⟩
  have HP := Lib.hid (POST.out _ hP)
  clear hP K POST
  go_wp2_with fail
  go_ret2
  exact ⟨rfl, HP.out⟩


/-- What Enter answers, and what it leaves. -/
def enterM (base : Int) (R : List RI) (x : RI) : Int × Int × List RI :=
  if 1125899906842624 < x.2.2 then (1, base, R) else putM base R (x.1, x.2.1, min x.2.2 698377680)

set_option maxRecDepth 100000 in
set_option maxHeartbeats 4000000 in
theorem senter_k (x0 x1 x2 : Int) (w : World) (h : IsK w o A st base cur R) (b1 : -3900000000000000000 ≤ base) (b2 : base ≤ 3900000000000000000) (s1 : 0 ≤ st) (s2 : st < 1000000000000000) :
    Calls Tryz.prog 168 #[.pointer (some ⟨o, 0, none⟩), .int .i64 x0, .int .i64 x1, .int .i64 x2] w fun e w' => e = .returned (.int .i64 (enterM base R (x0, x1, x2)).1) ∧ KPost o A st (enterM base R (x0, x1, x2)).2.1 cur (enterM base R (x0, x1, x2)).2.2 8 w w' := by
  have POST := Lib.hid (KPost.same (K := 8) h (Below.refl _ w))
  have KG := Lib.hid (goodlag_c x2 w)
  have KP := Lib.hid (fun z => sput_k x0 x1 z w h b1 b2 s1 s2)
  have e1 : Hid (lagB x2 = false → enterM base R (x0, x1, x2) = (1, base, R)) := Lib.hid (fun hc => by
    unfold enterM
    by_cases hx : (1125899906842624 : Int) < x2
    · rw [if_pos hx]
    · rw [if_neg hx]
      have hx2 : x2 < -1125899906842624 := by
        unfold lagB at hc
        simp only [Bool.and_eq_false_iff, decide_eq_false_iff_not] at hc
        omega
      have hi : itemB (x0, x1, min x2 698377680) = false := by
        cases hI : itemB (x0, x1, min x2 698377680) with
        | false => rfl
        | true => have := (itemB_true.1 hI).2.2.2.1; simp only at this; omega
      unfold putM
      rw [hi, if_neg (by decide)])
  have e2 : Hid (lagB x2 = true → enterM base R (x0, x1, x2) = putM base R (x0, x1, min x2 698377680)) := Lib.hid (fun hc => by
    unfold lagB at hc
    simp only [Bool.and_eq_true, decide_eq_true_eq] at hc
    unfold enterM
    rw [if_neg (by show ¬ (1125899906842624 : Int) < x2; omega)])
  generalize enterM base R (x0, x1, x2) = M at *
  clear h b1 b2 s1 s2
  cases hL : lagB x2 with
  | false =>
    have e := e1.out hL
    subst e
    rw [hL] at KG
    clear KP e1 e2 hL
    go_enter Tryz.func168, Tryz.ntmps168
    go_wp2_with fail
    refine KG.out.mono ?_
    rintro e w' ⟨rfl, rfl⟩
    go_wp2_with fail
    go_ret
    exact ⟨rfl, POST.out⟩
  | true =>
    have e := e2.out hL
    subst e
    rw [hL] at KG
    clear e1 e2 hL POST
    go_enter Tryz.func168, Tryz.ntmps168
    go_wp2_with fail
    refine KG.out.mono ?_
    rintro e w' ⟨rfl, rfl⟩
    go_wp2_with fail
    refine (KP.out _).mono ?_
    rintro e w' ⟨rfl, hP⟩
    have HP := Lib.hid hP
    clear hP KP KG
    go_wp2_with fail
    go_ret
    exact ⟨rfl, HP.out⟩

set_option maxRecDepth 100000 in
set_option maxHeartbeats 1000000 in
theorem sform_k (w : World) (h : IsK w o A st base cur R) :
    Calls Tryz.prog 169 #[.pointer (some ⟨o, 0, none⟩)] w fun e w' => ∃ A c, e = .returned (.agg #[.int .i64 cur, .slice A R.length c]) ∧ TRow w' A (formL base R) ∧ Below w.heap.size w w' := by
  obtain ⟨s, b, mp, mw, v, L, h1, h2, -, -⟩ := h
  have hb1 : Below w.heap.size w (w.alloc (.cells #[.int .i64 0, .slice none 0 0] 47)) := (Below.refl _ w).alloc (Nat.le_refl _) _
  have hf1 : FoAt (w.alloc (.cells #[.int .i64 0, .slice none 0 0] 47)) w.heap.size 0 none 0 0 := heap_alloc_new w _
  obtain ⟨w1, hw1⟩ : ∃ w1, w.alloc (.cells #[.int .i64 0, .slice none 0 0] 47) = w1 := ⟨_, rfl⟩
  have hs1 : w1.heap.size = w.heap.size + 1 := by rw [← hw1]; simp
  rw [hw1] at hb1 hf1
  have c0 := (h1.keep (hb1.block o h1.lt)).cell
  have K := Lib.hid (sform_c s b mp mw v st base cur L R w1 (h2.below hb1))
  have H1 := Lib.hid (And.intro hb1 (And.intro hf1 hs1))
  clear h1 h2 hb1 hf1 hs1
  go_enter Tryz.func169, Tryz.ntmps169
  go_wp2_with fail
  refine K.out.mono ?_
  rintro e w2 ⟨g, c, rfl, hT, hb, hg⟩
  have hf2 : FoAt w2 w.heap.size 0 none 0 0 := BoxAt.next H1.out.2.1 hb (Nat.le_refl _)
  obtain ⟨t0, t1, t2, t3⟩ := two_cells hf2 (.int .i64 cur)
  have hf3 : FoAt (set2 w2 w.heap.size (.int .i64 cur) (.slice (some ⟨g, 0, none⟩) R.length c)) w.heap.size cur (some ⟨g, 0, none⟩) R.length c := set2_same _ _ hf2
  have hb3 : Below w.heap.size w (set2 w2 w.heap.size (.int .i64 cur) (.slice (some ⟨g, 0, none⟩) R.length c)) := below_set2 _ _ (H1.out.1.trans (hb.mono (by have := H1.out.2.2; omega))) (Nat.le_refl _)
  have hT3 : TRow (set2 w2 w.heap.size (.int .i64 cur) (.slice (some ⟨g, 0, none⟩) R.length c)) (some ⟨g, 0, none⟩) (formL base R) := fun i r hir => by
    obtain ⟨ad, he, a0, a1, a2⟩ := hT i r hir
    obtain rfl := Option.some.inj he
    have hne : g ≠ w.heap.size := by have := H1.out.2.2; omega
    have hk : ∀ j, (set2 w2 w.heap.size (.int .i64 cur) (.slice (some ⟨g, 0, none⟩) R.length c)).cell? ((⟨g, 0, none⟩ : Addr).add j) = w2.cell? ((⟨g, 0, none⟩ : Addr).add j) := fun j => by
      rw [addr_add]
      exact cellq_of (set2_other _ _ hne) _
    exact ⟨_, rfl, (hk _).trans a0, (hk _).trans a1, (hk _).trans a2⟩
  have HT := Lib.hid (And.intro hf3 (And.intro hT3 hb3))
  clear hT hb K hf2 hf3 hb3 hT3 hg
  go_wp2_with fail
  refine bodyPost_ret (res_box1 rfl _ w.heap.size _ _ rfl HT.out.1 Tryz.underlying47 rfl (by kernel_rfl)) rfl ?_
  exact ⟨_, c, rfl, HT.out.2⟩
end

/-- What Seed answers. -/
def SeedPost (base f0 : Int) (l : List RI) (w : World) (e : Ending) (w' : World) : Prop :=
  if goodV f0 l = true ∧ -1152921504606846976 ≤ base ∧ base ≤ 1152921504606846976 then
    ∃ o A st, e = .returned (.tuple #[.pointer (some ⟨o, 0, none⟩), .int .i64 0]) ∧ IsK w' o A st base f0 (seedR base l) ∧ 0 ≤ st ∧ st ≤ 1000 ∧ (∀ k, A k → w.heap.size ≤ k) ∧ Below w.heap.size w w'
  else e = .returned (.tuple #[.pointer none, .int .i64 1]) ∧ Below w.heap.size w w'
set_option maxRecDepth 100000 in
set_option maxHeartbeats 2000000 in
theorem sseed_c (f0 base : Int) (A : Option Addr) (n c : Nat) (l : List RI) (w : World) (hn : l.length = n) (hl : n ≤ 4611686018427387904) (hr : TRow w A l) :
    Calls Tryz.prog 58 #[.agg #[.int .i64 f0, .slice A n c], .int .i64 base] w (SeedPost base f0 l w) := by
  have hb1 : Below w.heap.size w (w.alloc (.cells #[.int .i64 f0, .slice A n c] 47)) := (Below.refl _ w).alloc (Nat.le_refl _) _
  have hf1 : FoAt (w.alloc (.cells #[.int .i64 f0, .slice A n c] 47)) w.heap.size f0 A n c := heap_alloc_new w _
  obtain ⟨w0, hw0⟩ : ∃ w0, w.alloc (.cells #[.int .i64 f0, .slice A n c] 47) = w0 := ⟨_, rfl⟩
  have hs1 : w0.heap.size = w.heap.size + 1 := by rw [← hw0]; simp
  rw [hw0] at hb1 hf1
  obtain ⟨d0, d1, -, -⟩ := FoAt.cells hf1
  have K0 := pseed_c f0 base A n c l w0 hn hl (hr.below hb1 (Nat.le_refl _))
  have HB1 := Lib.hid (And.intro hb1 hs1)
  by_cases hg : goodV f0 l = true ∧ -1152921504606846976 ≤ base ∧ base ≤ 1152921504606846976
  · refine Calls.mono (?_ : Calls _ _ _ _ (fun e w' => ∃ o A st, e = .returned (.tuple #[.pointer (some ⟨o, 0, none⟩), .int .i64 0]) ∧ IsK w' o A st base f0 (seedR base l) ∧ 0 ≤ st ∧ st ≤ 1000 ∧ (∀ k, A k → w.heap.size ≤ k) ∧ Below w.heap.size w w')) (fun e w' h => by unfold SeedPost; rw [if_pos hg]; exact h)
    have K := Lib.hid (K0.mono (fun e w' h => by unfold SeedPostP at h; rw [if_pos hg] at h; exact h))
    clear hg hn hl hr hb1 hf1 hs1 K0
    go_enter Tryz.func58, Tryz.ntmps58
    go_wp2_with fail
    refine K.out.mono ?_
    rintro e w1 ⟨s, b, mp, mw, v, st, L, rfl, hq, s1, s2, hn, hb⟩
    have hz : w.heap.size ≤ w0.heap.size := HB1.out.1.size
    have hbw : Below w.heap.size w w1 := HB1.out.1.trans (hb.mono hz)
    have hb2 : Below w1.heap.size w1 (w1.alloc (.cells #[.pointer (some ⟨s, 0, none⟩)] 112)) := (Below.refl _ w1).alloc (Nat.le_refl _) _
    have FIN : Hid (IsK (w1.alloc (.cells #[.pointer (some ⟨s, 0, none⟩)] 112)) w1.heap.size (fun k => k = w1.heap.size ∨ SOf s b mp mw v k) st base f0 (seedR base l) ∧ 0 ≤ st ∧ st ≤ 1000 ∧ (∀ k, (k = w1.heap.size ∨ SOf s b mp mw v k) → w.heap.size ≤ k) ∧ Below w.heap.size w (w1.alloc (.cells #[.pointer (some ⟨s, 0, none⟩)] 112))) :=
      Lib.hid ⟨⟨s, b, mp, mw, v, L, World.alloc_heap_new w1 _, hq.below hb2, fun hh => by have := hq.lt _ hh; omega, fun _ => Iff.rfl⟩, s1, s2, fun k hk => by
        rcases hk with rfl | hk
        · exact hbw.size
        · exact Nat.le_trans hz (hn k hk), hbw.trans (hb2.mono hbw.size)⟩
    clear hq hn hb hb2 K s1 s2 hz hbw d0 d1
    go_wp2_with fail
    go_ret2
    exact ⟨_, _, _, rfl, FIN.out⟩
  · refine Calls.mono (?_ : Calls _ _ _ _ (fun e w' => e = .returned (.tuple #[.pointer none, .int .i64 1]) ∧ Below w.heap.size w w')) (fun e w' h => by unfold SeedPost; rw [if_neg hg]; exact h)
    have K := Lib.hid (K0.mono (fun e w' h => by unfold SeedPostP at h; rw [if_neg hg] at h; exact h))
    clear hg hn hl hr hb1 hf1 hs1 K0
    go_enter Tryz.func58, Tryz.ntmps58
    go_wp2_with fail
    refine K.out.mono ?_
    rintro e w1 ⟨rfl, hb⟩
    have HB := Lib.hid (HB1.out.1.trans (hb.mono HB1.out.1.size))
    clear hb K d0 d1
    go_wp2_with fail
    go_ret2
    exact ⟨rfl, HB.out⟩

/-- Who runs next: Cur goes on until it is too far ahead of the least one. -/
def pickC (cur : Int) (R : List RI) : Int := if R = [] then -1 else if hasI R cur = true then (if (minR R).1 < (getI R cur).2.2 - 465585120 then (minR R).2 else cur) else (minR R).2
def pickV (cur : Int) (R : List RI) : Int := if R = [] then 0 else pickC cur R
def pickB (R : List RI) : Bool := !decide (R = [])
section
variable {w w' : World} {o : Nat} {A : Nat → Prop} {st base cur : Int} {R : List RI}
theorem KPost.pre {W : World} {base' cur' : Int} {R' : List RI} {K : Nat} (h : IsK w o A st base cur R) (hb : Below w.heap.size w W) (hP : KPost o A st base' cur' R' K W w') : KPost o A st base' cur' R' K w w' := by
  obtain ⟨A', k, hk, hq, ht⟩ := hP
  exact ⟨A', k, hk, hq, (h.self hb).trans ht⟩
set_option maxRecDepth 100000 in
set_option maxHeartbeats 1000000 in
theorem far_k (x0 x1 : Int) (w : World) (h : IsK w o A st base cur R) (hR : R ≠ []) (hx1 : -4000000000000000000 ≤ x0) (hx2 : x0 ≤ 4000000000000000000) :
    Calls Tryz.prog 174 #[.pointer (some ⟨o, 0, none⟩), .agg #[.int .i64 x0, .int .i64 x1]] w fun e w' => e = .returned (.bool (decide ((minR R).1 < x0 - 465585120))) ∧ Below w.heap.size w w' := by
  obtain ⟨s, b, mp, mw, v, L, h1, h2, -, -⟩ := h
  have hb1 : Below w.heap.size w (w.alloc (.cells #[.int .i64 x0, .int .i64 x1] 136)) := (Below.refl _ w).alloc (Nat.le_refl _) _
  have hnew := World.alloc_heap_new w (.cells #[.int .i64 x0, .int .i64 x1] 136)
  obtain ⟨w1, hw1⟩ : ∃ w1, w.alloc (.cells #[.int .i64 x0, .int .i64 x1] 136) = w1 := ⟨_, rfl⟩
  have hs1 : w1.heap.size = w.heap.size + 1 := by rw [← hw1]; simp
  rw [hw1] at hb1 hnew
  have c0 := (h1.keep (hb1.block o h1.lt)).cell
  have KL := Lib.hid (sleast_c w1 (h2.below hb1))
  rw [if_neg hR] at KL
  generalize minR R = m at *
  obtain ⟨m0, m1⟩ := m
  simp only [encQ] at KL ⊢
  have hw : IntKind.i64.wrap (x0 - 465585120) = x0 - 465585120 := by rw [IntKind.wrap_i64]; omega
  have H1 := Lib.hid (And.intro hb1 (And.intro hnew hs1))
  clear h1 h2 hR hx1 hx2 hb1 hnew hs1
  go_enter Tryz.func174, Tryz.ntmps174
  go_wp2_with fail
  refine KL.out.mono ?_
  rintro e w2 ⟨rfl, hb2⟩
  obtain ⟨w3, hw3⟩ : ∃ w3, w2.alloc (.cells #[.int .i64 m0, .int .i64 m1] 136) = w3 := ⟨_, rfl⟩
  have hb23 : Below w1.heap.size w1 w3 := by rw [← hw3]; exact hb2.alloc hb2.size _
  have hn3 : w3.heap[w2.heap.size]? = some (.cells #[.int .i64 m0, .int .i64 m1] 136 (0, 0)) := by rw [← hw3]; exact World.alloc_heap_new _ _
  have hx3 : w3.heap[w.heap.size]? = some (.cells #[.int .i64 x0, .int .i64 x1] 136 (0, 0)) := (hb23.block _ (by rw [H1.out.2.2]; omega)).trans H1.out.2.1
  have y0 : w3.cell? ⟨w2.heap.size, 0, none⟩ = some (.int .i64 m0) := by simp [World.cell?, hn3]
  have z0 : w3.cell? ⟨w.heap.size, 0, none⟩ = some (.int .i64 x0) := by simp [World.cell?, hx3]
  have HB := Lib.hid (H1.out.1.trans (hb23.mono (by rw [H1.out.2.2]; omega)))
  clear hb2 hb23 hn3 hx3 KL c0
  go_wp2_with fail
  go_ret
  exact ⟨rfl, HB.out⟩
set_option maxRecDepth 100000 in
set_option maxHeartbeats 4000000 in
theorem spick_k (w : World) (h : IsK w o A st base cur R) :
    Calls Tryz.prog 171 #[.pointer (some ⟨o, 0, none⟩)] w fun e w' => e = .returned (.tuple #[.int .i64 (pickV cur R), .bool (pickB R)]) ∧ KPost o A st base (pickC cur R) R 0 w w' := by
  have h' := h
  obtain ⟨s, b, mp, mw, v, L, h1, h2, h3, h4⟩ := h
  have c0 := h1.cell
  have KC := Lib.hid (scur_c w h2)
  have KP : Hid (∀ W, Below w.heap.size w W → Calls Tryz.prog 135 #[.pointer (some ⟨s, 0, none⟩)] W fun e w' => e = .returned (.tuple #[.int .i64 (if R = [] then 0 else (minR R).2), .bool (!decide (R = []))]) ∧ KPost o A st base (if R = [] then -1 else (minR R).2) R 0 w w') :=
    Lib.hid (fun W hb => (spick_c W (h2.below hb)).mono (fun e w' ⟨he, hP⟩ => ⟨he, KPost.pre h' hb (KPost.of (h1.keep (hb.block o h1.lt)) (h2.below hb) h3 h4 hP)⟩))
  have OB : Hid (∀ W, Below w.heap.size w W → W.cell? ⟨o, 0, none⟩ = some (.pointer (some ⟨s, 0, none⟩))) := Lib.hid (fun W hb => (h1.keep (hb.block o h1.lt)).cell)
  unfold pickB
  cases hI : hasI R cur with
  | false =>
    have e1 : pickC cur R = if R = [] then -1 else (minR R).2 := by unfold pickC; rw [hI]; rfl
    have e2 : pickV cur R = if R = [] then 0 else (minR R).2 := by
      unfold pickV
      rw [e1]
      by_cases hR : R = []
      · rw [if_pos hR, if_pos hR]
      · rw [if_neg hR, if_neg hR, if_neg hR]
    have e3 : curV cur R = ((0, 0), false) := by unfold curV; rw [hI]; rfl
    rw [e1, e2]
    rw [e3] at KC
    generalize (if R = [] then (0 : Int) else (minR R).2) = r0 at *
    generalize (if R = [] then (-1 : Int) else (minR R).2) = r1 at *
    generalize decide (R = []) = r2 at *
    simp only [encQ] at KC
    clear h' h1 h2 h3 h4 hI e1 e2 e3
    go_enter Tryz.func171, Tryz.ntmps171
    go_wp2_with fail
    refine KC.out.mono ?_
    rintro e w1 ⟨rfl, hb⟩
    have hb2 : Below w.heap.size w (w1.alloc (.cells #[.int .i64 0, .int .i64 0] 136)) := hb.alloc hb.size _
    have c2 := OB.out _ hb2
    have K2 := Lib.hid (KP.out _ hb2)
    clear hb hb2 KC KP OB
    go_wp2_with fail
    refine K2.out.mono ?_
    rintro e w3 ⟨rfl, hP⟩
    have HP := Lib.hid hP
    clear hP K2
    go_wp2_with fail
    go_ret2
    exact ⟨rfl, HP.out⟩
  | true =>
    obtain ⟨hr, he⟩ := getI_mem hI
    have hR : R ≠ [] := List.ne_nil_of_mem hr
    have heach := h'.wf.each _ hr
    have e1 : pickC cur R = if (minR R).1 < (getI R cur).2.2 - 465585120 then (minR R).2 else cur := by unfold pickC; rw [if_neg hR, hI, if_pos rfl]
    have e2 : pickV cur R = pickC cur R := by unfold pickV; rw [if_neg hR]
    have e3 : curV cur R = (((getI R cur).2.2, cur), true) := by unfold curV; rw [hI, if_pos rfl]
    rw [e2, e1, decide_eq_false hR]
    rw [e3] at KC
    rw [if_neg hR, if_neg hR, decide_eq_false hR] at KP
    have KF : Hid (∀ W, Below w.heap.size w W → Calls Tryz.prog 174 #[.pointer (some ⟨o, 0, none⟩), .agg #[.int .i64 (getI R cur).2.2, .int .i64 cur]] W fun e w' => e = .returned (.bool (decide ((minR R).1 < (getI R cur).2.2 - 465585120))) ∧ Below W.heap.size W w') := Lib.hid (fun W hb => far_k _ _ W (h'.below hb) hR heach.2.2.2.2.1 heach.2.2.2.2.2)
    have POST : Hid (∀ W, Below w.heap.size w W → KPost o A st base cur R 0 w W) := Lib.hid (fun W hb => KPost.same h' hb)
    generalize (getI R cur).2.2 = x0 at *
    generalize minR R = m at *
    obtain ⟨m0, m1⟩ := m
    simp only [encQ] at KC KP KF ⊢
    clear h' h1 h2 h3 h4 hI e1 e2 e3 hr he hR heach
    obtain ⟨M, hM⟩ : ∃ M, (if m0 < x0 - 465585120 then m1 else cur) = M := ⟨_, rfl⟩
    rw [hM]
    have HM := Lib.hid hM
    clear hM
    go_enter Tryz.func171, Tryz.ntmps171
    go_wp2_with fail
    refine KC.out.mono ?_
    rintro e w1 ⟨rfl, hb⟩
    obtain ⟨w2, hw2⟩ : ∃ w2, w1.alloc (.cells #[.int .i64 x0, .int .i64 cur] 136) = w2 := ⟨_, rfl⟩
    have hb2 : Below w.heap.size w w2 := by rw [← hw2]; exact hb.alloc hb.size _
    have hn2 : w2.heap[w1.heap.size]? = some (.cells #[.int .i64 x0, .int .i64 cur] 136 (0, 0)) := by rw [← hw2]; exact World.alloc_heap_new _ _
    have hs2 : w2.heap.size = w1.heap.size + 1 := by rw [← hw2]; simp
    have y0 : w2.cell? ⟨w1.heap.size, 0, none⟩ = some (.int .i64 x0) := by simp [World.cell?, hn2]
    have y1 : w2.cell? ⟨w1.heap.size, 1, none⟩ = some (.int .i64 cur) := by simp [World.cell?, hn2]
    have K2 := Lib.hid (KF.out _ hb2)
    have H2 := Lib.hid (And.intro hb2 (And.intro hn2 hs2))
    clear hb hb2 hn2 hs2 KC KF
    by_cases hf : m0 < x0 - 465585120
    · rw [decide_eq_true hf] at K2
      have hm := HM.out
      rw [if_pos hf] at hm
      subst hm
      go_wp2_with fail
      refine K2.out.mono ?_
      rintro e w3 ⟨rfl, hb3⟩
      have hb4 := H2.out.1.trans (hb3.mono H2.out.1.size)
      have c3 := OB.out _ hb4
      have K3 := Lib.hid (KP.out _ hb4)
      clear hb3 hb4 K2 KP OB y0 y1
      go_wp2_with fail
      refine K3.out.mono ?_
      rintro e w4 ⟨rfl, hP⟩
      have HP := Lib.hid hP
      clear hP K3
      go_wp2_with fail
      go_ret2
      exact ⟨rfl, HP.out⟩
    · rw [decide_eq_false hf] at K2
      have hm := HM.out
      rw [if_neg hf] at hm
      subst hm
      go_wp2_with fail
      refine K2.out.mono ?_
      rintro e w3 ⟨rfl, hb3⟩
      have hn3 : w3.heap[w1.heap.size]? = some (.cells #[.int .i64 x0, .int .i64 cur] 136 (0, 0)) := (hb3.block _ (by rw [H2.out.2.2]; omega)).trans H2.out.2.1
      have z1 : w3.cell? ⟨w1.heap.size, 1, none⟩ = some (.int .i64 cur) := by simp [World.cell?, hn3]
      have FIN := Lib.hid (POST.out _ (H2.out.1.trans (hb3.mono H2.out.1.size)))
      clear hb3 hn3 K2 KP OB y0 y1 POST
      go_wp2_with fail
      go_ret2
      exact ⟨rfl, FIN.out⟩
end

/-- A queue that was made since W, its steps at most S; the blocks F are none of its. -/
def SIn (W w : World) (s : Nat) (base cur : Int) (R : List RI) (S : Nat) (F : Nat → Prop) : Prop :=
  ∃ A st, IsK w s A st base cur R ∧ 0 ≤ st ∧ st ≤ (S : Int) ∧ (∀ k, A k → W.heap.size ≤ k) ∧ Below W.heap.size W w ∧ ∀ k, F k → k < w.heap.size ∧ ¬ A k
section
variable {W w w' : World} {s S : Nat} {base cur : Int} {R : List RI} {F : Nat → Prop}
theorem SIn.wf (h : SIn W w s base cur R S F) : WfS base cur R := by
  obtain ⟨A, st, h1, _⟩ := h
  exact h1.wf
theorem SIn.frame (h : SIn W w s base cur R S F) : Below W.heap.size W w := by
  obtain ⟨A, st, h1, h2, h3, h4, h5, h6⟩ := h
  exact h5
theorem SIn.below (h : SIn W w s base cur R S F) (hb : Below w.heap.size w w') : SIn W w' s base cur R S F := by
  obtain ⟨A, st, h1, h2, h3, h4, h5, h6⟩ := h
  exact ⟨A, st, h1.below hb, h2, h3, h4, h5.trans (hb.mono h5.size), fun k hk => ⟨by have := (h6 k hk).1; have := hb.size; omega, (h6 k hk).2⟩⟩
theorem SIn.weak (h : SIn W w s base cur R S F) {S' : Nat} (hS : S ≤ S') : SIn W w s base cur R S' F := by
  obtain ⟨A, st, h1, h2, h3, h4, h5, h6⟩ := h
  exact ⟨A, st, h1, h2, by omega, h4, h5, h6⟩
/-- What has been made since is none of its. -/
theorem SIn.more {G : Nat → Prop} (h : SIn W w s base cur R S F) (hb : Below w.heap.size w w') (hG : ∀ k, G k → F k ∨ (w.heap.size ≤ k ∧ k < w'.heap.size)) : SIn W w' s base cur R S G := by
  obtain ⟨A, st, h1, h2, h3, h4, h5, h6⟩ := h
  refine ⟨A, st, h1.below hb, h2, h3, h4, h5.trans (hb.mono h5.size), fun k hk => ?_⟩
  rcases hG k hk with h | h
  · exact ⟨by have := (h6 k h).1; have := hb.size; omega, (h6 k h).2⟩
  · exact ⟨h.2, fun hq => by have := h1.lt k hq; omega⟩
theorem SIn.alloc (h : SIn W w s base cur R S F) (o : Obj) : SIn W (w.alloc o) s base cur R S F := h.below ((Below.refl _ w).alloc (Nat.le_refl _) o)
theorem SIn.post {A : Nat → Prop} {K : Nat} {st base' cur' : Int} {R' : List RI} (hP : KPost s A st base' cur' R' K w w') (h2 : 0 ≤ st) (h3 : st ≤ (S : Int)) (h4 : ∀ k, A k → W.heap.size ≤ k) (h5 : Below W.heap.size W w) (h6 : ∀ k, F k → k < w.heap.size ∧ ¬ A k) :
    SIn W w' s base' cur' R' (S + K) F ∧ ∀ k, F k → w'.heap[k]? = w.heap[k]? := by
  obtain ⟨A', k, hk, hq, ht⟩ := hP
  refine ⟨⟨A', _, hq, by omega, by omega, fun j hj => ?_, h5.trans (ht.below h4 h5.size), fun j hj => ?_⟩, fun j hj => ht.block j (h6 j hj).1 (h6 j hj).2⟩
  · rcases ht.sub j hj with h | h
    · exact h4 j h
    · have := h5.size; omega
  · have h7 := (h6 j hj).1
    refine ⟨by have := ht.size; omega, fun hq' => ?_⟩
    rcases ht.sub j hq' with h | h
    · exact (h6 j hj).2 h
    · omega
/-- What comes back, and what is left. -/
def InPost (W w : World) (s : Nat) (base cur : Int) (R : List RI) (S : Nat) (F : Nat → Prop) (r : Value) (e : Ending) (w' : World) : Prop :=
  e = .returned r ∧ SIn W w' s base cur R S F ∧ ∀ k, F k → w'.heap[k]? = w.heap[k]?
theorem sput_in (x : RI) (h : SIn W w s base cur R S F) (h1 : -3900000000000000000 ≤ base) (h2 : base ≤ 3900000000000000000) (hS : S ≤ 1000000000) :
    Calls Tryz.prog 172 #[.pointer (some ⟨s, 0, none⟩), .int .i64 x.1, .int .i64 x.2.1, .int .i64 x.2.2] w (InPost W w s (putM base R x).2.1 cur (putM base R x).2.2 (S + 8) F (.int .i64 (putM base R x).1)) := by
  obtain ⟨A, st, g1, g2, g3, g4, g5, g6⟩ := h
  refine (sput_k x.1 x.2.1 x.2.2 w g1 h1 h2 g2 (by omega)).mono ?_
  rintro e w' ⟨rfl, hP⟩
  exact ⟨rfl, SIn.post hP g2 g3 g4 g5 g6⟩
theorem senter_in (x : RI) (h : SIn W w s base cur R S F) (h1 : -3900000000000000000 ≤ base) (h2 : base ≤ 3900000000000000000) (hS : S ≤ 1000000000) :
    Calls Tryz.prog 168 #[.pointer (some ⟨s, 0, none⟩), .int .i64 x.1, .int .i64 x.2.1, .int .i64 x.2.2] w (InPost W w s (enterM base R x).2.1 cur (enterM base R x).2.2 (S + 8) F (.int .i64 (enterM base R x).1)) := by
  obtain ⟨A, st, g1, g2, g3, g4, g5, g6⟩ := h
  refine (senter_k x.1 x.2.1 x.2.2 w g1 h1 h2 g2 (by omega)).mono ?_
  rintro e w' ⟨rfl, hP⟩
  exact ⟨rfl, SIn.post hP g2 g3 g4 g5 g6⟩
theorem spick_in (h : SIn W w s base cur R S F) :
    Calls Tryz.prog 171 #[.pointer (some ⟨s, 0, none⟩)] w (InPost W w s base (pickC cur R) R S F (.tuple #[.int .i64 (pickV cur R), .bool (pickB R)])) := by
  obtain ⟨A, st, g1, g2, g3, g4, g5, g6⟩ := h
  refine (spick_k w g1).mono ?_
  rintro e w' ⟨rfl, hP⟩
  exact ⟨rfl, SIn.post hP g2 g3 g4 g5 g6⟩
theorem scharge_in (h : SIn W w s base cur R S F) (hS : S ≤ 1000000000) :
    Calls Tryz.prog 167 #[.pointer (some ⟨s, 0, none⟩)] w (InPost W w s (chargeM base cur R).2.2.1 cur (chargeM base cur R).2.2.2 (S + 16) F (.tuple #[.int .i64 (chargeM base cur R).1, .int .i64 (chargeM base cur R).2.1])) := by
  obtain ⟨A, st, g1, g2, g3, g4, g5, g6⟩ := h
  refine (scharge_k w g1 g2 (by omega)).mono ?_
  rintro e w' ⟨rfl, hP⟩
  exact ⟨rfl, SIn.post hP g2 g3 g4 g5 g6⟩
theorem sleave_in (id : Int) (h : SIn W w s base cur R S F) (hid : wf64 id) (hS : S ≤ 1000000000) :
    Calls Tryz.prog 170 #[.pointer (some ⟨s, 0, none⟩), .int .i64 id] w (InPost W w s (leaveM base cur R id).2.2.1 (leaveM base cur R id).2.2.2.1 (leaveM base cur R id).2.2.2.2 (S + 8) F (.tuple #[.int .i64 (leaveM base cur R id).1, .int .i64 (leaveM base cur R id).2.1])) := by
  obtain ⟨A, st, g1, g2, g3, g4, g5, g6⟩ := h
  refine (sleave_k id w g1 hid g2 (by omega)).mono ?_
  rintro e w' ⟨rfl, hP⟩
  exact ⟨rfl, SIn.post hP g2 g3 g4 g5 g6⟩
theorem sweigh_in (id n : Int) (h : SIn W w s base cur R S F) (hid : wf64 id) (hn : wf64 n) :
    Calls Tryz.prog 173 #[.pointer (some ⟨s, 0, none⟩), .int .i64 id, .int .i64 n] w (InPost W w s base cur (weighM R id n).2 S F (.int .i64 (weighM R id n).1)) := by
  obtain ⟨A, st, g1, g2, g3, g4, g5, g6⟩ := h
  refine (sweigh_k id n w g1 hid hn).mono ?_
  rintro e w' ⟨rfl, hP⟩
  exact ⟨rfl, SIn.post hP g2 g3 g4 g5 g6⟩
def FormPost (W w : World) (s : Nat) (base cur : Int) (R : List RI) (S : Nat) (F : Nat → Prop) (e : Ending) (w' : World) : Prop :=
  ∃ A c, e = .returned (.agg #[.int .i64 cur, .slice A R.length c]) ∧ TRow w' A (formL base R) ∧ SIn W w' s base cur R S F ∧ Below w.heap.size w w'
theorem sform_in (h : SIn W w s base cur R S F) :
    Calls Tryz.prog 169 #[.pointer (some ⟨s, 0, none⟩)] w (FormPost W w s base cur R S F) := by
  have h' := h
  obtain ⟨A, st, g1, _⟩ := h
  refine (sform_k w g1).mono ?_
  rintro e w' ⟨A, c, rfl, hT, hb⟩
  exact ⟨A, c, rfl, hT, h'.below hb, hb⟩
theorem formL_length (base : Int) (R : List RI) : (formL base R).length = R.length := by unfold formL; simp
end
end Go.Proofs.YtandmngfajoinaaGreat.Fa

namespace Go.Proofs.YtandmngfajoinaaGreat.Po
open Go.RowKit Go.Maps

/-- What of a lag counts, by the tag. -/
def heldP (t x : Int) : Int := if t = 0 then min x 0 else if t = 1 then min x 698377680 else min (max x (-698377680)) 698377680
def coreU (base : Int) (T : List TI) (y : RI) : Int × Int × List TI :=
  if hasI (cutL T) y.1 = true then (4, base, T) else if 64 ≤ T.length then (3, base, T) else (0, raiseM base (cutL (insTT T (newU base y))), insTT T (newU base y))
theorem put_core (base : Int) (T : List TI) (x : RI) : putU base T x = if itemB x = true then coreU base T x else (1, base, T) := rfl
/-- Enter, by the tag. -/
def entP (t base : Int) (T : List TI) (x : RI) : Int × Int × List TI := if itemB x = true then coreU base T (x.1, x.2.1, heldP t x.2.2) else (1, base, T)
theorem item_lag {x : RI} {y : Int} (h : -1125899906842624 ≤ x.2.2 ∧ x.2.2 ≤ 1125899906842624 ↔ -1125899906842624 ≤ y ∧ y ≤ 1125899906842624) : itemB (x.1, x.2.1, y) = itemB x := by
  have e : itemB (x.1, x.2.1, y) = true ↔ itemB x = true := by
    rw [itemB_true, itemB_true]
    simp only
    constructor
    · rintro ⟨a, b, c, d⟩; exact ⟨a, b, c, h.2 d⟩
    · rintro ⟨a, b, c, d⟩; exact ⟨a, b, c, h.1 d⟩
  rw [Bool.eq_iff_iff]; exact e
theorem item_no' {x : RI} (h : ¬ (-1125899906842624 ≤ x.2.2 ∧ x.2.2 ≤ 1125899906842624)) : itemB x = false := by
  cases hI : itemB x with
  | false => rfl
  | true => exact absurd (itemB_true.1 hI).2.2.2 h
theorem ent_st (base : Int) (T : List TI) (x : RI) : St.enterM base (cutL T) x = ((entP 0 base T x).1, (entP 0 base T x).2.1, cutL (entP 0 base T x).2.2) := by
  unfold St.enterM entP
  by_cases h : 1125899906842624 < x.2.2
  · rw [if_pos h, item_no' (by omega), if_neg (by decide)]
  · have e : itemB (x.1, x.2.1, min x.2.2 0) = itemB x := item_lag (by omega)
    have hh : heldP 0 x.2.2 = min x.2.2 0 := rfl
    rw [if_neg h, put_cut, put_core, e, hh]
theorem ent_fa (base : Int) (T : List TI) (x : RI) : Fa.enterM base (cutL T) x = ((entP 1 base T x).1, (entP 1 base T x).2.1, cutL (entP 1 base T x).2.2) := by
  unfold Fa.enterM entP
  by_cases h : 1125899906842624 < x.2.2
  · rw [if_pos h, item_no' (by omega), if_neg (by decide)]
  · have e : itemB (x.1, x.2.1, min x.2.2 698377680) = itemB x := item_lag (by omega)
    have hh : heldP 1 x.2.2 = min x.2.2 698377680 := rfl
    rw [if_neg h, put_cut, put_core, e, hh]
theorem ent_du (base : Int) (T : List TI) (x : RI) : enterU base T x = entP 2 base T x := by
  unfold enterU entP
  have hh : heldP 2 x.2.2 = min (max x.2.2 (-698377680)) 698377680 := rfl
  by_cases h : lagB x.2.2 = true
  · have hl := h
    unfold lagB at hl
    simp only [Bool.and_eq_true, decide_eq_true_eq] at hl
    have e : itemB (x.1, x.2.1, min (max x.2.2 (-698377680)) 698377680) = itemB x := item_lag (by omega)
    rw [if_pos h, put_core, e, hh]
  · have hl : ¬ (-1125899906842624 ≤ x.2.2 ∧ x.2.2 ≤ 1125899906842624) := fun hh => h (by unfold lagB; simp only [Bool.and_eq_true, decide_eq_true_eq]; exact hh)
    rw [if_neg h, item_no' hl, if_neg (by decide)]

/-- Who runs next, by the tag. -/
def pickP (t cur : Int) (T : List TI) : Int := if t = 0 then (minR (cutL T)).2 else if t = 1 then Fa.pickC cur (cutL T) else pickU T
def pickPC (t cur : Int) (T : List TI) : Int := if T = [] then -1 else pickP t cur T
def pickPV (t cur : Int) (T : List TI) : Int := if T = [] then 0 else pickP t cur T
def pickPB (T : List TI) : Bool := !decide (T = [])
theorem cut_dec (T : List TI) : decide (cutL T = []) = decide (T = []) := by
  by_cases h : T = []
  · rw [decide_eq_true h, decide_eq_true (cut_nil.2 h)]
  · rw [decide_eq_false h, decide_eq_false (fun e => h (cut_nil.1 e))]
theorem pick_st (cur : Int) (T : List TI) : (if cutL T = [] then (0 : Int) else (minR (cutL T)).2) = pickPV 0 cur T ∧ (!decide (cutL T = [])) = pickPB T ∧ (if cutL T = [] then (-1 : Int) else (minR (cutL T)).2) = pickPC 0 cur T := by
  have e : pickP 0 cur T = (minR (cutL T)).2 := rfl
  unfold pickPV pickPC pickPB
  rw [e, cut_dec]
  by_cases h : T = []
  · rw [if_pos h, if_pos (cut_nil.2 h), if_pos h, if_pos (cut_nil.2 h)]; exact ⟨rfl, rfl, rfl⟩
  · rw [if_neg h, if_neg (fun e => h (cut_nil.1 e)), if_neg h, if_neg (fun e => h (cut_nil.1 e))]; exact ⟨rfl, rfl, rfl⟩
theorem pick_fa (cur : Int) (T : List TI) : Fa.pickV cur (cutL T) = pickPV 1 cur T ∧ Fa.pickB (cutL T) = pickPB T ∧ Fa.pickC cur (cutL T) = pickPC 1 cur T := by
  have e : pickP 1 cur T = Fa.pickC cur (cutL T) := rfl
  unfold pickPV pickPC pickPB Fa.pickV Fa.pickB
  rw [e, cut_dec]
  by_cases h : T = []
  · subst h; exact ⟨rfl, rfl, rfl⟩
  · rw [if_neg h, if_neg h, if_neg (fun e => h (cut_nil.1 e))]; exact ⟨rfl, rfl, rfl⟩
theorem pick_du (cur : Int) (T : List TI) : pickV T = pickPV 2 cur T ∧ pickB T = pickPB T ∧ pickC T = pickPC 2 cur T := ⟨rfl, rfl, rfl⟩

/-! What it is in -/
def Tag (t : Int) : Prop := t = 0 ∨ t = 1 ∨ t = 2
/-- A queue of the tag's policy. -/
def IsG (t : Int) (w : World) (s : Nat) (B : Nat → Prop) (st base cur : Int) (T : List TI) : Prop :=
  (t = 0 ∧ St.IsK w s B st base cur (cutL T)) ∨ (t = 1 ∧ Fa.IsK w s B st base cur (cutL T)) ∨ (t = 2 ∧ IsU w s B st base cur T)
def GPost (t : Int) (s : Nat) (B : Nat → Prop) (st base cur : Int) (T : List TI) (K : Nat) (w w' : World) : Prop :=
  ∃ B' st', st ≤ st' ∧ st' ≤ st + (K : Int) ∧ IsG t w' s B' st' base cur T ∧ Trip B w B' w'
/-- The type that the queue of a tag is a pointer to. -/
def tyP (t : Int) : Nat := if t = 0 then 95 else if t = 1 then 98 else 101
def PBox (t : Int) (w : World) (p s : Nat) : Prop := w.heap[p]? = some (.cells #[.int .i64 t, .iface (tyP t) (.pointer (some ⟨s, 0, none⟩))] 90 (0, 0))
/-- Block p is policy's queue; A: its blocks. -/
def IsW (t : Int) (w : World) (p : Nat) (A : Nat → Prop) (st base cur : Int) (T : List TI) : Prop :=
  ∃ s B, PBox t w p s ∧ IsG t w s B st base cur T ∧ ¬ B p ∧ ∀ k, A k ↔ (k = p ∨ B k)
def WPost (t : Int) (p : Nat) (A : Nat → Prop) (st base cur : Int) (T : List TI) (K : Nat) (w w' : World) : Prop :=
  ∃ A' st', st ≤ st' ∧ st' ≤ st + (K : Int) ∧ IsW t w' p A' st' base cur T ∧ Trip A w A' w'
section
variable {t : Int} {w w' : World} {s p : Nat} {A B : Nat → Prop} {st base cur : Int} {T : List TI}
theorem PBox.lt (h : PBox t w p s) : p < w.heap.size := (Array.getElem?_eq_some_iff.1 h).1
theorem PBox.cells (h : PBox t w p s) : w.cell? ⟨p, 0, none⟩ = some (.int .i64 t) ∧ w.cell? ⟨p, 1, none⟩ = some (.iface (tyP t) (.pointer (some ⟨s, 0, none⟩))) := by
  constructor <;> simp [World.cell?, show w.heap[p]? = _ from h]
theorem PBox.keep (h : PBox t w p s) (hs : w'.heap[p]? = w.heap[p]?) : PBox t w' p s := hs.trans h
theorem IsG.tag (h : IsG t w s B st base cur T) : Tag t := by
  rcases h with ⟨h, _⟩ | ⟨h, _⟩ | ⟨h, _⟩
  · exact .inl h
  · exact .inr (.inl h)
  · exact .inr (.inr h)
theorem IsG.wf (h : IsG t w s B st base cur T) : WfS base cur (cutL T) := by
  rcases h with ⟨_, h⟩ | ⟨_, h⟩ | ⟨_, h⟩
  · exact h.wf
  · exact h.wf
  · exact h.wf
theorem IsG.lt (h : IsG t w s B st base cur T) : ∀ k, B k → k < w.heap.size := by
  rcases h with ⟨_, h⟩ | ⟨_, h⟩ | ⟨_, h⟩
  · exact h.lt
  · exact h.lt
  · exact h.lt
theorem IsG.keep (h : IsG t w s B st base cur T) (hs : ∀ k, B k → w'.heap[k]? = w.heap[k]?) : IsG t w' s B st base cur T := by
  rcases h with ⟨e, h⟩ | ⟨e, h⟩ | ⟨e, h⟩
  · exact .inl ⟨e, h.keep hs⟩
  · exact .inr (.inl ⟨e, h.keep hs⟩)
  · exact .inr (.inr ⟨e, h.keep hs⟩)
theorem g_st {K K2 : Nat} {base' cur' : Int} {T' : List TI} (h : St.KPost s B st base' cur' (cutL T') K w w') (hk : K ≤ K2) : GPost 0 s B st base' cur' T' K2 w w' := by
  obtain ⟨B', k, hk', hq, ht⟩ := h
  exact ⟨B', _, by omega, by omega, .inl ⟨rfl, hq⟩, ht⟩
theorem g_fa {K K2 : Nat} {base' cur' : Int} {T' : List TI} (h : Fa.KPost s B st base' cur' (cutL T') K w w') (hk : K ≤ K2) : GPost 1 s B st base' cur' T' K2 w w' := by
  obtain ⟨B', k, hk', hq, ht⟩ := h
  exact ⟨B', _, by omega, by omega, .inr (.inl ⟨rfl, hq⟩), ht⟩
theorem g_du {K K2 : Nat} {base' cur' : Int} {T' : List TI} (h : UPost s B st base' cur' T' K w w') (hk : K ≤ K2) : GPost 2 s B st base' cur' T' K2 w w' := by
  obtain ⟨B', hq, ht⟩ := h
  exact ⟨B', _, by omega, by omega, .inr (.inr ⟨rfl, hq⟩), ht⟩
theorem IsW.tag (h : IsW t w p A st base cur T) : Tag t := by
  obtain ⟨s, B, h1, h2, _⟩ := h
  exact h2.tag
theorem IsW.wf (h : IsW t w p A st base cur T) : WfS base cur (cutL T) := by
  obtain ⟨s, B, h1, h2, _⟩ := h
  exact h2.wf
theorem IsW.lt (h : IsW t w p A st base cur T) : ∀ k, A k → k < w.heap.size := by
  obtain ⟨s, B, h1, h2, h3, h4⟩ := h
  intro k hk
  rcases (h4 k).1 hk with rfl | hk
  · exact h1.lt
  · exact h2.lt k hk
theorem IsW.keep (h : IsW t w p A st base cur T) (hs : ∀ k, A k → w'.heap[k]? = w.heap[k]?) : IsW t w' p A st base cur T := by
  obtain ⟨s, B, h1, h2, h3, h4⟩ := h
  exact ⟨s, B, h1.keep (hs p ((h4 p).2 (.inl rfl))), h2.keep (fun k hk => hs k ((h4 k).2 (.inr hk))), h3, h4⟩
theorem IsW.below (h : IsW t w p A st base cur T) (hb : Below w.heap.size w w') : IsW t w' p A st base cur T := h.keep (fun k hk => hb.block k (h.lt k hk))
theorem IsW.self (h : IsW t w p A st base cur T) (hb : Below w.heap.size w w') : Trip A w A w' := below_trip hb h.lt
theorem IsW.cell0 (h : IsW t w p A st base cur T) : w.cell? ⟨p, 0, none⟩ = some (.int .i64 t) := by
  obtain ⟨s, B, h1, _⟩ := h
  exact h1.cells.1
theorem WPost.same {K : Nat} (h : IsW t w p A st base cur T) (hb : Below w.heap.size w w') : WPost t p A st base cur T K w w' :=
  ⟨A, st, Int.le_refl _, by omega, h.below hb, h.self hb⟩
theorem WPost.of {K : Nat} {base' cur' : Int} {T' : List TI} (h1 : PBox t w p s) (h3 : ¬ B p) (h4 : ∀ k, A k ↔ (k = p ∨ B k)) (hP : GPost t s B st base' cur' T' K w w') : WPost t p A st base' cur' T' K w w' := by
  obtain ⟨B', st', e1, e2, hq, ht⟩ := hP
  have ho := h1.lt
  have hz := ht.size
  refine ⟨fun j => j = p ∨ B' j, st', e1, e2, ⟨s, B', h1.keep (ht.block p ho h3), hq, fun hh => (ht.sub p hh).elim h3 (fun _ => by omega), fun _ => Iff.rfl⟩, ⟨ht.os, ht.tape, ht.output, hz, fun j hj hn => ht.block j hj (fun hh => hn ((h4 j).2 (.inr hh))), fun j hj => ?_, fun j hj => ?_⟩⟩
  · rcases hj with rfl | hj
    · exact .inl ((h4 _).2 (.inl rfl))
    · exact (ht.sub j hj).imp (fun hh => (h4 j).2 (.inr hh)) id
  · rcases hj with rfl | hj
    · omega
    · exact ht.bd j hj

set_option maxRecDepth 100000 in
set_option maxHeartbeats 2000000 in
theorem penter_k (x0 x1 x2 : Int) (w : World) (h : IsW t w p A st base cur T) (b1 : -3900000000000000000 ≤ base) (b2 : base ≤ 3900000000000000000) (s1 : 0 ≤ st) (s2 : st < 10000000000000) :
    Calls Tryz.prog 39 #[.pointer (some ⟨p, 0, none⟩), .int .i64 x0, .int .i64 x1, .int .i64 x2] w fun e w' => e = .returned (.int .i64 (entP t base T (x0, x1, x2)).1) ∧ WPost t p A st (entP t base T (x0, x1, x2)).2.1 cur (entP t base T (x0, x1, x2)).2.2 24 w w' := by
  obtain ⟨s, B, h1, h2, h3, h4⟩ := h
  obtain ⟨c0, c1⟩ := h1.cells
  have hwf := h2.wf
  have POST := Lib.hid (fun w' (hP : GPost t s B st (entP t base T (x0, x1, x2)).2.1 cur (entP t base T (x0, x1, x2)).2.2 24 w w') => WPost.of h1 h3 h4 hP)
  rcases h2 with ⟨rfl, g⟩ | ⟨rfl, g⟩ | ⟨rfl, g⟩
  · have K := St.senter_k x0 x1 x2 w g b1 b2 s1 (by omega)
    rw [ent_st] at K
    have K := Lib.hid (K.mono (fun e w' (hh : _ ∧ _) => And.intro hh.1 (g_st (K2 := 24) (T' := (entP 0 base T (x0, x1, x2)).2.2) hh.2 (by omega))))
    clear h1 h3 h4 hwf g b1 b2 s1 s2
    generalize ((entP 0 base T (x0, x1, x2)).1) = r0 at *
    generalize (entP 0 base T (x0, x1, x2)).2.1 = z0 at *
    generalize (entP 0 base T (x0, x1, x2)).2.2 = z2 at *
    have hm : ∀ w : World, (method 321 95 (.pointer (some ⟨s, 0, none⟩)) "Enter").run Tryz.prog w = .ok (125, .pointer (some ⟨s, 0, none⟩)) w := fun _ => by kernel_rfl
    simp only [tyP] at c1
    go_enter Tryz.func39, Tryz.ntmps39
    go_wp2_with fail
    refine K.out.mono ?_
    rintro e w' ⟨rfl, hP⟩
    have HP := Lib.hid (POST.out _ hP)
    clear hP K POST
    go_wp2_with fail
    go_ret
    exact ⟨rfl, HP.out⟩
  · have K := Fa.senter_k x0 x1 x2 w g b1 b2 s1 (by omega)
    rw [ent_fa] at K
    have K := Lib.hid (K.mono (fun e w' (hh : _ ∧ _) => And.intro hh.1 (g_fa (K2 := 24) (T' := (entP 1 base T (x0, x1, x2)).2.2) hh.2 (by omega))))
    clear h1 h3 h4 hwf g b1 b2 s1 s2
    generalize ((entP 1 base T (x0, x1, x2)).1) = r0 at *
    generalize (entP 1 base T (x0, x1, x2)).2.1 = z0 at *
    generalize (entP 1 base T (x0, x1, x2)).2.2 = z2 at *
    have hm : ∀ w : World, (method 321 98 (.pointer (some ⟨s, 0, none⟩)) "Enter").run Tryz.prog w = .ok (168, .pointer (some ⟨s, 0, none⟩)) w := fun _ => by kernel_rfl
    simp only [tyP] at c1
    go_enter Tryz.func39, Tryz.ntmps39
    go_wp2_with fail
    refine K.out.mono ?_
    rintro e w' ⟨rfl, hP⟩
    have HP := Lib.hid (POST.out _ hP)
    clear hP K POST
    go_wp2_with fail
    go_ret
    exact ⟨rfl, HP.out⟩
  · have K := senter_k x0 x1 x2 w g b1 b2 s1 s2
    rw [ent_du] at K
    have K := Lib.hid (K.mono (fun e w' (hh : _ ∧ _) => And.intro hh.1 (g_du (K2 := 24) (T' := (entP 2 base T (x0, x1, x2)).2.2) hh.2 (by omega))))
    clear h1 h3 h4 hwf g b1 b2 s1 s2
    generalize ((entP 2 base T (x0, x1, x2)).1) = r0 at *
    generalize (entP 2 base T (x0, x1, x2)).2.1 = z0 at *
    generalize (entP 2 base T (x0, x1, x2)).2.2 = z2 at *
    have hm : ∀ w : World, (method 321 101 (.pointer (some ⟨s, 0, none⟩)) "Enter").run Tryz.prog w = .ok (177, .pointer (some ⟨s, 0, none⟩)) w := fun _ => by kernel_rfl
    simp only [tyP] at c1
    go_enter Tryz.func39, Tryz.ntmps39
    go_wp2_with fail
    refine K.out.mono ?_
    rintro e w' ⟨rfl, hP⟩
    have HP := Lib.hid (POST.out _ hP)
    clear hP K POST
    go_wp2_with fail
    go_ret
    exact ⟨rfl, HP.out⟩
set_option maxRecDepth 100000 in
set_option maxHeartbeats 2000000 in
theorem pput_k (x0 x1 x2 : Int) (w : World) (h : IsW t w p A st base cur T) (b1 : -3900000000000000000 ≤ base) (b2 : base ≤ 3900000000000000000) (s1 : 0 ≤ st) (s2 : st < 10000000000000) :
    Calls Tryz.prog 38 #[.pointer (some ⟨p, 0, none⟩), .int .i64 x0, .int .i64 x1, .int .i64 x2] w fun e w' => e = .returned (.int .i64 (putU base T (x0, x1, x2)).1) ∧ WPost t p A st (putU base T (x0, x1, x2)).2.1 cur (putU base T (x0, x1, x2)).2.2 24 w w' := by
  obtain ⟨s, B, h1, h2, h3, h4⟩ := h
  obtain ⟨c0, c1⟩ := h1.cells
  have hwf := h2.wf
  have POST := Lib.hid (fun w' (hP : GPost t s B st (putU base T (x0, x1, x2)).2.1 cur (putU base T (x0, x1, x2)).2.2 24 w w') => WPost.of h1 h3 h4 hP)
  rcases h2 with ⟨rfl, g⟩ | ⟨rfl, g⟩ | ⟨rfl, g⟩
  · have K := St.sput_k x0 x1 x2 w g b1 b2 s1 (by omega)
    rw [put_cut] at K
    have K := Lib.hid (K.mono (fun e w' (hh : _ ∧ _) => And.intro hh.1 (g_st (K2 := 24) (T' := (putU base T (x0, x1, x2)).2.2) hh.2 (by omega))))
    clear h1 h3 h4 hwf g b1 b2 s1 s2
    generalize ((putU base T (x0, x1, x2)).1) = r0 at *
    generalize (putU base T (x0, x1, x2)).2.1 = z0 at *
    generalize (putU base T (x0, x1, x2)).2.2 = z2 at *
    have hm : ∀ w : World, (method 321 95 (.pointer (some ⟨s, 0, none⟩)) "Put").run Tryz.prog w = .ok (129, .pointer (some ⟨s, 0, none⟩)) w := fun _ => by kernel_rfl
    simp only [tyP] at c1
    go_enter Tryz.func38, Tryz.ntmps38
    go_wp2_with fail
    refine K.out.mono ?_
    rintro e w' ⟨rfl, hP⟩
    have HP := Lib.hid (POST.out _ hP)
    clear hP K POST
    go_wp2_with fail
    go_ret
    exact ⟨rfl, HP.out⟩
  · have K := Fa.sput_k x0 x1 x2 w g b1 b2 s1 (by omega)
    rw [put_cut] at K
    have K := Lib.hid (K.mono (fun e w' (hh : _ ∧ _) => And.intro hh.1 (g_fa (K2 := 24) (T' := (putU base T (x0, x1, x2)).2.2) hh.2 (by omega))))
    clear h1 h3 h4 hwf g b1 b2 s1 s2
    generalize ((putU base T (x0, x1, x2)).1) = r0 at *
    generalize (putU base T (x0, x1, x2)).2.1 = z0 at *
    generalize (putU base T (x0, x1, x2)).2.2 = z2 at *
    have hm : ∀ w : World, (method 321 98 (.pointer (some ⟨s, 0, none⟩)) "Put").run Tryz.prog w = .ok (172, .pointer (some ⟨s, 0, none⟩)) w := fun _ => by kernel_rfl
    simp only [tyP] at c1
    go_enter Tryz.func38, Tryz.ntmps38
    go_wp2_with fail
    refine K.out.mono ?_
    rintro e w' ⟨rfl, hP⟩
    have HP := Lib.hid (POST.out _ hP)
    clear hP K POST
    go_wp2_with fail
    go_ret
    exact ⟨rfl, HP.out⟩
  · have K := sput_k x0 x1 x2 w g b1 b2 s1 s2
    have K := Lib.hid (K.mono (fun e w' (hh : _ ∧ _) => And.intro hh.1 (g_du (K2 := 24) (T' := (putU base T (x0, x1, x2)).2.2) hh.2 (by omega))))
    clear h1 h3 h4 hwf g b1 b2 s1 s2
    generalize ((putU base T (x0, x1, x2)).1) = r0 at *
    generalize (putU base T (x0, x1, x2)).2.1 = z0 at *
    generalize (putU base T (x0, x1, x2)).2.2 = z2 at *
    have hm : ∀ w : World, (method 321 101 (.pointer (some ⟨s, 0, none⟩)) "Put").run Tryz.prog w = .ok (181, .pointer (some ⟨s, 0, none⟩)) w := fun _ => by kernel_rfl
    simp only [tyP] at c1
    go_enter Tryz.func38, Tryz.ntmps38
    go_wp2_with fail
    refine K.out.mono ?_
    rintro e w' ⟨rfl, hP⟩
    have HP := Lib.hid (POST.out _ hP)
    clear hP K POST
    go_wp2_with fail
    go_ret
    exact ⟨rfl, HP.out⟩
set_option maxRecDepth 100000 in
set_option maxHeartbeats 2000000 in
theorem pleave_k (id : Int) (w : World) (h : IsW t w p A st base cur T) (hid : wf64 id) (s1 : 0 ≤ st) (s2 : st < 10000000000000) :
    Calls Tryz.prog 45 #[.pointer (some ⟨p, 0, none⟩), .int .i64 id] w fun e w' => e = .returned (.tuple #[.int .i64 (leaveU base cur T id).1, .int .i64 (leaveU base cur T id).2.1]) ∧ WPost t p A st (leaveU base cur T id).2.2.1 (leaveU base cur T id).2.2.2.1 (leaveU base cur T id).2.2.2.2 24 w w' := by
  obtain ⟨s, B, h1, h2, h3, h4⟩ := h
  obtain ⟨c0, c1⟩ := h1.cells
  have hwf := h2.wf
  have POST := Lib.hid (fun w' (hP : GPost t s B st (leaveU base cur T id).2.2.1 (leaveU base cur T id).2.2.2.1 (leaveU base cur T id).2.2.2.2 24 w w') => WPost.of h1 h3 h4 hP)
  rcases h2 with ⟨rfl, g⟩ | ⟨rfl, g⟩ | ⟨rfl, g⟩
  · have K := St.sleave_k id w g hid s1 (by omega)
    rw [leave_cut hwf.asc] at K
    have K := Lib.hid (K.mono (fun e w' (hh : _ ∧ _) => And.intro hh.1 (g_st (K2 := 24) (T' := (leaveU base cur T id).2.2.2.2) hh.2 (by omega))))
    clear h1 h3 h4 hwf g hid s1 s2
    generalize ((leaveU base cur T id).1) = r0 at *
    generalize ((leaveU base cur T id).2.1) = r1 at *
    generalize (leaveU base cur T id).2.2.1 = z0 at *
    generalize (leaveU base cur T id).2.2.2.1 = z1 at *
    generalize (leaveU base cur T id).2.2.2.2 = z2 at *
    have hm : ∀ w : World, (method 321 95 (.pointer (some ⟨s, 0, none⟩)) "Leave").run Tryz.prog w = .ok (127, .pointer (some ⟨s, 0, none⟩)) w := fun _ => by kernel_rfl
    simp only [tyP] at c1
    go_enter Tryz.func45, Tryz.ntmps45
    go_wp2_with fail
    refine K.out.mono ?_
    rintro e w' ⟨rfl, hP⟩
    have HP := Lib.hid (POST.out _ hP)
    clear hP K POST
    go_wp2_with fail
    go_ret2
    exact ⟨rfl, HP.out⟩
  · have K := Fa.sleave_k id w g hid s1 (by omega)
    rw [leave_cut hwf.asc] at K
    have K := Lib.hid (K.mono (fun e w' (hh : _ ∧ _) => And.intro hh.1 (g_fa (K2 := 24) (T' := (leaveU base cur T id).2.2.2.2) hh.2 (by omega))))
    clear h1 h3 h4 hwf g hid s1 s2
    generalize ((leaveU base cur T id).1) = r0 at *
    generalize ((leaveU base cur T id).2.1) = r1 at *
    generalize (leaveU base cur T id).2.2.1 = z0 at *
    generalize (leaveU base cur T id).2.2.2.1 = z1 at *
    generalize (leaveU base cur T id).2.2.2.2 = z2 at *
    have hm : ∀ w : World, (method 321 98 (.pointer (some ⟨s, 0, none⟩)) "Leave").run Tryz.prog w = .ok (170, .pointer (some ⟨s, 0, none⟩)) w := fun _ => by kernel_rfl
    simp only [tyP] at c1
    go_enter Tryz.func45, Tryz.ntmps45
    go_wp2_with fail
    refine K.out.mono ?_
    rintro e w' ⟨rfl, hP⟩
    have HP := Lib.hid (POST.out _ hP)
    clear hP K POST
    go_wp2_with fail
    go_ret2
    exact ⟨rfl, HP.out⟩
  · have K := sleave_k id w g hid s1 s2
    have K := Lib.hid (K.mono (fun e w' (hh : _ ∧ _) => And.intro hh.1 (g_du (K2 := 24) (T' := (leaveU base cur T id).2.2.2.2) hh.2 (by omega))))
    clear h1 h3 h4 hwf g hid s1 s2
    generalize ((leaveU base cur T id).1) = r0 at *
    generalize ((leaveU base cur T id).2.1) = r1 at *
    generalize (leaveU base cur T id).2.2.1 = z0 at *
    generalize (leaveU base cur T id).2.2.2.1 = z1 at *
    generalize (leaveU base cur T id).2.2.2.2 = z2 at *
    have hm : ∀ w : World, (method 321 101 (.pointer (some ⟨s, 0, none⟩)) "Leave").run Tryz.prog w = .ok (179, .pointer (some ⟨s, 0, none⟩)) w := fun _ => by kernel_rfl
    simp only [tyP] at c1
    go_enter Tryz.func45, Tryz.ntmps45
    go_wp2_with fail
    refine K.out.mono ?_
    rintro e w' ⟨rfl, hP⟩
    have HP := Lib.hid (POST.out _ hP)
    clear hP K POST
    go_wp2_with fail
    go_ret2
    exact ⟨rfl, HP.out⟩
set_option maxRecDepth 100000 in
set_option maxHeartbeats 2000000 in
theorem pweigh_k (id n : Int) (w : World) (h : IsW t w p A st base cur T) (hid : wf64 id) (hn : wf64 n) (s1 : 0 ≤ st) (s2 : st < 10000000000000) :
    Calls Tryz.prog 46 #[.pointer (some ⟨p, 0, none⟩), .int .i64 id, .int .i64 n] w fun e w' => e = .returned (.int .i64 (weighU T id n).1) ∧ WPost t p A st base cur (weighU T id n).2 16 w w' := by
  obtain ⟨s, B, h1, h2, h3, h4⟩ := h
  obtain ⟨c0, c1⟩ := h1.cells
  have hwf := h2.wf
  have POST := Lib.hid (fun w' (hP : GPost t s B st base cur (weighU T id n).2 16 w w') => WPost.of h1 h3 h4 hP)
  rcases h2 with ⟨rfl, g⟩ | ⟨rfl, g⟩ | ⟨rfl, g⟩
  · have K := St.sweigh_k id n w g hid hn
    rw [weigh_cut] at K
    have K := Lib.hid (K.mono (fun e w' (hh : _ ∧ _) => And.intro hh.1 (g_st (K2 := 16) (T' := (weighU T id n).2) hh.2 (by omega))))
    clear h1 h3 h4 hwf g hid hn s1 s2
    generalize ((weighU T id n).1) = r0 at *
    generalize (weighU T id n).2 = z2 at *
    have hm : ∀ w : World, (method 321 95 (.pointer (some ⟨s, 0, none⟩)) "Weigh").run Tryz.prog w = .ok (130, .pointer (some ⟨s, 0, none⟩)) w := fun _ => by kernel_rfl
    simp only [tyP] at c1
    go_enter Tryz.func46, Tryz.ntmps46
    go_wp2_with fail
    refine K.out.mono ?_
    rintro e w' ⟨rfl, hP⟩
    have HP := Lib.hid (POST.out _ hP)
    clear hP K POST
    go_wp2_with fail
    go_ret
    exact ⟨rfl, HP.out⟩
  · have K := Fa.sweigh_k id n w g hid hn
    rw [weigh_cut] at K
    have K := Lib.hid (K.mono (fun e w' (hh : _ ∧ _) => And.intro hh.1 (g_fa (K2 := 16) (T' := (weighU T id n).2) hh.2 (by omega))))
    clear h1 h3 h4 hwf g hid hn s1 s2
    generalize ((weighU T id n).1) = r0 at *
    generalize (weighU T id n).2 = z2 at *
    have hm : ∀ w : World, (method 321 98 (.pointer (some ⟨s, 0, none⟩)) "Weigh").run Tryz.prog w = .ok (173, .pointer (some ⟨s, 0, none⟩)) w := fun _ => by kernel_rfl
    simp only [tyP] at c1
    go_enter Tryz.func46, Tryz.ntmps46
    go_wp2_with fail
    refine K.out.mono ?_
    rintro e w' ⟨rfl, hP⟩
    have HP := Lib.hid (POST.out _ hP)
    clear hP K POST
    go_wp2_with fail
    go_ret
    exact ⟨rfl, HP.out⟩
  · have K := sweigh_k id n w g hid hn s1 s2
    have K := Lib.hid (K.mono (fun e w' (hh : _ ∧ _) => And.intro hh.1 (g_du (K2 := 16) (T' := (weighU T id n).2) hh.2 (by omega))))
    clear h1 h3 h4 hwf g hid hn s1 s2
    generalize ((weighU T id n).1) = r0 at *
    generalize (weighU T id n).2 = z2 at *
    have hm : ∀ w : World, (method 321 101 (.pointer (some ⟨s, 0, none⟩)) "Weigh").run Tryz.prog w = .ok (182, .pointer (some ⟨s, 0, none⟩)) w := fun _ => by kernel_rfl
    simp only [tyP] at c1
    go_enter Tryz.func46, Tryz.ntmps46
    go_wp2_with fail
    refine K.out.mono ?_
    rintro e w' ⟨rfl, hP⟩
    have HP := Lib.hid (POST.out _ hP)
    clear hP K POST
    go_wp2_with fail
    go_ret
    exact ⟨rfl, HP.out⟩
set_option maxRecDepth 100000 in
set_option maxHeartbeats 2000000 in
theorem ppick_k (w : World) (h : IsW t w p A st base cur T)  :
    Calls Tryz.prog 55 #[.pointer (some ⟨p, 0, none⟩)] w fun e w' => e = .returned (.tuple #[.int .i64 (pickPV t cur T), .bool (pickPB T)]) ∧ WPost t p A st base (pickPC t cur T) T 0 w w' := by
  obtain ⟨s, B, h1, h2, h3, h4⟩ := h
  obtain ⟨c0, c1⟩ := h1.cells
  have hwf := h2.wf
  have POST := Lib.hid (fun w' (hP : GPost t s B st base (pickPC t cur T) T 0 w w') => WPost.of h1 h3 h4 hP)
  rcases h2 with ⟨rfl, g⟩ | ⟨rfl, g⟩ | ⟨rfl, g⟩
  · have K := St.spick_k w g
    rw [(pick_st cur T).1, (pick_st cur T).2.1, (pick_st cur T).2.2] at K
    have K := Lib.hid (K.mono (fun e w' (hh : _ ∧ _) => And.intro hh.1 (g_st (K2 := 0) (T' := T) hh.2 (by omega))))
    clear h1 h3 h4 hwf g
    generalize (pickPV 0 cur T) = r0 at *
    generalize (pickPB T) = r1 at *
    generalize (pickPC 0 cur T) = z1 at *
    have hm : ∀ w : World, (method 321 95 (.pointer (some ⟨s, 0, none⟩)) "Pick").run Tryz.prog w = .ok (128, .pointer (some ⟨s, 0, none⟩)) w := fun _ => by kernel_rfl
    simp only [tyP] at c1
    go_enter Tryz.func55, Tryz.ntmps55
    go_wp2_with fail
    refine K.out.mono ?_
    rintro e w' ⟨rfl, hP⟩
    have HP := Lib.hid (POST.out _ hP)
    clear hP K POST
    go_wp2_with fail
    go_ret2
    exact ⟨rfl, HP.out⟩
  · have K := Fa.spick_k w g
    rw [(pick_fa cur T).1, (pick_fa cur T).2.1, (pick_fa cur T).2.2] at K
    have K := Lib.hid (K.mono (fun e w' (hh : _ ∧ _) => And.intro hh.1 (g_fa (K2 := 0) (T' := T) hh.2 (by omega))))
    clear h1 h3 h4 hwf g
    generalize (pickPV 1 cur T) = r0 at *
    generalize (pickPB T) = r1 at *
    generalize (pickPC 1 cur T) = z1 at *
    have hm : ∀ w : World, (method 321 98 (.pointer (some ⟨s, 0, none⟩)) "Pick").run Tryz.prog w = .ok (171, .pointer (some ⟨s, 0, none⟩)) w := fun _ => by kernel_rfl
    simp only [tyP] at c1
    go_enter Tryz.func55, Tryz.ntmps55
    go_wp2_with fail
    refine K.out.mono ?_
    rintro e w' ⟨rfl, hP⟩
    have HP := Lib.hid (POST.out _ hP)
    clear hP K POST
    go_wp2_with fail
    go_ret2
    exact ⟨rfl, HP.out⟩
  · have K := spick_k w g
    rw [(pick_du cur T).1, (pick_du cur T).2.1, (pick_du cur T).2.2] at K
    have K := Lib.hid (K.mono (fun e w' (hh : _ ∧ _) => And.intro hh.1 (g_du (K2 := 0) (T' := T) hh.2 (by omega))))
    clear h1 h3 h4 hwf g
    generalize (pickPV 2 cur T) = r0 at *
    generalize (pickPB T) = r1 at *
    generalize (pickPC 2 cur T) = z1 at *
    have hm : ∀ w : World, (method 321 101 (.pointer (some ⟨s, 0, none⟩)) "Pick").run Tryz.prog w = .ok (180, .pointer (some ⟨s, 0, none⟩)) w := fun _ => by kernel_rfl
    simp only [tyP] at c1
    go_enter Tryz.func55, Tryz.ntmps55
    go_wp2_with fail
    refine K.out.mono ?_
    rintro e w' ⟨rfl, hP⟩
    have HP := Lib.hid (POST.out _ hP)
    clear hP K POST
    go_wp2_with fail
    go_ret2
    exact ⟨rfl, HP.out⟩
set_option maxRecDepth 100000 in
set_option maxHeartbeats 2000000 in
theorem pcharge_k (w : World) (h : IsW t w p A st base cur T) (s1 : 0 ≤ st) (s2 : st < 10000000000000) :
    Calls Tryz.prog 56 #[.pointer (some ⟨p, 0, none⟩)] w fun e w' => e = .returned (.tuple #[.int .i64 (chargeU base cur T).1, .int .i64 (chargeU base cur T).2.1]) ∧ WPost t p A st (chargeU base cur T).2.2.1 cur (chargeU base cur T).2.2.2 32 w w' := by
  obtain ⟨s, B, h1, h2, h3, h4⟩ := h
  obtain ⟨c0, c1⟩ := h1.cells
  have hwf := h2.wf
  have POST := Lib.hid (fun w' (hP : GPost t s B st (chargeU base cur T).2.2.1 cur (chargeU base cur T).2.2.2 32 w w') => WPost.of h1 h3 h4 hP)
  rcases h2 with ⟨rfl, g⟩ | ⟨rfl, g⟩ | ⟨rfl, g⟩
  · have K := St.scharge_k w g s1 (by omega)
    rw [charge_cut hwf.asc hwf.cur] at K
    have K := Lib.hid (K.mono (fun e w' (hh : _ ∧ _) => And.intro hh.1 (g_st (K2 := 32) (T' := (chargeU base cur T).2.2.2) hh.2 (by omega))))
    clear h1 h3 h4 hwf g s1 s2
    generalize ((chargeU base cur T).1) = r0 at *
    generalize ((chargeU base cur T).2.1) = r1 at *
    generalize (chargeU base cur T).2.2.1 = z0 at *
    generalize (chargeU base cur T).2.2.2 = z2 at *
    have hm : ∀ w : World, (method 321 95 (.pointer (some ⟨s, 0, none⟩)) "Charge").run Tryz.prog w = .ok (124, .pointer (some ⟨s, 0, none⟩)) w := fun _ => by kernel_rfl
    simp only [tyP] at c1
    go_enter Tryz.func56, Tryz.ntmps56
    go_wp2_with fail
    refine K.out.mono ?_
    rintro e w' ⟨rfl, hP⟩
    have HP := Lib.hid (POST.out _ hP)
    clear hP K POST
    go_wp2_with fail
    go_ret2
    exact ⟨rfl, HP.out⟩
  · have K := Fa.scharge_k w g s1 (by omega)
    rw [charge_cut hwf.asc hwf.cur] at K
    have K := Lib.hid (K.mono (fun e w' (hh : _ ∧ _) => And.intro hh.1 (g_fa (K2 := 32) (T' := (chargeU base cur T).2.2.2) hh.2 (by omega))))
    clear h1 h3 h4 hwf g s1 s2
    generalize ((chargeU base cur T).1) = r0 at *
    generalize ((chargeU base cur T).2.1) = r1 at *
    generalize (chargeU base cur T).2.2.1 = z0 at *
    generalize (chargeU base cur T).2.2.2 = z2 at *
    have hm : ∀ w : World, (method 321 98 (.pointer (some ⟨s, 0, none⟩)) "Charge").run Tryz.prog w = .ok (167, .pointer (some ⟨s, 0, none⟩)) w := fun _ => by kernel_rfl
    simp only [tyP] at c1
    go_enter Tryz.func56, Tryz.ntmps56
    go_wp2_with fail
    refine K.out.mono ?_
    rintro e w' ⟨rfl, hP⟩
    have HP := Lib.hid (POST.out _ hP)
    clear hP K POST
    go_wp2_with fail
    go_ret2
    exact ⟨rfl, HP.out⟩
  · have K := scharge_k w g s1 s2
    have K := Lib.hid (K.mono (fun e w' (hh : _ ∧ _) => And.intro hh.1 (g_du (K2 := 32) (T' := (chargeU base cur T).2.2.2) hh.2 (by omega))))
    clear h1 h3 h4 hwf g s1 s2
    generalize ((chargeU base cur T).1) = r0 at *
    generalize ((chargeU base cur T).2.1) = r1 at *
    generalize (chargeU base cur T).2.2.1 = z0 at *
    generalize (chargeU base cur T).2.2.2 = z2 at *
    have hm : ∀ w : World, (method 321 101 (.pointer (some ⟨s, 0, none⟩)) "Charge").run Tryz.prog w = .ok (176, .pointer (some ⟨s, 0, none⟩)) w := fun _ => by kernel_rfl
    simp only [tyP] at c1
    go_enter Tryz.func56, Tryz.ntmps56
    go_wp2_with fail
    refine K.out.mono ?_
    rintro e w' ⟨rfl, hP⟩
    have HP := Lib.hid (POST.out _ hP)
    clear hP K POST
    go_wp2_with fail
    go_ret2
    exact ⟨rfl, HP.out⟩
theorem trow_set2 {w0 : World} {b n0 m0 : Nat} {f0 : Int} {A0 A1 : Option Addr} {L : List RI} (hf : FoAt w0 b f0 A0 n0 m0) (hT : TRow w0 A1 L) (v0 v1 : Value) : TRow (set2 w0 b v0 v1) A1 L := fun i r hir => by
  obtain ⟨ad, he, a0, a1, a2⟩ := hT i r hir
  have hne : ad.block ≠ b := fun e => by
    have hf' : w0.heap[ad.block]? = some (.cells #[.int .i64 f0, .slice A0 n0 m0] 47 (0, 0)) := by rw [e]; exact hf
    have h1 : (#[Value.int .i64 f0, Value.slice A0 n0 m0] : Array Value)[ad.off + (i * 3 + 1)]? = some (Value.int .i64 r.2.1) := by
      have hadd : ad.add (i * 3 + 1) = ⟨ad.block, ad.off + (i * 3 + 1), none⟩ := by unfold Addr.add; rw [if_neg (by omega)]
      have hx := a1
      rw [hadd] at hx
      simpa [World.cell?, hf'] using hx
    cases hk : ad.off + (i * 3 + 1) with
    | zero => omega
    | succ k =>
      rw [hk] at h1
      cases k with
      | zero => simp at h1
      | succ k => simp at h1
  have hb : ∀ j, (set2 w0 b v0 v1).cell? (ad.add j) = w0.cell? (ad.add j) := fun j => by
    have hh : (set2 w0 b v0 v1).heap[(ad.add j).block]? = w0.heap[(ad.add j).block]? := set2_other v0 v1 (show (ad.add j).block ≠ b by rw [add_block]; exact hne)
    exact World.cell?_of_block hh
  exact ⟨ad, he, (hb _).trans a0, (hb _).trans a1, (hb _).trans a2⟩
set_option maxRecDepth 100000 in
set_option maxHeartbeats 2000000 in
theorem pform_k (w : World) (h : IsW t w p A st base cur T) :
    Calls Tryz.prog 50 #[.pointer (some ⟨p, 0, none⟩)] w fun e w' => ∃ A c, e = .returned (.agg #[.int .i64 cur, .slice A T.length c]) ∧ TRow w' A (formU base T) ∧ Below w.heap.size w w' := by
  obtain ⟨s, B, h1, h2, -, -⟩ := h
  have hb1 : Below w.heap.size w (w.alloc (.cells #[.int .i64 0, .slice none 0 0] 47)) := (Below.refl _ w).alloc (Nat.le_refl _) _
  have hf1 : FoAt (w.alloc (.cells #[.int .i64 0, .slice none 0 0] 47)) w.heap.size 0 none 0 0 := heap_alloc_new w _
  obtain ⟨w1, hw1⟩ : ∃ w1, w.alloc (.cells #[.int .i64 0, .slice none 0 0] 47) = w1 := ⟨_, rfl⟩
  have hs1 : w1.heap.size = w.heap.size + 1 := by rw [← hw1]; simp
  rw [hw1] at hb1 hf1
  obtain ⟨c0, c1⟩ := (h1.keep (hb1.block p h1.lt)).cells
  have h2 := h2.keep (w' := w1) (fun k hk => hb1.block k (h2.lt k hk))
  have H1 := Lib.hid (And.intro hb1 (And.intro hf1 hs1))
  clear h1 hb1 hf1 hs1
  rcases h2 with ⟨rfl, g⟩ | ⟨rfl, g⟩ | ⟨rfl, g⟩
  · have K := St.sform_k w1 g
    rw [cut_len] at K
    have e : formL base (cutL T) = formU base T := rfl
    rw [e] at K
    have K := Lib.hid K
    clear g e
    generalize formU base T = L0 at *
    generalize T.length = n0 at *
    have hm : ∀ w : World, (method 321 95 (.pointer (some ⟨s, 0, none⟩)) "Form").run Tryz.prog w = .ok (126, .pointer (some ⟨s, 0, none⟩)) w := fun _ => by kernel_rfl
    simp only [tyP] at c1
    go_enter Tryz.func50, Tryz.ntmps50
    go_wp2_with fail
    refine K.out.mono ?_
    rintro e w2 ⟨A2, c2, rfl, hT, hb⟩
    have hf2 : FoAt w2 w.heap.size 0 none 0 0 := BoxAt.next H1.out.2.1 hb (Nat.le_refl _)
    obtain ⟨t0, t1, t2, t3⟩ := two_cells hf2 (.int .i64 cur)
    have hf3 : FoAt (set2 w2 w.heap.size (.int .i64 cur) (.slice A2 n0 c2)) w.heap.size cur A2 n0 c2 := set2_same _ _ hf2
    have hb3 : Below w.heap.size w (set2 w2 w.heap.size (.int .i64 cur) (.slice A2 n0 c2)) := below_set2 _ _ (H1.out.1.trans (hb.mono (by have := H1.out.2.2; omega))) (Nat.le_refl _)
    have hT3 : TRow (set2 w2 w.heap.size (.int .i64 cur) (.slice A2 n0 c2)) A2 L0 := trow_set2 hf2 hT _ _
    have HT := Lib.hid (And.intro hf3 (And.intro hT3 hb3))
    clear hT hb K hf2 hf3 hb3 hT3
    go_wp2_with fail
    refine bodyPost_ret (res_box1 rfl _ w.heap.size _ _ rfl HT.out.1 Tryz.underlying47 rfl (by kernel_rfl)) rfl ?_
    exact ⟨_, c2, rfl, HT.out.2⟩
  · have K := Fa.sform_k w1 g
    rw [cut_len] at K
    have e : formL base (cutL T) = formU base T := rfl
    rw [e] at K
    have K := Lib.hid K
    clear g e
    generalize formU base T = L0 at *
    generalize T.length = n0 at *
    have hm : ∀ w : World, (method 321 98 (.pointer (some ⟨s, 0, none⟩)) "Form").run Tryz.prog w = .ok (169, .pointer (some ⟨s, 0, none⟩)) w := fun _ => by kernel_rfl
    simp only [tyP] at c1
    go_enter Tryz.func50, Tryz.ntmps50
    go_wp2_with fail
    refine K.out.mono ?_
    rintro e w2 ⟨A2, c2, rfl, hT, hb⟩
    have hf2 : FoAt w2 w.heap.size 0 none 0 0 := BoxAt.next H1.out.2.1 hb (Nat.le_refl _)
    obtain ⟨t0, t1, t2, t3⟩ := two_cells hf2 (.int .i64 cur)
    have hf3 : FoAt (set2 w2 w.heap.size (.int .i64 cur) (.slice A2 n0 c2)) w.heap.size cur A2 n0 c2 := set2_same _ _ hf2
    have hb3 : Below w.heap.size w (set2 w2 w.heap.size (.int .i64 cur) (.slice A2 n0 c2)) := below_set2 _ _ (H1.out.1.trans (hb.mono (by have := H1.out.2.2; omega))) (Nat.le_refl _)
    have hT3 : TRow (set2 w2 w.heap.size (.int .i64 cur) (.slice A2 n0 c2)) A2 L0 := trow_set2 hf2 hT _ _
    have HT := Lib.hid (And.intro hf3 (And.intro hT3 hb3))
    clear hT hb K hf2 hf3 hb3 hT3
    go_wp2_with fail
    refine bodyPost_ret (res_box1 rfl _ w.heap.size _ _ rfl HT.out.1 Tryz.underlying47 rfl (by kernel_rfl)) rfl ?_
    exact ⟨_, c2, rfl, HT.out.2⟩
  · have K := sform_k w1 g
    have e : formU base T = formU base T := rfl
    have K := Lib.hid K
    clear g e
    generalize formU base T = L0 at *
    generalize T.length = n0 at *
    have hm : ∀ w : World, (method 321 101 (.pointer (some ⟨s, 0, none⟩)) "Form").run Tryz.prog w = .ok (178, .pointer (some ⟨s, 0, none⟩)) w := fun _ => by kernel_rfl
    simp only [tyP] at c1
    go_enter Tryz.func50, Tryz.ntmps50
    go_wp2_with fail
    refine K.out.mono ?_
    rintro e w2 ⟨A2, c2, rfl, hT, hb⟩
    have hf2 : FoAt w2 w.heap.size 0 none 0 0 := BoxAt.next H1.out.2.1 hb (Nat.le_refl _)
    obtain ⟨t0, t1, t2, t3⟩ := two_cells hf2 (.int .i64 cur)
    have hf3 : FoAt (set2 w2 w.heap.size (.int .i64 cur) (.slice A2 n0 c2)) w.heap.size cur A2 n0 c2 := set2_same _ _ hf2
    have hb3 : Below w.heap.size w (set2 w2 w.heap.size (.int .i64 cur) (.slice A2 n0 c2)) := below_set2 _ _ (H1.out.1.trans (hb.mono (by have := H1.out.2.2; omega))) (Nat.le_refl _)
    have hT3 : TRow (set2 w2 w.heap.size (.int .i64 cur) (.slice A2 n0 c2)) A2 L0 := trow_set2 hf2 hT _ _
    have HT := Lib.hid (And.intro hf3 (And.intro hT3 hb3))
    clear hT hb K hf2 hf3 hb3 hT3
    go_wp2_with fail
    refine bodyPost_ret (res_box1 rfl _ w.heap.size _ _ rfl HT.out.1 Tryz.underlying47 rfl (by kernel_rfl)) rfl ?_
    exact ⟨_, c2, rfl, HT.out.2⟩
set_option maxHeartbeats 2000000 in
theorem prun_k (w : World) (h : IsW t w p A st base cur T) (s1 : 0 ≤ st) (s2 : st < 10000000000000) :
    Calls Tryz.prog 47 #[.pointer (some ⟨p, 0, none⟩)] w fun e w' => e = .returned (.tuple #[.int .i64 (chargeU base (pickPC t cur T) T).1, .int .i64 (chargeU base (pickPC t cur T) T).2.1]) ∧ WPost t p A st (chargeU base (pickPC t cur T) T).2.2.1 (pickPC t cur T) (chargeU base (pickPC t cur T) T).2.2.2 32 w w' := by
  have K := Lib.hid (ppick_k w h)
  have K2 : Hid (∀ W A1 st1, 0 ≤ st1 → st1 < 10000000000000 → IsW t W p A1 st1 base (pickPC t cur T) T → Calls Tryz.prog 56 #[.pointer (some ⟨p, 0, none⟩)] W fun e w' => e = .returned (.tuple #[.int .i64 (chargeU base (pickPC t cur T) T).1, .int .i64 (chargeU base (pickPC t cur T) T).2.1]) ∧ WPost t p A1 st1 (chargeU base (pickPC t cur T) T).2.2.1 (pickPC t cur T) (chargeU base (pickPC t cur T) T).2.2.2 32 W w') := Lib.hid (fun W A1 st1 e1 e2 hq => pcharge_k W hq e1 e2)
  have HS := Lib.hid (And.intro s1 s2)
  clear h s1 s2
  generalize (chargeU base (pickPC t cur T) T).1 = r0 at *
  generalize (chargeU base (pickPC t cur T) T).2.1 = r1 at *
  generalize (chargeU base (pickPC t cur T) T).2.2.1 = z0 at *
  generalize (chargeU base (pickPC t cur T) T).2.2.2 = z1 at *
  generalize pickPC t cur T = c1 at *
  go_enter Tryz.func47, Tryz.ntmps47
  go_wp2_with fail
  refine K.out.mono ?_
  rintro e w1 ⟨rfl, A1, st1, e1, e2, hq, ht⟩
  have K3 := Lib.hid (K2.out w1 A1 st1 (by have := HS.out; omega) (by have := HS.out; omega) hq)
  have HT := Lib.hid (And.intro ht (And.intro e1 e2))
  clear K K2 hq ht e1 e2
  go_wp2_with fail
  refine K3.out.mono ?_
  rintro e w2 ⟨rfl, A2, st2, e3, e4, hq2, ht2⟩
  have HP : Hid (WPost t p A st z0 c1 z1 32 w w2) := Lib.hid ⟨A2, st2, by have := HT.out.2; omega, by have := HT.out.2; omega, hq2, HT.out.1.trans ht2⟩
  clear K3 HT e3 e4 hq2 ht2
  go_wp2_with fail
  go_ret2
  exact ⟨rfl, HP.out⟩
theorem ptag_k (w : World) (h : IsW t w p A st base cur T) :
    Calls Tryz.prog 52 #[.pointer (some ⟨p, 0, none⟩)] w fun e w' => e = .returned (.int .i64 t) ∧ w = w' := by
  have c0 := h.cell0
  clear h
  go_enter Tryz.func52, Tryz.ntmps52
  go_wp2_with fail
  go_ret
  exact ⟨rfl, rfl⟩
end
end Go.Proofs.YtandmngfajoinaaGreat.Po
