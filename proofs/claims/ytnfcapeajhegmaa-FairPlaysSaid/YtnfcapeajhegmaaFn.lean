/- fair: how far the points get; two queues that differ in their base. Plain theory, and two queues side by side. -/
import Derived.Test.YtnfcapeajhegmaaFm
namespace Go.Proofs.Ytnfcapeajhegmaa
open Go.RowKit

/-! How far -/
structure Up (base : Int) (R : List RI) (k : Nat) : Prop where
  lo : -1152921504606846976 ≤ base
  hi : base ≤ 1152921504606846976 + 1125899906842624 * ((k + 1 : Nat) : Int)
  each : ∀ r ∈ R, r.2.2 ≤ 1152921504606846976 + 1125899906842624 * ((k + 1 : Nat) : Int)
theorem Up.more {base : Int} {R : List RI} {k : Nat} (h : Up base R k) : Up base R (k + 1) :=
  ⟨h.lo, by have := h.hi; omega, fun r hr => by have := h.each r hr; omega⟩
theorem Up.raise {base : Int} {R : List RI} {k : Nat} (h : Up base R k) : Up (raiseM base R) R k := by
  have h1 := raiseM_ge base R
  refine ⟨by have := h.lo; omega, ?_, h.each⟩
  unfold raiseM
  split
  · exact h.hi
  · rename_i hR
    obtain ⟨q, hq, h2, _⟩ := minR_mem hR
    have := h.each q hq
    have := h.hi
    omega
theorem put_up {base : Int} {R : List RI} {k : Nat} (x : RI) (h : Up base R k) : Up (putM base R x).2.1 (putM base R x).2.2 (k + 1) := by
  unfold putM
  split
  · rename_i hi
    rcases addM_cases base R x with ⟨h1, h2⟩ | ⟨h1, h2, h3⟩
    · rw [if_neg h2]; exact h.more
    · rw [h3, if_pos rfl]
      have hb := itemB_true.1 hi
      refine Up.raise ⟨h.lo, by have := h.hi; omega, fun r hr => ?_⟩
      rcases mem_insR.1 hr with rfl | hr
      · have := h.hi; simp only; omega
      · have := h.each r hr; omega
  · exact h.more
theorem enter_up {base : Int} {R : List RI} {k : Nat} (x : RI) (h : Up base R k) : Up (enterM base R x).2.1 (enterM base R x).2.2 (k + 1) := by
  unfold enterM
  split
  · exact h.more
  · exact put_up _ h
theorem leave_up {base cur : Int} {R : List RI} {k : Nat} (id : Int) (h : Up base R k) : Up (leaveM base cur R id).2.2.1 (leaveM base cur R id).2.2.2.2 (k + 1) := by
  unfold leaveM
  split
  · exact (Up.raise (R := delI R id) ⟨h.lo, h.hi, fun r hr => h.each r (mem_delI.1 hr).1⟩).more
  · exact h.more
theorem weigh_up {base : Int} {R : List RI} {k : Nat} (id n : Int) (h : Up base R k) : Up base (weighM R id n).2 (k + 1) := by
  unfold weighM
  split
  · split
    · refine Up.more ⟨h.lo, h.hi, fun r hr => ?_⟩
      rcases mem_wgt hr with ⟨q, hq, _, rfl⟩ | ⟨hr, _⟩
      · exact h.each q hq
      · exact h.each r hr
    · exact h.more
  · exact h.more
theorem charge_up {base cur : Int} {R : List RI} {k : Nat} (hw : WfS base cur R) (h : Up base R k) : Up (chargeM base cur R).2.2.1 (chargeM base cur R).2.2.2 (k + 1) := by
  unfold chargeM
  split
  · exact h.more
  · split
    · exact h.more
    · rename_i hc _
      have hst := stepV_bd (getI R cur).2.1
      have hI : hasI R cur = true := by rcases hw.cur with h1 | h1; exact absurd h1 hc; exact h1
      have hm := h.each _ (getI_mem hI).1
      refine Up.raise ⟨h.lo, by have := h.hi; omega, fun r hr => ?_⟩
      rcases mem_chg hr with ⟨q, hq, _, rfl⟩ | ⟨hr, _⟩
      · simp only; omega
      · have := h.each r hr; omega
theorem seed_up {base f0 : Int} {l : List RI} (h : goodV f0 l = true) (h1 : -1152921504606846976 ≤ base) (h2 : base ≤ 1152921504606846976) : Up base (seedR base l) 0 := by
  have hg := goodV_of h
  refine ⟨h1, by omega, fun r hr => ?_⟩
  unfold seedR at hr
  obtain ⟨q, hq, rfl⟩ := List.mem_map.1 hr
  have := itemB_true.1 (hg.each q hq)
  simp only; omega

/-! Moved by d -/
def mvI (d : Int) (r : RI) : RI := (r.1, r.2.1, r.2.2 + d)
def shR (d : Int) (R : List RI) : List RI := R.map (mvI d)
theorem sh_nil {d : Int} {R : List RI} : shR d R = [] ↔ R = [] := by unfold shR; simp
theorem sh_has (d : Int) (R : List RI) (id : Int) : hasI (shR d R) id = hasI R id := has_map (f := mvI d) (fun _ => rfl) id
theorem sh_len (d : Int) (R : List RI) : (shR d R).length = R.length := by unfold shR; simp
theorem sh_asc {d : Int} {R : List RI} (h : AscR R) : AscR (shR d R) := asc_map (f := mvI d) h (fun _ => rfl)
theorem sh_get {d : Int} {R : List RI} (h : AscR R) {id : Int} (hi : hasI R id = true) : getI (shR d R) id = mvI d (getI R id) := by
  obtain ⟨h1, h2⟩ := getI_mem hi
  have hm : mvI d (getI R id) ∈ shR d R := by unfold shR; exact List.mem_map.2 ⟨_, h1, rfl⟩
  have := getI_of (sh_asc h) hm
  rw [show (mvI d (getI R id)).1 = id from h2] at this
  exact this
theorem sh_ins (d : Int) (R : List RI) (x : RI) : insR (shR d R) (mvI d x) = shR d (insR R x) := by
  induction R with
  | nil => rfl
  | cons y ys ih =>
    show insR (mvI d y :: shR d ys) (mvI d x) = shR d (insR (y :: ys) x)
    unfold insR
    by_cases h : y.1 < x.1
    · rw [if_pos (show (mvI d y).1 < (mvI d x).1 from h), if_pos h, ih]; rfl
    · rw [if_neg (show ¬ (mvI d y).1 < (mvI d x).1 from h), if_neg h]; rfl
theorem sh_del (d : Int) (R : List RI) (id : Int) : delI (shR d R) id = shR d (delI R id) := by
  unfold delI shR
  rw [List.filter_map]
  rfl
theorem sh_wgt (d : Int) (R : List RI) (id n : Int) : wgtI (shR d R) id n = shR d (wgtI R id n) := by
  unfold wgtI shR
  rw [List.map_map, List.map_map]
  refine List.map_congr_left (fun r _ => ?_)
  simp only [Function.comp, mvI]
  by_cases h : r.1 = id <;> simp [h]
theorem sh_chg (d : Int) (R : List RI) (id v : Int) : chgI (shR d R) id (v + d) = shR d (chgI R id v) := by
  unfold chgI shR
  rw [List.map_map, List.map_map]
  refine List.map_congr_left (fun r _ => ?_)
  simp only [Function.comp, mvI]
  by_cases h : r.1 = id <;> simp [h]
theorem sh_min {d : Int} {R : List RI} (h : R ≠ []) : minR (shR d R) = ((minR R).1 + d, (minR R).2) := by
  obtain ⟨q, hq, h1, h2⟩ := minR_mem h
  refine minR_eq ⟨mvI d q, by unfold shR; exact List.mem_map.2 ⟨q, hq, rfl⟩, by show q.2.2 + d = _; rw [h1], h2⟩ (fun r hr => ?_)
  unfold shR at hr
  obtain ⟨z, hz, rfl⟩ := List.mem_map.1 hr
  have := minR_le hz
  show (minR R).1 + d < z.2.2 + d ∨ ((minR R).1 + d = z.2.2 + d ∧ (minR R).2 ≤ z.1)
  omega
theorem sh_raise (d base : Int) (R : List RI) : raiseM (base + d) (shR d R) = raiseM base R + d := by
  unfold raiseM
  by_cases h : R = []
  · rw [if_pos h, if_pos (sh_nil.2 h)]
  · rw [if_neg h, if_neg (fun e => h (sh_nil.1 e)), sh_min h]
    simp only
    omega
theorem sh_form (d base : Int) (R : List RI) : formL (base + d) (shR d R) = formL base R := by
  unfold formL shR
  rw [List.map_map]
  refine List.map_congr_left (fun r _ => ?_)
  simp only [Function.comp, mvI]
  congr 2
  omega
theorem sh_add (d base : Int) (R : List RI) (x : RI) : addM (base + d) (shR d R) x = ((addM base R x).1, shR d (addM base R x).2) := by
  unfold addM
  rw [sh_has, sh_len]
  split
  · rfl
  · split
    · rfl
    · have e : ((x.1, x.2.1, base + d - x.2.2) : RI) = mvI d (x.1, x.2.1, base - x.2.2) := by unfold mvI; simp only; congr 2; omega
      rw [e, sh_ins]
theorem sh_put (d base : Int) (R : List RI) (x : RI) : putM (base + d) (shR d R) x = ((putM base R x).1, (putM base R x).2.1 + d, shR d (putM base R x).2.2) := by
  unfold putM
  rw [sh_add]
  split
  · simp only
    split
    · rw [sh_raise]
    · rfl
  · rfl
theorem sh_enter (d base : Int) (R : List RI) (x : RI) : enterM (base + d) (shR d R) x = ((enterM base R x).1, (enterM base R x).2.1 + d, shR d (enterM base R x).2.2) := by
  unfold enterM
  split
  · rfl
  · exact sh_put d base R _
theorem sh_leave {d base cur : Int} {R : List RI} (h : AscR R) (id : Int) : leaveM (base + d) cur (shR d R) id = ((leaveM base cur R id).1, (leaveM base cur R id).2.1, (leaveM base cur R id).2.2.1 + d, (leaveM base cur R id).2.2.2.1, shR d (leaveM base cur R id).2.2.2.2) := by
  unfold leaveM
  rw [sh_has]
  split
  · rename_i hi
    rw [sh_get h hi, sh_del, sh_raise]
    have e : base + d - (mvI d (getI R id)).2.2 = base - (getI R id).2.2 := by show base + d - ((getI R id).2.2 + d) = _; omega
    rw [e]
  · rfl
theorem sh_weigh (d : Int) (R : List RI) (id n : Int) : weighM (shR d R) id n = ((weighM R id n).1, shR d (weighM R id n).2) := by
  unfold weighM
  rw [sh_has, sh_wgt]
  split
  · split <;> rfl
  · rfl
theorem sh_charge {d base cur : Int} {R : List RI} {k : Nat} (hw : WfS base cur R) (h1 : Up base R k) (h2 : Up (base + d) (shR d R) k) (hk : k ≤ 900) :
    chargeM (base + d) cur (shR d R) = ((chargeM base cur R).1, (chargeM base cur R).2.1, (chargeM base cur R).2.2.1 + d, shR d (chargeM base cur R).2.2.2) := by
  unfold chargeM
  split
  · rfl
  · rename_i hc
    have hI : hasI R cur = true := by rcases hw.cur with h1 | h1; exact absurd h1 hc; exact h1
    rw [sh_get hw.asc hI]
    have hm := (getI_mem hI).1
    have hm2 : mvI d (getI R cur) ∈ shR d R := by unfold shR; exact List.mem_map.2 ⟨_, hm, rfl⟩
    have e1 := h1.each _ hm
    have e2 := h2.each _ hm2
    have hst := stepV_bd (getI R cur).2.1
    have e3 : (mvI d (getI R cur)).2.1 = (getI R cur).2.1 := rfl
    have e4 : (mvI d (getI R cur)).2.2 = (getI R cur).2.2 + d := rfl
    rw [e4] at e2
    rw [e3, e4, if_neg (by omega), if_neg (by omega)]
    have e5 : (getI R cur).2.2 + d + stepV (getI R cur).2.1 = (getI R cur).2.2 + stepV (getI R cur).2.1 + d := by omega
    rw [e5, sh_chg, sh_raise]
theorem sh_pick {b0 c0 : Int} (d cur : Int) {R : List RI} (hw : WfS b0 c0 R) : pickC cur (shR d R) = pickC cur R := by
  unfold pickC
  by_cases h : R = []
  · rw [if_pos h, if_pos (sh_nil.2 h)]
  · rw [if_neg h, if_neg (fun e => h (sh_nil.1 e)), sh_min h, sh_has]
    by_cases hI : hasI R cur = true
    · rw [if_pos hI, if_pos hI, sh_get hw.asc hI]
      have e : (mvI d (getI R cur)).2.2 = (getI R cur).2.2 + d := rfl
      rw [e]
      by_cases hf : (minR R).1 < (getI R cur).2.2 - 465585120
      · rw [if_pos hf, if_pos (by simp only; omega)]
      · rw [if_neg hf, if_neg (by simp only; omega)]
    · rw [if_neg hI, if_neg hI]
theorem sh_seed (a b : Int) (l : List RI) : seedR b l = shR (b - a) (seedR a l) := by
  unfold seedR shR
  rw [List.map_map]
  refine List.map_congr_left (fun r _ => ?_)
  simp only [Function.comp, mvI]
  congr 2
  omega

/-! Two queues -/
def S2In (W w : World) (s1 s2 : Nat) (b1 c1 : Int) (R1 : List RI) (b2 c2 : Int) (R2 : List RI) (S : Nat) (F : Nat → Prop) : Prop :=
  ∃ A1 t1 A2 t2, IsK w s1 A1 t1 b1 c1 R1 ∧ IsK w s2 A2 t2 b2 c2 R2 ∧ (0 ≤ t1 ∧ t1 ≤ (S : Int) ∧ 0 ≤ t2 ∧ t2 ≤ (S : Int)) ∧
    (∀ k, A1 k → W.heap.size ≤ k) ∧ (∀ k, A2 k → W.heap.size ≤ k) ∧ (∀ k, A1 k → ¬ A2 k) ∧ Below W.heap.size W w ∧
    ∀ k, F k → k < w.heap.size ∧ ¬ A1 k ∧ ¬ A2 k
section
variable {W w w' : World} {s1 s2 : Nat} {b1 c1 b2 c2 : Int} {R1 R2 : List RI} {S : Nat} {F : Nat → Prop}
theorem S2In.swap (h : S2In W w s1 s2 b1 c1 R1 b2 c2 R2 S F) : S2In W w s2 s1 b2 c2 R2 b1 c1 R1 S F := by
  obtain ⟨A1, t1, A2, t2, g1, g2, ⟨g3, g4, g5, g6⟩, g7, g8, g9, g10, g11⟩ := h
  exact ⟨A2, t2, A1, t1, g2, g1, ⟨g5, g6, g3, g4⟩, g8, g7, fun k hk hk' => g9 k hk' hk, g10, fun k hk => ⟨(g11 k hk).1, (g11 k hk).2.2, (g11 k hk).2.1⟩⟩
theorem S2In.wf (h : S2In W w s1 s2 b1 c1 R1 b2 c2 R2 S F) : WfS b1 c1 R1 := by
  obtain ⟨A1, t1, A2, t2, g1, _⟩ := h
  exact g1.wf
theorem S2In.frame (h : S2In W w s1 s2 b1 c1 R1 b2 c2 R2 S F) : Below W.heap.size W w := by
  obtain ⟨A1, t1, A2, t2, g1, g2, g3, g7, g8, g9, g10, g11⟩ := h
  exact g10
theorem S2In.weak (h : S2In W w s1 s2 b1 c1 R1 b2 c2 R2 S F) {S' : Nat} (hS : S ≤ S') : S2In W w s1 s2 b1 c1 R1 b2 c2 R2 S' F := by
  obtain ⟨A1, t1, A2, t2, g1, g2, ⟨g3, g4, g5, g6⟩, g7, g8, g9, g10, g11⟩ := h
  exact ⟨A1, t1, A2, t2, g1, g2, ⟨g3, by omega, g5, by omega⟩, g7, g8, g9, g10, g11⟩
/-- What has been made since is none of theirs. -/
theorem S2In.more {G : Nat → Prop} (h : S2In W w s1 s2 b1 c1 R1 b2 c2 R2 S F) (hb : Below w.heap.size w w') (hG : ∀ k, G k → F k ∨ (w.heap.size ≤ k ∧ k < w'.heap.size)) : S2In W w' s1 s2 b1 c1 R1 b2 c2 R2 S G := by
  obtain ⟨A1, t1, A2, t2, g1, g2, g3, g7, g8, g9, g10, g11⟩ := h
  refine ⟨A1, t1, A2, t2, g1.below hb, g2.below hb, g3, g7, g8, g9, g10.trans (hb.mono g10.size), fun k hk => ?_⟩
  rcases hG k hk with h | h
  · exact ⟨by have := (g11 k h).1; have := hb.size; omega, (g11 k h).2⟩
  · exact ⟨h.2, fun hq => by have := g1.lt k hq; omega, fun hq => by have := g2.lt k hq; omega⟩
theorem S2In.below (h : S2In W w s1 s2 b1 c1 R1 b2 c2 R2 S F) (hb : Below w.heap.size w w') : S2In W w' s1 s2 b1 c1 R1 b2 c2 R2 S F := h.more hb (fun _ hk => .inl hk)
/-- The first of them, the other one none of its blocks. -/
theorem S2In.one (h : S2In W w s1 s2 b1 c1 R1 b2 c2 R2 S F) :
    ∃ G : Nat → Prop, SIn W w s1 b1 c1 R1 S G ∧ (∀ w' S' b c R, SIn W w' s1 b c R S' G → (∀ k, G k → w'.heap[k]? = w.heap[k]?) → S ≤ S' → S2In W w' s1 s2 b c R b2 c2 R2 S' F) ∧ ∀ k, F k → G k := by
  obtain ⟨A1, t1, A2, t2, g1, g2, ⟨g3, g4, g5, g6⟩, g7, g8, g9, g10, g11⟩ := h
  refine ⟨fun k => A2 k ∨ F k, ⟨A1, t1, g1, g3, g4, g7, g10, fun k hk => ?_⟩, fun w' S' b c R hq hk hS => ?_, fun k hk => .inr hk⟩
  · rcases hk with hk | hk
    · exact ⟨g2.lt k hk, fun h => g9 k h hk⟩
    · exact ⟨(g11 k hk).1, (g11 k hk).2.1⟩
  · obtain ⟨A1, t1, q1, q2, q3, q4, q5, q6⟩ := hq
    exact ⟨A1, t1, A2, t2, q1, g2.keep (fun j hj => hk j (.inl hj)), ⟨q2, q3, g5, by omega⟩, q4, g8, fun k hk' hk2 => (q6 k (.inl hk2)).2 hk', q5, fun k hk' => ⟨(q6 k (.inr hk')).1, (q6 k (.inr hk')).2, (g11 k hk').2.2⟩⟩
/-- A call on the first of them. -/
theorem s2_call {f : Nat} {args : Array Value} {r : Value} {b c : Int} {R : List RI} {S' : Nat} (h : S2In W w s1 s2 b1 c1 R1 b2 c2 R2 S F) (hS : S ≤ S')
    (hc : ∀ G, SIn W w s1 b1 c1 R1 S G → Calls Try.prog f args w (InPost W w s1 b c R S' G r)) :
    Calls Try.prog f args w fun e w' => e = .returned r ∧ S2In W w' s1 s2 b c R b2 c2 R2 S' F ∧ ∀ k, F k → w'.heap[k]? = w.heap[k]? := by
  obtain ⟨G, h1, h2, h3⟩ := h.one
  refine (hc G h1).mono ?_
  rintro e w' ⟨he, hq, hk⟩
  exact ⟨he, h2 w' S' b c R hq hk hS, fun k hF => hk k (h3 k hF)⟩
theorem s2_form (h : S2In W w s1 s2 b1 c1 R1 b2 c2 R2 S F) :
    Calls Try.prog 36 #[.pointer (some ⟨s1, 0, none⟩)] w fun e w' => ∃ A c, e = .returned (.agg #[.int .i64 c1, .slice A R1.length c]) ∧ TRow w' A (formL b1 R1) ∧ S2In W w' s1 s2 b1 c1 R1 b2 c2 R2 S F ∧ Below w.heap.size w w' := by
  obtain ⟨G, h1, _⟩ := h.one
  refine (sform_in h1).mono ?_
  rintro e w' ⟨A, c, rfl, hT, _, hb⟩
  exact ⟨A, c, rfl, hT, h.below hb, hb⟩
end
end Go.Proofs.Ytnfcapeajhegmaa
