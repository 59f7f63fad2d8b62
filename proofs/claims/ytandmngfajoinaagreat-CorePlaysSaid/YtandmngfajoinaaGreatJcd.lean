/- policy's queue, as a law makes it; its calls; how far the points get. policy's seed, Seed, New; a queue made of a form, as a law makes it. -/
import Derived.Test.YtandmngfajoinaaGreatJw2
namespace Go.Proofs.YtandmngfajoinaaGreat.Po
open Go.RowKit Go.Maps

/-- A queue that was made since W, its steps at most S; the blocks F are none of its. -/
def SIn (t : Int) (W w : World) (s : Nat) (base cur : Int) (R : List TI) (S : Nat) (F : Nat → Prop) : Prop :=
  ∃ A st, IsW t w s A st base cur R ∧ 0 ≤ st ∧ st ≤ (S : Int) ∧ (∀ k, A k → W.heap.size ≤ k) ∧ Below W.heap.size W w ∧ ∀ k, F k → k < w.heap.size ∧ ¬ A k
section
variable {t : Int} {W w w' : World} {s S : Nat} {base cur : Int} {R : List TI} {F : Nat → Prop}
theorem SIn.wf (h : SIn t W w s base cur R S F) : WfS base cur (cutL R) := by
  obtain ⟨A, st, h1, _⟩ := h
  exact h1.wf
theorem SIn.frame (h : SIn t W w s base cur R S F) : Below W.heap.size W w := by
  obtain ⟨A, st, h1, h2, h3, h4, h5, h6⟩ := h
  exact h5
theorem SIn.below (h : SIn t W w s base cur R S F) (hb : Below w.heap.size w w') : SIn t W w' s base cur R S F := by
  obtain ⟨A, st, h1, h2, h3, h4, h5, h6⟩ := h
  exact ⟨A, st, h1.below hb, h2, h3, h4, h5.trans (hb.mono h5.size), fun k hk => ⟨by have := (h6 k hk).1; have := hb.size; omega, (h6 k hk).2⟩⟩
theorem SIn.weak (h : SIn t W w s base cur R S F) {S' : Nat} (hS : S ≤ S') : SIn t W w s base cur R S' F := by
  obtain ⟨A, st, h1, h2, h3, h4, h5, h6⟩ := h
  exact ⟨A, st, h1, h2, by omega, h4, h5, h6⟩
/-- What has been made since is none of its. -/
theorem SIn.more {G : Nat → Prop} (h : SIn t W w s base cur R S F) (hb : Below w.heap.size w w') (hG : ∀ k, G k → F k ∨ (w.heap.size ≤ k ∧ k < w'.heap.size)) : SIn t W w' s base cur R S G := by
  obtain ⟨A, st, h1, h2, h3, h4, h5, h6⟩ := h
  refine ⟨A, st, h1.below hb, h2, h3, h4, h5.trans (hb.mono h5.size), fun k hk => ?_⟩
  rcases hG k hk with h | h
  · exact ⟨by have := (h6 k h).1; have := hb.size; omega, (h6 k h).2⟩
  · exact ⟨h.2, fun hq => by have := h1.lt k hq; omega⟩
theorem SIn.alloc (h : SIn t W w s base cur R S F) (o : Obj) : SIn t W (w.alloc o) s base cur R S F := h.below ((Below.refl _ w).alloc (Nat.le_refl _) o)
theorem SIn.post {A : Nat → Prop} {K : Nat} {st base' cur' : Int} {R' : List TI} (hP : WPost t s A st base' cur' R' K w w') (h2 : 0 ≤ st) (h3 : st ≤ (S : Int)) (h4 : ∀ k, A k → W.heap.size ≤ k) (h5 : Below W.heap.size W w) (h6 : ∀ k, F k → k < w.heap.size ∧ ¬ A k) :
    SIn t W w' s base' cur' R' (S + K) F ∧ ∀ k, F k → w'.heap[k]? = w.heap[k]? := by
  obtain ⟨A', st', e1, e2, hq, ht⟩ := hP
  refine ⟨⟨A', st', hq, by omega, by omega, fun j hj => ?_, h5.trans (ht.below h4 h5.size), fun j hj => ?_⟩, fun j hj => ht.block j (h6 j hj).1 (h6 j hj).2⟩
  · rcases ht.sub j hj with h | h
    · exact h4 j h
    · have := h5.size; omega
  · have h7 := (h6 j hj).1
    refine ⟨by have := ht.size; omega, fun hq' => ?_⟩
    rcases ht.sub j hq' with h | h
    · exact (h6 j hj).2 h
    · omega
theorem SIn.tag (h : SIn t W w s base cur R S F) : Tag t := by
  obtain ⟨A, st, h1, _⟩ := h
  exact h1.tag
/-- What comes back, and what is left. -/
def InPost (t : Int) (W w : World) (s : Nat) (base cur : Int) (R : List TI) (S : Nat) (F : Nat → Prop) (r : Value) (e : Ending) (w' : World) : Prop :=
  e = .returned r ∧ SIn t W w' s base cur R S F ∧ ∀ k, F k → w'.heap[k]? = w.heap[k]?
theorem InPost.weak {S' : Nat} {r : Value} (hS : S ≤ S') : ∀ e w', InPost t W w s base cur R S F r e w' → InPost t W w s base cur R S' F r e w' := fun _ _ ⟨h1, h2, h3⟩ => ⟨h1, h2.weak hS, h3⟩

theorem senter_in (x : RI) (h : SIn t W w s base cur R S F) (h1 : -3900000000000000000 ≤ base) (h2 : base ≤ 3900000000000000000) (hS : S ≤ 1000000000) :
    Calls Tryz.prog 39 #[.pointer (some ⟨s, 0, none⟩), .int .i64 x.1, .int .i64 x.2.1, .int .i64 x.2.2] w (InPost t W w s (entP t base R x).2.1 cur (entP t base R x).2.2 (S + 24) F (.int .i64 (entP t base R x).1)) := by
  obtain ⟨A, st, g1, g2, g3, g4, g5, g6⟩ := h
  refine (penter_k x.1 x.2.1 x.2.2 w g1 h1 h2 g2 (by omega)).mono ?_
  rintro e w' ⟨rfl, hP⟩
  exact ⟨rfl, SIn.post hP g2 g3 g4 g5 g6⟩
theorem sput_in (x : RI) (h : SIn t W w s base cur R S F) (h1 : -3900000000000000000 ≤ base) (h2 : base ≤ 3900000000000000000) (hS : S ≤ 1000000000) :
    Calls Tryz.prog 38 #[.pointer (some ⟨s, 0, none⟩), .int .i64 x.1, .int .i64 x.2.1, .int .i64 x.2.2] w (InPost t W w s (putU base R x).2.1 cur (putU base R x).2.2 (S + 24) F (.int .i64 (putU base R x).1)) := by
  obtain ⟨A, st, g1, g2, g3, g4, g5, g6⟩ := h
  refine (pput_k x.1 x.2.1 x.2.2 w g1 h1 h2 g2 (by omega)).mono ?_
  rintro e w' ⟨rfl, hP⟩
  exact ⟨rfl, SIn.post hP g2 g3 g4 g5 g6⟩
theorem sleave_in (id : Int) (h : SIn t W w s base cur R S F) (hid : wf64 id) (hS : S ≤ 1000000000) :
    Calls Tryz.prog 45 #[.pointer (some ⟨s, 0, none⟩), .int .i64 id] w (InPost t W w s (leaveU base cur R id).2.2.1 (leaveU base cur R id).2.2.2.1 (leaveU base cur R id).2.2.2.2 (S + 24) F (.tuple #[.int .i64 (leaveU base cur R id).1, .int .i64 (leaveU base cur R id).2.1])) := by
  obtain ⟨A, st, g1, g2, g3, g4, g5, g6⟩ := h
  refine (pleave_k id w g1 hid g2 (by omega)).mono ?_
  rintro e w' ⟨rfl, hP⟩
  exact ⟨rfl, SIn.post hP g2 g3 g4 g5 g6⟩
theorem sweigh_in (id n : Int) (h : SIn t W w s base cur R S F) (hid : wf64 id) (hn : wf64 n) (hS : S ≤ 1000000000) :
    Calls Tryz.prog 46 #[.pointer (some ⟨s, 0, none⟩), .int .i64 id, .int .i64 n] w (InPost t W w s base cur (weighU R id n).2 (S + 16) F (.int .i64 (weighU R id n).1)) := by
  obtain ⟨A, st, g1, g2, g3, g4, g5, g6⟩ := h
  refine (pweigh_k id n w g1 hid hn g2 (by omega)).mono ?_
  rintro e w' ⟨rfl, hP⟩
  exact ⟨rfl, SIn.post hP g2 g3 g4 g5 g6⟩
theorem spick_in (h : SIn t W w s base cur R S F) :
    Calls Tryz.prog 55 #[.pointer (some ⟨s, 0, none⟩)] w (InPost t W w s base (pickPC t cur R) R S F (.tuple #[.int .i64 (pickPV t cur R), .bool (pickPB R)])) := by
  obtain ⟨A, st, g1, g2, g3, g4, g5, g6⟩ := h
  refine (ppick_k w g1).mono ?_
  rintro e w' ⟨rfl, hP⟩
  exact ⟨rfl, SIn.post hP g2 g3 g4 g5 g6⟩
theorem scharge_in (h : SIn t W w s base cur R S F) (hS : S ≤ 1000000000) :
    Calls Tryz.prog 56 #[.pointer (some ⟨s, 0, none⟩)] w (InPost t W w s (chargeU base cur R).2.2.1 cur (chargeU base cur R).2.2.2 (S + 32) F (.tuple #[.int .i64 (chargeU base cur R).1, .int .i64 (chargeU base cur R).2.1])) := by
  obtain ⟨A, st, g1, g2, g3, g4, g5, g6⟩ := h
  refine (pcharge_k w g1 g2 (by omega)).mono ?_
  rintro e w' ⟨rfl, hP⟩
  exact ⟨rfl, SIn.post hP g2 g3 g4 g5 g6⟩
theorem srun_in (h : SIn t W w s base cur R S F) (hS : S ≤ 1000000000) :
    Calls Tryz.prog 47 #[.pointer (some ⟨s, 0, none⟩)] w (InPost t W w s (chargeU base (pickPC t cur R) R).2.2.1 (pickPC t cur R) (chargeU base (pickPC t cur R) R).2.2.2 (S + 32) F (.tuple #[.int .i64 (chargeU base (pickPC t cur R) R).1, .int .i64 (chargeU base (pickPC t cur R) R).2.1])) := by
  obtain ⟨A, st, g1, g2, g3, g4, g5, g6⟩ := h
  refine (prun_k w g1 g2 (by omega)).mono ?_
  rintro e w' ⟨rfl, hP⟩
  exact ⟨rfl, SIn.post hP g2 g3 g4 g5 g6⟩
theorem sform_in (h : SIn t W w s base cur R S F) :
    Calls Tryz.prog 50 #[.pointer (some ⟨s, 0, none⟩)] w fun e w' => ∃ A c, e = .returned (.agg #[.int .i64 cur, .slice A R.length c]) ∧ TRow w' A (formU base R) ∧ Below w.heap.size w w' := by
  obtain ⟨A, st, g1, _⟩ := h
  exact pform_k w g1
end

/-! How far -/
structure Up (base : Int) (R : List RI) (k : Nat) : Prop where
  lo : -1152921504606846976 ≤ base
  hi : base ≤ 1152921504606846976 + 1125899906842624 * ((k + 1 : Nat) : Int)
  each : ∀ r ∈ R, r.2.2 ≤ 1152921504606846976 + 1125899906842624 * ((k + 1 : Nat) : Int)
theorem Up.more {base : Int} {R : List RI} {k : Nat} (h : Up base R k) : Up base R (k + 1) :=
  ⟨h.lo, by have := h.hi; omega, fun r hr => by have := h.each r hr; omega⟩
theorem Up.raise {base : Int} {R : List RI} {k : Nat} (h : Up base R k) : Up (raiseM base R) R k := by
  have h1 := raiseM_ge base R
  refine ⟨by have := h.lo; omega, ?_, h.each⟩
  unfold raiseM
  split
  · exact h.hi
  · rename_i hR
    obtain ⟨q, hq, h2, _⟩ := minR_mem hR
    have := h.each q hq
    have := h.hi
    omega
theorem put_up {base : Int} {R : List RI} {k : Nat} (x : RI) (h : Up base R k) : Up (putM base R x).2.1 (putM base R x).2.2 (k + 1) := by
  unfold putM
  split
  · rename_i hi
    rcases addM_cases base R x with ⟨h1, h2⟩ | ⟨h1, h2, h3⟩
    · rw [if_neg h2]; exact h.more
    · rw [h3, if_pos rfl]
      have hb := itemB_true.1 hi
      refine Up.raise ⟨h.lo, by have := h.hi; omega, fun r hr => ?_⟩
      rcases mem_insR.1 hr with rfl | hr
      · have := h.hi; simp only; omega
      · have := h.each r hr; omega
  · exact h.more
theorem leave_up {base cur : Int} {R : List RI} {k : Nat} (id : Int) (h : Up base R k) : Up (leaveM base cur R id).2.2.1 (leaveM base cur R id).2.2.2.2 (k + 1) := by
  unfold leaveM
  split
  · exact (Up.raise (R := delI R id) ⟨h.lo, h.hi, fun r hr => h.each r (mem_delI.1 hr).1⟩).more
  · exact h.more
theorem weigh_up {base : Int} {R : List RI} {k : Nat} (id n : Int) (h : Up base R k) : Up base (weighM R id n).2 (k + 1) := by
  unfold weighM
  split
  · split
    · refine Up.more ⟨h.lo, h.hi, fun r hr => ?_⟩
      rcases mem_wgt hr with ⟨q, hq, _, rfl⟩ | ⟨hr, _⟩
      · exact h.each q hq
      · exact h.each r hr
    · exact h.more
  · exact h.more
theorem charge_up {base cur : Int} {R : List RI} {k : Nat} (hw : WfS base cur R) (h : Up base R k) : Up (chargeM base cur R).2.2.1 (chargeM base cur R).2.2.2 (k + 1) := by
  unfold chargeM
  split
  · exact h.more
  · split
    · exact h.more
    · rename_i hc _
      have hst := stepV_bd (getI R cur).2.1
      have hI : hasI R cur = true := by rcases hw.cur with h1 | h1; exact absurd h1 hc; exact h1
      have hm := h.each _ (getI_mem hI).1
      refine Up.raise ⟨h.lo, by have := h.hi; omega, fun r hr => ?_⟩
      rcases mem_chg hr with ⟨q, hq, _, rfl⟩ | ⟨hr, _⟩
      · simp only; omega
      · have := h.each r hr; omega
theorem seed_up {base f0 : Int} {l : List RI} (h : goodV f0 l = true) (h1 : -1152921504606846976 ≤ base) (h2 : base ≤ 1152921504606846976) : Up base (seedR base l) 0 := by
  have hg := goodV_of h
  refine ⟨h1, by omega, fun r hr => ?_⟩
  unfold seedR at hr
  obtain ⟨q, hq, rfl⟩ := List.mem_map.1 hr
  have := itemB_true.1 (hg.each q hq)
  simp only; omega

theorem putU_up {base : Int} {T : List TI} {k : Nat} (x : RI) (h : Up base (cutL T) k) : Up (putU base T x).2.1 (cutL (putU base T x).2.2) (k + 1) := by
  have := put_up x h
  rwa [put_cut] at this
theorem leaveU_up {base cur : Int} {T : List TI} {k : Nat} (ha : AscR (cutL T)) (id : Int) (h : Up base (cutL T) k) : Up (leaveU base cur T id).2.2.1 (cutL (leaveU base cur T id).2.2.2.2) (k + 1) := by
  have := leave_up (cur := cur) id h
  rwa [leave_cut ha] at this
theorem weighU_up {base : Int} {T : List TI} {k : Nat} (id n : Int) (h : Up base (cutL T) k) : Up base (cutL (weighU T id n).2) (k + 1) := by
  have := weigh_up id n h
  rwa [weigh_cut] at this
theorem chargeU_up {base cur : Int} {T : List TI} {k : Nat} (hw : WfS base cur (cutL T)) (h : Up base (cutL T) k) : Up (chargeU base cur T).2.2.1 (cutL (chargeU base cur T).2.2.2) (k + 1) := by
  have := charge_up hw h
  rwa [charge_cut hw.asc hw.cur] at this

/-! How far the points get -/
structure UpF (base : Int) (T : List TI) (k : Nat) : Prop where
  up : Up base (cutL T) k
  fit : ∀ x ∈ T, -1125899906842624 ≤ x.2.2.1 - base ∧ x.2.2.1 - base ≤ 1125899906842624 + 232792560 * (k : Int)
section
variable {base cur : Int} {T : List TI} {k : Nat}
theorem UpF.lo (h : UpF base T k) : -1152921504606846976 ≤ base := h.up.lo
theorem UpF.hi (h : UpF base T k) : base ≤ 1152921504606846976 + 1125899906842624 * ((k + 1 : Nat) : Int) := h.up.hi
theorem UpF.more (h : UpF base T k) : UpF base T (k + 1) := ⟨h.up.more, fun x hx => by have := h.fit x hx; omega⟩
theorem fit_raise {N : Int} (h : ∀ x ∈ T, -1125899906842624 ≤ x.2.2.1 - base ∧ x.2.2.1 - base ≤ N) : ∀ x ∈ T, -1125899906842624 ≤ x.2.2.1 - raiseM base (cutL T) ∧ x.2.2.1 - raiseM base (cutL T) ≤ N := fun x hx => by
  have h1 := h x hx
  have h2 := raiseM_ge base (cutL T)
  have h3 := minR_le (cut_mem hx)
  have e : (cutT x).2.2 = x.2.2.1 := rfl
  rw [e] at h3
  have h4 : raiseM base (cutL T) = max base (minR (cutL T)).1 := by unfold raiseM; rw [if_neg (List.ne_nil_of_mem (cut_mem hx))]
  omega
theorem UpF.put (h : UpF base T k) (x : RI) : UpF (putU base T x).2.1 (putU base T x).2.2 (k + 1) := by
  refine ⟨putU_up x h.up, ?_⟩
  have same : ∀ x ∈ T, -1125899906842624 ≤ x.2.2.1 - base ∧ x.2.2.1 - base ≤ 1125899906842624 + 232792560 * ((k + 1 : Nat) : Int) := fun x hx => by have := h.fit x hx; omega
  unfold putU
  split
  · rename_i hi
    split
    · exact same
    · split
      · exact same
      · refine fit_raise (fun z hz => ?_)
        rcases mem_insTT.1 hz with rfl | hz
        · have := itemB_true.1 hi
          have e : (newU base x).2.2.1 = base - x.2.2 := rfl
          rw [e]; omega
        · exact same z hz
  · exact same
theorem UpF.leave (h : UpF base T k) (ha : AscR (cutL T)) (id : Int) : UpF (leaveU base cur T id).2.2.1 (leaveU base cur T id).2.2.2.2 (k + 1) := by
  refine ⟨leaveU_up ha id h.up, ?_⟩
  unfold leaveU
  split
  · exact fit_raise (fun z hz => by have := h.fit z (mem_delU.1 hz).1; omega)
  · exact fun x hx => by have := h.fit x hx; simp only; omega
theorem UpF.weigh (h : UpF base T k) (id n : Int) : UpF base (weighU T id n).2 (k + 1) := by
  refine ⟨weighU_up id n h.up, ?_⟩
  have same : ∀ x ∈ T, -1125899906842624 ≤ x.2.2.1 - base ∧ x.2.2.1 - base ≤ 1125899906842624 + 232792560 * ((k + 1 : Nat) : Int) := fun x hx => by have := h.fit x hx; omega
  unfold weighU
  split
  · split
    · intro z hz
      rcases mem_updU hz with ⟨x, hx, _, rfl⟩ | ⟨hz, _⟩
      · exact same x hx
      · exact same z hz
    · exact same
  · exact same
theorem UpF.charge (h : UpF base T k) (hw : WfS base cur (cutL T)) : UpF (chargeU base cur T).2.2.1 (chargeU base cur T).2.2.2 (k + 1) := by
  refine ⟨chargeU_up hw h.up, ?_⟩
  have same : ∀ x ∈ T, -1125899906842624 ≤ x.2.2.1 - base ∧ x.2.2.1 - base ≤ 1125899906842624 + 232792560 * ((k + 1 : Nat) : Int) := fun x hx => by have := h.fit x hx; omega
  unfold chargeU
  split
  · exact same
  · split
    · exact same
    · refine fit_raise (fun z hz => ?_)
      rcases mem_updU hz with ⟨x, hx, _, rfl⟩ | ⟨hz, _⟩
      · have h1 := h.fit x hx
        have h2 := tickV_bd x.2.1
        have e : (chaT x).2.2.1 = x.2.2.1 + tickV x.2.1 := rfl
        rw [e]; omega
      · exact same z hz
end
theorem seed_upF {base f0 : Int} {l : List RI} (h : goodV f0 l = true) (h1 : -1152921504606846976 ≤ base) (h2 : base ≤ 1152921504606846976) : UpF base (seedU base l) 0 := by
  refine ⟨by rw [seedU_cut]; exact seed_up h h1 h2, fun x hx => ?_⟩
  unfold seedU at hx
  obtain ⟨r, hr, rfl⟩ := List.mem_map.1 hx
  have := itemB_true.1 ((goodV_of h).each r hr)
  have e : (newU base r).2.2.1 = base - r.2.2 := rfl
  rw [e]; omega
theorem low_put (base : Int) (T : List TI) (x : RI) (h : Low base (cutL T)) : Low (putU base T x).2.1 (cutL (putU base T x).2.2) := by
  unfold putU
  split
  · split
    · exact h
    · split
      · exact h
      · exact low_raise _ _
  · exact h
theorem low_leave (base cur : Int) (T : List TI) (id : Int) (h : Low base (cutL T)) : Low (leaveU base cur T id).2.2.1 (cutL (leaveU base cur T id).2.2.2.2) := by
  unfold leaveU
  split
  · exact low_raise _ _
  · exact h
theorem low_weigh (base : Int) (T : List TI) (id n : Int) (h : Low base (cutL T)) : Low base (cutL (weighU T id n).2) := by
  unfold weighU
  split
  · split
    · simp only
      rw [cut_wei]
      exact h.wgt _ _
    · exact h
  · exact h
theorem low_charge (base cur : Int) (T : List TI) (h : Low base (cutL T)) : Low (chargeU base cur T).2.2.1 (cutL (chargeU base cur T).2.2.2) := by
  unfold chargeU
  split
  · exact h
  · split
    · exact h
    · exact low_raise _ _


theorem held_bd (t : Int) {x : Int} (h1 : -1125899906842624 ≤ x) (h2 : x ≤ 1125899906842624) : -1125899906842624 ≤ heldP t x ∧ heldP t x ≤ 1125899906842624 := by
  unfold heldP
  (repeat' split) <;> omega
/-- Enter is a Put of what of the lag counts. -/
theorem ent_put (t base : Int) (T : List TI) (x : RI) : entP t base T x = if itemB x = true then putU base T (x.1, x.2.1, heldP t x.2.2) else (1, base, T) := by
  unfold entP
  by_cases h : itemB x = true
  · have hb := itemB_true.1 h
    have hh := held_bd t hb.2.2.2.1 hb.2.2.2.2
    have e : itemB (x.1, x.2.1, heldP t x.2.2) = itemB x := item_lag ⟨fun _ => hh, fun _ => hb.2.2.2⟩
    rw [if_pos h, if_pos h, put_core, e, if_pos h]
  · rw [if_neg h, if_neg h]
theorem UpF.enter {base : Int} {T : List TI} {k : Nat} (t : Int) (h : UpF base T k) (x : RI) : UpF (entP t base T x).2.1 (entP t base T x).2.2 (k + 1) := by
  rw [ent_put]
  split
  · exact h.put _
  · exact h.more
theorem low_enter (t base : Int) (T : List TI) (x : RI) (h : Low base (cutL T)) : Low (entP t base T x).2.1 (cutL (entP t base T x).2.2) := by
  rw [ent_put]
  split
  · exact low_put _ _ _ h
  · exact h
theorem pickPC_ok {b0 c0 : Int} {T : List TI} (t cur : Int) (hw : WfS b0 c0 (cutL T)) : pickPC t cur T = -1 ∨ hasI (cutL T) (pickPC t cur T) = true := by
  unfold pickPC
  by_cases hT : T = []
  · rw [if_pos hT]; exact .inl rfl
  · rw [if_neg hT]
    refine .inr ?_
    have hc : cutL T ≠ [] := fun e => hT (cut_nil.1 e)
    have hm : hasI (cutL T) (minR (cutL T)).2 = true := by
      obtain ⟨q, hq, _, h2⟩ := minR_mem hc
      exact hasI_iff.2 ⟨q, hq, h2⟩
    unfold pickP
    split
    · exact hm
    · split
      · unfold Fa.pickC
        rw [if_neg hc]
        split
        · rename_i hI
          split
          · exact hm
          · exact hI
        · exact hm
      · have h := pickC_ok hw
        unfold pickC at h
        rw [if_neg hT] at h
        rcases h with h | h
        · exfalso
          obtain ⟨x, hx, _, h2, _⟩ := pick_spec hT (fun x hx => by have := wgt_of hw hx; omega)
          have := (hw.each _ (cut_mem hx)).1
          have e : (cutT x).1 = x.1 := rfl
          omega
        · exact h
theorem WfS.pick {base cur : Int} {T : List TI} (t : Int) (hw : WfS base cur (cutL T)) : WfS base (pickPC t cur T) (cutL T) := { hw with cur := pickPC_ok t cur hw }
end Go.Proofs.YtandmngfajoinaaGreat.Po

namespace Go.Proofs.YtandmngfajoinaaGreat.Po
open Go.RowKit Go.Maps

abbrev SdOk (base f0 : Int) (l : List RI) : Prop := goodV f0 l = true ∧ -1152921504606846976 ≤ base ∧ base ≤ 1152921504606846976
instance (t : Int) : Decidable (Tag t) := inferInstanceAs (Decidable (t = 0 ∨ t = 1 ∨ t = 2))
/-- What seed answers, of a good form. -/
def GYes (t base f0 : Int) (l : List RI) (w : World) (e : Ending) (w' : World) : Prop :=
  ∃ s B st, e = .returned (.tuple #[.iface (tyP t) (.pointer (some ⟨s, 0, none⟩)), .int .i64 0]) ∧ IsG t w' s B st base f0 (seedU base l) ∧ 0 ≤ st ∧ st ≤ 4000 ∧ (∀ k, B k → w.heap.size ≤ k) ∧ Below w.heap.size w w'
/-- .. of another. -/
def GNo (w : World) (e : Ending) (w' : World) : Prop := ∃ v, e = .returned (.tuple #[v, .int .i64 1]) ∧ Below w.heap.size w w'
/-- What Seed answers. -/
def SeedP (t base f0 : Int) (l : List RI) (w : World) (e : Ending) (w' : World) : Prop :=
  if Tag t ∧ SdOk base f0 l then
    ∃ p A st, e = .returned (.tuple #[.pointer (some ⟨p, 0, none⟩), .int .i64 0]) ∧ IsW t w' p A st base f0 (seedU base l) ∧ 0 ≤ st ∧ st ≤ 4000 ∧ (∀ k, A k → w.heap.size ≤ k) ∧ Below w.heap.size w w'
  else e = .returned (.tuple #[.pointer none, .int .i64 1]) ∧ Below w.heap.size w w'
section
variable (f0 base : Int) (A : Option Addr) (n c : Nat) (l : List RI) (w : World)
set_option maxRecDepth 100000 in
set_option maxHeartbeats 2000000 in
theorem gseed0_yes (hn : l.length = n) (hl : n ≤ 4611686018427387904) (hr : TRow w A l) (hg : SdOk base f0 l) :
    Calls Tryz.prog 49 #[.int .i64 0, .agg #[.int .i64 f0, .slice A n c], .int .i64 base] w (GYes 0 base f0 l w) := by
  have hb1 : Below w.heap.size w (w.alloc (.cells #[.int .i64 f0, .slice A n c] 47)) := (Below.refl _ w).alloc (Nat.le_refl _) _
  have hf1 : FoAt (w.alloc (.cells #[.int .i64 f0, .slice A n c] 47)) w.heap.size f0 A n c := heap_alloc_new w _
  obtain ⟨w0, hw0⟩ : ∃ w0, w.alloc (.cells #[.int .i64 f0, .slice A n c] 47) = w0 := ⟨_, rfl⟩
  have hs1 : w0.heap.size = w.heap.size + 1 := by rw [← hw0]; simp
  rw [hw0] at hb1 hf1
  obtain ⟨d0, d1, -, -⟩ := FoAt.cells hf1
  have K0 := St.sseed_c f0 base A n c l w0 hn hl (hr.below hb1 (Nat.le_refl _))
  have HB1 := Lib.hid (And.intro hb1 hs1)
  unfold St.SeedPost at K0
  have K := Lib.hid (K0.mono (fun e w' h => by rw [if_pos hg] at h; exact h))
  clear hg hn hl hr hb1 hf1 hs1 K0
  go_enter Tryz.func49, Tryz.ntmps49
  go_wp2_with fail
  refine K.out.mono ?_
  rintro e w1 ⟨s, B, st, rfl, hq, s1, s2, hn, hb⟩
  have hz : w.heap.size ≤ w0.heap.size := HB1.out.1.size
  have FIN : Hid (IsG 0 w1 s B st base f0 (seedU base l) ∧ 0 ≤ st ∧ st ≤ 4000 ∧ (∀ k, B k → w.heap.size ≤ k) ∧ Below w.heap.size w w1) := by
    rw [← seedU_cut] at hq
    exact Lib.hid ⟨.inl ⟨rfl, hq⟩, s1, by omega, fun k hk => Nat.le_trans hz (hn k hk), HB1.out.1.trans (hb.mono hz)⟩
  clear hq s1 s2 hn hb hz K d0 d1
  go_wp2_with fail
  go_ret2
  exact ⟨_, _, _, rfl, FIN.out⟩
set_option maxRecDepth 100000 in
set_option maxHeartbeats 2000000 in
theorem gseed0_no (hn : l.length = n) (hl : n ≤ 4611686018427387904) (hr : TRow w A l) (hg : ¬ SdOk base f0 l) :
    Calls Tryz.prog 49 #[.int .i64 0, .agg #[.int .i64 f0, .slice A n c], .int .i64 base] w (GNo w) := by
  have hb1 : Below w.heap.size w (w.alloc (.cells #[.int .i64 f0, .slice A n c] 47)) := (Below.refl _ w).alloc (Nat.le_refl _) _
  have hf1 : FoAt (w.alloc (.cells #[.int .i64 f0, .slice A n c] 47)) w.heap.size f0 A n c := heap_alloc_new w _
  obtain ⟨w0, hw0⟩ : ∃ w0, w.alloc (.cells #[.int .i64 f0, .slice A n c] 47) = w0 := ⟨_, rfl⟩
  have hs1 : w0.heap.size = w.heap.size + 1 := by rw [← hw0]; simp
  rw [hw0] at hb1 hf1
  obtain ⟨d0, d1, -, -⟩ := FoAt.cells hf1
  have K0 := St.sseed_c f0 base A n c l w0 hn hl (hr.below hb1 (Nat.le_refl _))
  have HB1 := Lib.hid (And.intro hb1 hs1)
  unfold St.SeedPost at K0
  have K := Lib.hid (K0.mono (fun e w' h => by rw [if_neg hg] at h; exact h))
  clear hg hn hl hr hb1 hf1 hs1 K0
  go_enter Tryz.func49, Tryz.ntmps49
  go_wp2_with fail
  refine K.out.mono ?_
  rintro e w1 ⟨rfl, hb⟩
  have FIN := Lib.hid (HB1.out.1.trans (hb.mono HB1.out.1.size))
  clear hb K d0 d1
  go_wp2_with fail
  go_ret2
  exact ⟨_, rfl, FIN.out⟩
set_option maxRecDepth 100000 in
set_option maxHeartbeats 2000000 in
theorem gseed1_yes (hn : l.length = n) (hl : n ≤ 4611686018427387904) (hr : TRow w A l) (hg : SdOk base f0 l) :
    Calls Tryz.prog 49 #[.int .i64 1, .agg #[.int .i64 f0, .slice A n c], .int .i64 base] w (GYes 1 base f0 l w) := by
  have hb1 : Below w.heap.size w (w.alloc (.cells #[.int .i64 f0, .slice A n c] 47)) := (Below.refl _ w).alloc (Nat.le_refl _) _
  have hf1 : FoAt (w.alloc (.cells #[.int .i64 f0, .slice A n c] 47)) w.heap.size f0 A n c := heap_alloc_new w _
  obtain ⟨w0, hw0⟩ : ∃ w0, w.alloc (.cells #[.int .i64 f0, .slice A n c] 47) = w0 := ⟨_, rfl⟩
  have hs1 : w0.heap.size = w.heap.size + 1 := by rw [← hw0]; simp
  rw [hw0] at hb1 hf1
  obtain ⟨d0, d1, -, -⟩ := FoAt.cells hf1
  have K0 := Fa.sseed_c f0 base A n c l w0 hn hl (hr.below hb1 (Nat.le_refl _))
  have HB1 := Lib.hid (And.intro hb1 hs1)
  unfold Fa.SeedPost at K0
  have K := Lib.hid (K0.mono (fun e w' h => by rw [if_pos hg] at h; exact h))
  clear hg hn hl hr hb1 hf1 hs1 K0
  go_enter Tryz.func49, Tryz.ntmps49
  go_wp2_with fail
  refine K.out.mono ?_
  rintro e w1 ⟨s, B, st, rfl, hq, s1, s2, hn, hb⟩
  have hz : w.heap.size ≤ w0.heap.size := HB1.out.1.size
  have FIN : Hid (IsG 1 w1 s B st base f0 (seedU base l) ∧ 0 ≤ st ∧ st ≤ 4000 ∧ (∀ k, B k → w.heap.size ≤ k) ∧ Below w.heap.size w w1) := by
    rw [← seedU_cut] at hq
    exact Lib.hid ⟨.inr (.inl ⟨rfl, hq⟩), s1, by omega, fun k hk => Nat.le_trans hz (hn k hk), HB1.out.1.trans (hb.mono hz)⟩
  clear hq s1 s2 hn hb hz K d0 d1
  go_wp2_with fail
  go_ret2
  exact ⟨_, _, _, rfl, FIN.out⟩
set_option maxRecDepth 100000 in
set_option maxHeartbeats 2000000 in
theorem gseed1_no (hn : l.length = n) (hl : n ≤ 4611686018427387904) (hr : TRow w A l) (hg : ¬ SdOk base f0 l) :
    Calls Tryz.prog 49 #[.int .i64 1, .agg #[.int .i64 f0, .slice A n c], .int .i64 base] w (GNo w) := by
  have hb1 : Below w.heap.size w (w.alloc (.cells #[.int .i64 f0, .slice A n c] 47)) := (Below.refl _ w).alloc (Nat.le_refl _) _
  have hf1 : FoAt (w.alloc (.cells #[.int .i64 f0, .slice A n c] 47)) w.heap.size f0 A n c := heap_alloc_new w _
  obtain ⟨w0, hw0⟩ : ∃ w0, w.alloc (.cells #[.int .i64 f0, .slice A n c] 47) = w0 := ⟨_, rfl⟩
  have hs1 : w0.heap.size = w.heap.size + 1 := by rw [← hw0]; simp
  rw [hw0] at hb1 hf1
  obtain ⟨d0, d1, -, -⟩ := FoAt.cells hf1
  have K0 := Fa.sseed_c f0 base A n c l w0 hn hl (hr.below hb1 (Nat.le_refl _))
  have HB1 := Lib.hid (And.intro hb1 hs1)
  unfold Fa.SeedPost at K0
  have K := Lib.hid (K0.mono (fun e w' h => by rw [if_neg hg] at h; exact h))
  clear hg hn hl hr hb1 hf1 hs1 K0
  go_enter Tryz.func49, Tryz.ntmps49
  go_wp2_with fail
  refine K.out.mono ?_
  rintro e w1 ⟨rfl, hb⟩
  have FIN := Lib.hid (HB1.out.1.trans (hb.mono HB1.out.1.size))
  clear hb K d0 d1
  go_wp2_with fail
  go_ret2
  exact ⟨_, rfl, FIN.out⟩
set_option maxRecDepth 100000 in
set_option maxHeartbeats 2000000 in
theorem gseed2_yes (hn : l.length = n) (hl : n ≤ 4611686018427387904) (hr : TRow w A l) (hg : SdOk base f0 l) :
    Calls Tryz.prog 49 #[.int .i64 2, .agg #[.int .i64 f0, .slice A n c], .int .i64 base] w (GYes 2 base f0 l w) := by
  have hb1 : Below w.heap.size w (w.alloc (.cells #[.int .i64 f0, .slice A n c] 47)) := (Below.refl _ w).alloc (Nat.le_refl _) _
  have hf1 : FoAt (w.alloc (.cells #[.int .i64 f0, .slice A n c] 47)) w.heap.size f0 A n c := heap_alloc_new w _
  obtain ⟨w0, hw0⟩ : ∃ w0, w.alloc (.cells #[.int .i64 f0, .slice A n c] 47) = w0 := ⟨_, rfl⟩
  have hs1 : w0.heap.size = w.heap.size + 1 := by rw [← hw0]; simp
  rw [hw0] at hb1 hf1
  obtain ⟨d0, d1, -, -⟩ := FoAt.cells hf1
  have K0 := sseed_c f0 base A n c l w0 hn hl (hr.below hb1 (Nat.le_refl _))
  have HB1 := Lib.hid (And.intro hb1 hs1)
  unfold SeedPost at K0
  have K := Lib.hid (K0.mono (fun e w' h => by rw [if_pos hg] at h; exact h))
  clear hg hn hl hr hb1 hf1 hs1 K0
  go_enter Tryz.func49, Tryz.ntmps49
  go_wp2_with fail
  refine K.out.mono ?_
  rintro e w1 ⟨s, B, st, rfl, hq, s1, s2, hn, hb⟩
  have hz : w.heap.size ≤ w0.heap.size := HB1.out.1.size
  have FIN : Hid (IsG 2 w1 s B st base f0 (seedU base l) ∧ 0 ≤ st ∧ st ≤ 4000 ∧ (∀ k, B k → w.heap.size ≤ k) ∧ Below w.heap.size w w1) := by
    exact Lib.hid ⟨.inr (.inr ⟨rfl, hq⟩), s1, by omega, fun k hk => Nat.le_trans hz (hn k hk), HB1.out.1.trans (hb.mono hz)⟩
  clear hq s1 s2 hn hb hz K d0 d1
  go_wp2_with fail
  go_ret2
  exact ⟨_, _, _, rfl, FIN.out⟩
set_option maxRecDepth 100000 in
set_option maxHeartbeats 2000000 in
theorem gseed2_no (hn : l.length = n) (hl : n ≤ 4611686018427387904) (hr : TRow w A l) (hg : ¬ SdOk base f0 l) :
    Calls Tryz.prog 49 #[.int .i64 2, .agg #[.int .i64 f0, .slice A n c], .int .i64 base] w (GNo w) := by
  have hb1 : Below w.heap.size w (w.alloc (.cells #[.int .i64 f0, .slice A n c] 47)) := (Below.refl _ w).alloc (Nat.le_refl _) _
  have hf1 : FoAt (w.alloc (.cells #[.int .i64 f0, .slice A n c] 47)) w.heap.size f0 A n c := heap_alloc_new w _
  obtain ⟨w0, hw0⟩ : ∃ w0, w.alloc (.cells #[.int .i64 f0, .slice A n c] 47) = w0 := ⟨_, rfl⟩
  have hs1 : w0.heap.size = w.heap.size + 1 := by rw [← hw0]; simp
  rw [hw0] at hb1 hf1
  obtain ⟨d0, d1, -, -⟩ := FoAt.cells hf1
  have K0 := sseed_c f0 base A n c l w0 hn hl (hr.below hb1 (Nat.le_refl _))
  have HB1 := Lib.hid (And.intro hb1 hs1)
  unfold SeedPost at K0
  have K := Lib.hid (K0.mono (fun e w' h => by rw [if_neg hg] at h; exact h))
  clear hg hn hl hr hb1 hf1 hs1 K0
  go_enter Tryz.func49, Tryz.ntmps49
  go_wp2_with fail
  refine K.out.mono ?_
  rintro e w1 ⟨rfl, hb⟩
  have FIN := Lib.hid (HB1.out.1.trans (hb.mono HB1.out.1.size))
  clear hb K d0 d1
  go_wp2_with fail
  go_ret2
  exact ⟨_, rfl, FIN.out⟩
set_option maxRecDepth 100000 in
set_option maxHeartbeats 2000000 in
theorem gseed_bad (t : Int) (ht : ¬ Tag t) :
    Calls Tryz.prog 49 #[.int .i64 t, .agg #[.int .i64 f0, .slice A n c], .int .i64 base] w (GNo w) := by
  have hb1 : Below w.heap.size w (w.alloc (.cells #[.int .i64 f0, .slice A n c] 47)) := (Below.refl _ w).alloc (Nat.le_refl _) _
  have HB := Lib.hid hb1
  have e0 : (t == 0) = false := by simp; exact fun h => ht (.inl h)
  have e1 : (t == 1) = false := by simp; exact fun h => ht (.inr (.inl h))
  have e2 : (t == 2) = false := by simp; exact fun h => ht (.inr (.inr h))
  clear hb1 ht
  go_enter Tryz.func49, Tryz.ntmps49
  go_wp2_with fail
  go_ret2
  exact ⟨_, rfl, HB.out⟩
theorem gseed_yes (t : Int) (hn : l.length = n) (hl : n ≤ 4611686018427387904) (hr : TRow w A l) (ht : Tag t) (hg : SdOk base f0 l) :
    Calls Tryz.prog 49 #[.int .i64 t, .agg #[.int .i64 f0, .slice A n c], .int .i64 base] w (GYes t base f0 l w) := by
  rcases ht with rfl | rfl | rfl
  · exact gseed0_yes f0 base A n c l w hn hl hr hg
  · exact gseed1_yes f0 base A n c l w hn hl hr hg
  · exact gseed2_yes f0 base A n c l w hn hl hr hg
theorem gseed_no (t : Int) (hn : l.length = n) (hl : n ≤ 4611686018427387904) (hr : TRow w A l) (h : ¬ (Tag t ∧ SdOk base f0 l)) :
    Calls Tryz.prog 49 #[.int .i64 t, .agg #[.int .i64 f0, .slice A n c], .int .i64 base] w (GNo w) := by
  by_cases ht : Tag t
  · have hg : ¬ SdOk base f0 l := fun hg => h ⟨ht, hg⟩
    rcases ht with rfl | rfl | rfl
    · exact gseed0_no f0 base A n c l w hn hl hr hg
    · exact gseed1_no f0 base A n c l w hn hl hr hg
    · exact gseed2_no f0 base A n c l w hn hl hr hg
  · exact gseed_bad f0 base A n c w t ht

set_option maxRecDepth 100000 in
set_option maxHeartbeats 2000000 in
theorem sseed_p (t : Int) (hn : l.length = n) (hl : n ≤ 4611686018427387904) (hr : TRow w A l) :
    Calls Tryz.prog 20 #[.int .i64 t, .agg #[.int .i64 f0, .slice A n c], .int .i64 base] w (SeedP t base f0 l w) := by
  have hb1 : Below w.heap.size w (w.alloc (.cells #[.int .i64 f0, .slice A n c] 47)) := (Below.refl _ w).alloc (Nat.le_refl _) _
  have hf1 : FoAt (w.alloc (.cells #[.int .i64 f0, .slice A n c] 47)) w.heap.size f0 A n c := heap_alloc_new w _
  obtain ⟨w0, hw0⟩ : ∃ w0, w.alloc (.cells #[.int .i64 f0, .slice A n c] 47) = w0 := ⟨_, rfl⟩
  have hs1 : w0.heap.size = w.heap.size + 1 := by rw [← hw0]; simp
  rw [hw0] at hb1 hf1
  obtain ⟨d0, d1, -, -⟩ := FoAt.cells hf1
  have HB1 := Lib.hid (And.intro hb1 hs1)
  by_cases hg : Tag t ∧ SdOk base f0 l
  · refine Calls.mono (?_ : Calls _ _ _ _ (fun e w' => ∃ p A st, e = .returned (.tuple #[.pointer (some ⟨p, 0, none⟩), .int .i64 0]) ∧ IsW t w' p A st base f0 (seedU base l) ∧ 0 ≤ st ∧ st ≤ 4000 ∧ (∀ k, A k → w.heap.size ≤ k) ∧ Below w.heap.size w w')) (fun e w' h => by unfold SeedP; rw [if_pos hg]; exact h)
    have K := Lib.hid (gseed_yes f0 base A n c l w0 t hn hl (hr.below hb1 (Nat.le_refl _)) hg.1 hg.2)
    clear hg hn hl hr hb1 hf1 hs1
    go_enter Tryz.func20, Tryz.ntmps20
    go_wp2_with fail
    refine K.out.mono ?_
    rintro e w1 ⟨s, B, st, rfl, hq, s1, s2, hn, hb⟩
    have hz : w.heap.size ≤ w0.heap.size := HB1.out.1.size
    have hbw : Below w.heap.size w w1 := HB1.out.1.trans (hb.mono hz)
    have hb2 : Below w1.heap.size w1 (w1.alloc (.cells #[.int .i64 t, .iface (tyP t) (.pointer (some ⟨s, 0, none⟩))] 90)) := (Below.refl _ w1).alloc (Nat.le_refl _) _
    have FIN : Hid (IsW t (w1.alloc (.cells #[.int .i64 t, .iface (tyP t) (.pointer (some ⟨s, 0, none⟩))] 90)) w1.heap.size (fun k => k = w1.heap.size ∨ B k) st base f0 (seedU base l) ∧ 0 ≤ st ∧ st ≤ 4000 ∧ (∀ k, (k = w1.heap.size ∨ B k) → w.heap.size ≤ k) ∧ Below w.heap.size w (w1.alloc (.cells #[.int .i64 t, .iface (tyP t) (.pointer (some ⟨s, 0, none⟩))] 90))) :=
      Lib.hid ⟨⟨s, B, World.alloc_heap_new w1 _, hq.keep (fun k hk => hb2.block k (hq.lt k hk)), fun hh => by have := hq.lt _ hh; omega, fun _ => Iff.rfl⟩, s1, s2, fun k hk => by
        rcases hk with rfl | hk
        · exact hbw.size
        · exact Nat.le_trans hz (hn k hk), hbw.trans (hb2.mono hbw.size)⟩
    clear hq hn hb hb2 K s1 s2 hz hbw d0 d1
    go_wp2_with fail
    go_ret2
    exact ⟨_, _, _, rfl, FIN.out⟩
  · refine Calls.mono (?_ : Calls _ _ _ _ (fun e w' => e = .returned (.tuple #[.pointer none, .int .i64 1]) ∧ Below w.heap.size w w')) (fun e w' h => by unfold SeedP; rw [if_neg hg]; exact h)
    have K := Lib.hid (gseed_no f0 base A n c l w0 t hn hl (hr.below hb1 (Nat.le_refl _)) hg)
    clear hg hn hl hr hb1 hf1 hs1
    go_enter Tryz.func20, Tryz.ntmps20
    go_wp2_with fail
    refine K.out.mono ?_
    rintro e w1 ⟨v, rfl, hb⟩
    have HB := Lib.hid (HB1.out.1.trans (hb.mono HB1.out.1.size))
    clear hb K d0 d1
    go_wp2_with fail
    go_ret2
    exact ⟨rfl, HB.out⟩
end
theorem good_none : goodV (-1) [] = true := by decide +kernel
set_option maxRecDepth 100000 in
set_option maxHeartbeats 2000000 in
/-- New: a queue of none. -/
theorem pnew_p (t base : Int) (w : World) :
    Calls Tryz.prog 36 #[.int .i64 t, .int .i64 base] w (SeedP t base (-1) [] w) := by
  have K0 := sseed_p (-1) base none 0 0 [] w t rfl (by omega) TRow.nil
  by_cases hg : Tag t ∧ SdOk base (-1) []
  · refine Calls.mono (?_ : Calls _ _ _ _ (fun e w' => ∃ p A st, e = .returned (.tuple #[.pointer (some ⟨p, 0, none⟩), .int .i64 0]) ∧ IsW t w' p A st base (-1) (seedU base []) ∧ 0 ≤ st ∧ st ≤ 4000 ∧ (∀ k, A k → w.heap.size ≤ k) ∧ Below w.heap.size w w')) (fun e w' h => by unfold SeedP; rw [if_pos hg]; exact h)
    have K := Lib.hid (K0.mono (fun e w' h => by unfold SeedP at h; rw [if_pos hg] at h; exact h))
    clear hg K0
    go_enter Tryz.func36, Tryz.ntmps36
    go_wp2_with fail
    refine K.out.mono ?_
    rintro e w1 ⟨s, B, st, rfl, hq⟩
    have HQ := Lib.hid hq
    clear hq K
    go_wp2_with fail
    go_ret2
    exact ⟨_, _, _, rfl, HQ.out⟩
  · refine Calls.mono (?_ : Calls _ _ _ _ (fun e w' => e = .returned (.tuple #[.pointer none, .int .i64 1]) ∧ Below w.heap.size w w')) (fun e w' h => by unfold SeedP; rw [if_neg hg]; exact h)
    have K := Lib.hid (K0.mono (fun e w' h => by unfold SeedP at h; rw [if_neg hg] at h; exact h))
    clear hg K0
    go_enter Tryz.func36, Tryz.ntmps36
    go_wp2_with fail
    refine K.out.mono ?_
    rintro e w1 ⟨rfl, hb⟩
    have HB := Lib.hid hb
    clear hb K
    go_wp2_with fail
    go_ret2
    exact ⟨rfl, HB.out⟩
end Go.Proofs.YtandmngfajoinaaGreat.Po

namespace Go.Proofs.YtandmngfajoinaaGreat.Po
open Go.RowKit Go.Maps
theorem seed_in {t : Int} {W w w' : World} {p : Nat} {A F : Nat → Prop} {st base f0 : Int} {T : List TI} (hb : Below W.heap.size W w) (hF : ∀ k, F k → k < w.heap.size) (hq : IsW t w' p A st base f0 T) (s1 : 0 ≤ st) (s2 : st ≤ 4000) (hn : ∀ k, A k → w.heap.size ≤ k) (hb' : Below w.heap.size w w') : SIn t W w' p base f0 T 4000 F :=
  ⟨A, st, hq, s1, by omega, fun k hk => by have := hn k hk; have := hb.size; omega, hb.trans (hb'.mono hb.size), fun k hk => ⟨by have := hF k hk; have := hb'.size; omega, fun hq' => by have := hn k hq'; have := hF k hk; omega⟩⟩
theorem run_none : chargeU 0 (pickPC 0 (-1) (seedU 0 [])) (seedU 0 []) = (0, 14, 0, []) := rfl
end Go.Proofs.YtandmngfajoinaaGreat.Po
