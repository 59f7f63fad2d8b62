/- fair: two queues that differ in their base, call by call. -/
import Derived.Test.YtnfcapeajhegmaaFn
namespace Go.Proofs.Ytnfcapeajhegmaa
open Go.RowKit Go.Maps

theorem InPost.weak {W w : World} {s : Nat} {base cur : Int} {R : List RI} {S S' : Nat} {F : Nat → Prop} {r : Value} (hS : S ≤ S') : ∀ e w', InPost W w s base cur R S F r e w' → InPost W w s base cur R S' F r e w' := fun _ _ ⟨h1, h2, h3⟩ => ⟨h1, h2.weak hS, h3⟩
theorem sh_pickV {b0 c0 : Int} (d cur : Int) {R : List RI} (hw : WfS b0 c0 R) : pickV cur (shR d R) = pickV cur R := by
  unfold pickV
  rw [sh_pick d cur hw]
  by_cases h : R = []
  · rw [if_pos h, if_pos (sh_nil.2 h)]
  · rw [if_neg h, if_neg (fun e => h (sh_nil.1 e))]
theorem sh_pickB (d : Int) (R : List RI) : pickB (shR d R) = pickB R := by
  unfold pickB
  by_cases h : R = []
  · rw [decide_eq_true h, decide_eq_true (sh_nil.2 h)]
  · rw [decide_eq_false h, decide_eq_false (fun e => h (sh_nil.1 e))]

/-- k acts are done on both. -/
def ApF (W w : World) (s1 s2 : Nat) (d : Int) (k : Nat) (base cur : Int) (R : List RI) (F : Nat → Prop) : Prop := S2In W w s1 s2 base cur R (base + d) cur (shR d R) (1000 + 32 * k) F ∧ Up base R k ∧ Up (base + d) (shR d R) k ∧ k ≤ 200
/-- One more on the first of them. -/
def Half (W w : World) (s1 s2 : Nat) (d : Int) (k : Nat) (b' c' : Int) (R' : List RI) (base cur : Int) (R : List RI) (F : Nat → Prop) : Prop := S2In W w s1 s2 b' c' R' (base + d) cur (shR d R) (1000 + 32 * k + 16) F ∧ Up b' R' (k + 1) ∧ Up base R k ∧ Up (base + d) (shR d R) k ∧ WfS base cur R ∧ k ≤ 200
section
variable {W w : World} {s1 s2 k : Nat} {d base cur b' c' : Int} {R R' : List RI} {F : Nat → Prop}
theorem ap_1 {f : Nat} {args : Array Value} {r : Value} (h : ApF W w s1 s2 d k base cur R F) (hu : Up b' R' (k + 1)) (hc : ∀ G, SIn W w s1 base cur R (1000 + 32 * k) G → Calls Try.prog f args w (InPost W w s1 b' c' R' (1000 + 32 * k + 16) G r)) :
    Calls Try.prog f args w fun e w' => e = .returned r ∧ Half W w' s1 s2 d k b' c' R' base cur R F ∧ ∀ j, F j → w'.heap[j]? = w.heap[j]? := by
  obtain ⟨hq, hu1, hu2, hk⟩ := h
  refine (s2_call hq (by omega) hc).mono ?_
  rintro e w' ⟨he, hq', hF⟩
  exact ⟨he, ⟨hq', hu, hu1, hu2, hq.wf, hk⟩, hF⟩
theorem ap_2 {f : Nat} {args : Array Value} {r : Value} (h : Half W w s1 s2 d k b' c' R' base cur R F) (hk : k < 200) (hu : Up (b' + d) (shR d R') (k + 1)) (hc : ∀ G, SIn W w s2 (base + d) cur (shR d R) (1000 + 32 * k + 16) G → Calls Try.prog f args w (InPost W w s2 (b' + d) c' (shR d R') (1000 + 32 * k + 32) G r)) :
    Calls Try.prog f args w fun e w' => e = .returned r ∧ ApF W w' s1 s2 d (k + 1) b' c' R' F ∧ ∀ j, F j → w'.heap[j]? = w.heap[j]? := by
  obtain ⟨hq, hu1, hu2, hu3, hwf, hk'⟩ := h
  refine (s2_call hq.swap (by omega) hc).mono ?_
  rintro e w' ⟨he, hq', hF⟩
  exact ⟨he, ⟨(S2In.swap hq').weak (by omega), hu1, hu, by omega⟩, hF⟩
theorem ap_enter1 (x : RI) (h : ApF W w s1 s2 d k base cur R F) :
    Calls Try.prog 30 #[.pointer (some ⟨s1, 0, none⟩), .int .i64 x.1, .int .i64 x.2.1, .int .i64 x.2.2] w fun e w' => e = .returned (.int .i64 (enterM base R x).1) ∧ Half W w' s1 s2 d k (enterM base R x).2.1 cur (enterM base R x).2.2 base cur R F ∧ ∀ j, F j → w'.heap[j]? = w.heap[j]? := by
  have h' := h
  obtain ⟨hq, hu1, hu2, hk⟩ := h
  have e1 := hu1.lo
  have e2 := hu1.hi
  exact ap_1 h' (enter_up x hu1) (fun G hG => (senter_in x hG (by omega) (by omega) (by omega)).mono (InPost.weak (by omega)))
theorem ap_enter2 (x : RI) (h : Half W w s1 s2 d k (enterM base R x).2.1 cur (enterM base R x).2.2 base cur R F) (hk : k < 200) :
    Calls Try.prog 30 #[.pointer (some ⟨s2, 0, none⟩), .int .i64 x.1, .int .i64 x.2.1, .int .i64 x.2.2] w fun e w' => e = .returned (.int .i64 (enterM base R x).1) ∧ ApF W w' s1 s2 d (k + 1) (enterM base R x).2.1 cur (enterM base R x).2.2 F ∧ ∀ j, F j → w'.heap[j]? = w.heap[j]? := by
  have h' := h
  obtain ⟨hq, hu1, hu2, hu3, hwf, hk'⟩ := h
  have e1 := hu3.lo
  have e2 := hu3.hi
  have hu := enter_up x hu3
  rw [sh_enter] at hu
  refine ap_2 h' hk hu (fun G hG => ?_)
  have hc := senter_in x hG (by omega) (by omega) (by omega)
  rw [sh_enter] at hc
  exact hc.mono (InPost.weak (by omega))
theorem ap_put1 (x : RI) (h : ApF W w s1 s2 d k base cur R F) :
    Calls Try.prog 31 #[.pointer (some ⟨s1, 0, none⟩), .int .i64 x.1, .int .i64 x.2.1, .int .i64 x.2.2] w fun e w' => e = .returned (.int .i64 (putM base R x).1) ∧ Half W w' s1 s2 d k (putM base R x).2.1 cur (putM base R x).2.2 base cur R F ∧ ∀ j, F j → w'.heap[j]? = w.heap[j]? := by
  have h' := h
  obtain ⟨hq, hu1, hu2, hk⟩ := h
  have e1 := hu1.lo
  have e2 := hu1.hi
  exact ap_1 h' (put_up x hu1) (fun G hG => (sput_in x hG (by omega) (by omega) (by omega)).mono (InPost.weak (by omega)))
theorem ap_put2 (x : RI) (h : Half W w s1 s2 d k (putM base R x).2.1 cur (putM base R x).2.2 base cur R F) (hk : k < 200) :
    Calls Try.prog 31 #[.pointer (some ⟨s2, 0, none⟩), .int .i64 x.1, .int .i64 x.2.1, .int .i64 x.2.2] w fun e w' => e = .returned (.int .i64 (putM base R x).1) ∧ ApF W w' s1 s2 d (k + 1) (putM base R x).2.1 cur (putM base R x).2.2 F ∧ ∀ j, F j → w'.heap[j]? = w.heap[j]? := by
  have h' := h
  obtain ⟨hq, hu1, hu2, hu3, hwf, hk'⟩ := h
  have e1 := hu3.lo
  have e2 := hu3.hi
  have hu := put_up x hu3
  rw [sh_put] at hu
  refine ap_2 h' hk hu (fun G hG => ?_)
  have hc := sput_in x hG (by omega) (by omega) (by omega)
  rw [sh_put] at hc
  exact hc.mono (InPost.weak (by omega))
theorem ap_leave1 (id : Int) (hid : wf64 id) (h : ApF W w s1 s2 d k base cur R F) :
    Calls Try.prog 32 #[.pointer (some ⟨s1, 0, none⟩), .int .i64 id] w fun e w' => e = .returned (.tuple #[.int .i64 (leaveM base cur R id).1, .int .i64 (leaveM base cur R id).2.1]) ∧ Half W w' s1 s2 d k (leaveM base cur R id).2.2.1 (leaveM base cur R id).2.2.2.1 (leaveM base cur R id).2.2.2.2 base cur R F ∧ ∀ j, F j → w'.heap[j]? = w.heap[j]? := by
  have h' := h
  obtain ⟨hq, hu1, hu2, hk⟩ := h
  have e1 := hu1.lo
  have e2 := hu1.hi
  exact ap_1 h' (leave_up (cur := cur) id hu1) (fun G hG => (sleave_in id hG hid (by omega)).mono (InPost.weak (by omega)))
theorem ap_leave2 (id : Int) (hid : wf64 id) (h : Half W w s1 s2 d k (leaveM base cur R id).2.2.1 (leaveM base cur R id).2.2.2.1 (leaveM base cur R id).2.2.2.2 base cur R F) (hk : k < 200) :
    Calls Try.prog 32 #[.pointer (some ⟨s2, 0, none⟩), .int .i64 id] w fun e w' => e = .returned (.tuple #[.int .i64 (leaveM base cur R id).1, .int .i64 (leaveM base cur R id).2.1]) ∧ ApF W w' s1 s2 d (k + 1) (leaveM base cur R id).2.2.1 (leaveM base cur R id).2.2.2.1 (leaveM base cur R id).2.2.2.2 F ∧ ∀ j, F j → w'.heap[j]? = w.heap[j]? := by
  have h' := h
  obtain ⟨hq, hu1, hu2, hu3, hwf, hk'⟩ := h
  have e1 := hu3.lo
  have e2 := hu3.hi
  have hu := leave_up (cur := cur) id hu3
  rw [sh_leave hwf.asc id] at hu
  refine ap_2 h' hk hu (fun G hG => ?_)
  have hc := sleave_in id hG hid (by omega)
  rw [sh_leave hwf.asc id] at hc
  exact hc.mono (InPost.weak (by omega))
theorem ap_weigh1 (id n : Int) (hid : wf64 id) (hn : wf64 n) (h : ApF W w s1 s2 d k base cur R F) :
    Calls Try.prog 33 #[.pointer (some ⟨s1, 0, none⟩), .int .i64 id, .int .i64 n] w fun e w' => e = .returned (.int .i64 (weighM R id n).1) ∧ Half W w' s1 s2 d k base cur (weighM R id n).2 base cur R F ∧ ∀ j, F j → w'.heap[j]? = w.heap[j]? := by
  have h' := h
  obtain ⟨hq, hu1, hu2, hk⟩ := h
  have e1 := hu1.lo
  have e2 := hu1.hi
  exact ap_1 h' (weigh_up id n hu1) (fun G hG => (sweigh_in id n hG hid hn).mono (InPost.weak (by omega)))
theorem ap_weigh2 (id n : Int) (hid : wf64 id) (hn : wf64 n) (h : Half W w s1 s2 d k base cur (weighM R id n).2 base cur R F) (hk : k < 200) :
    Calls Try.prog 33 #[.pointer (some ⟨s2, 0, none⟩), .int .i64 id, .int .i64 n] w fun e w' => e = .returned (.int .i64 (weighM R id n).1) ∧ ApF W w' s1 s2 d (k + 1) base cur (weighM R id n).2 F ∧ ∀ j, F j → w'.heap[j]? = w.heap[j]? := by
  have h' := h
  obtain ⟨hq, hu1, hu2, hu3, hwf, hk'⟩ := h
  have e1 := hu3.lo
  have e2 := hu3.hi
  have hu := weigh_up id n hu3
  rw [sh_weigh] at hu
  refine ap_2 h' hk hu (fun G hG => ?_)
  have hc := sweigh_in id n hG hid hn
  rw [sh_weigh] at hc
  exact hc.mono (InPost.weak (by omega))
theorem ap_pick1  (h : ApF W w s1 s2 d k base cur R F) :
    Calls Try.prog 34 #[.pointer (some ⟨s1, 0, none⟩)] w fun e w' => e = .returned (.tuple #[.int .i64 (pickV cur R), .bool (pickB R)]) ∧ Half W w' s1 s2 d k base (pickC cur R) R base cur R F ∧ ∀ j, F j → w'.heap[j]? = w.heap[j]? := by
  have h' := h
  obtain ⟨hq, hu1, hu2, hk⟩ := h
  have e1 := hu1.lo
  have e2 := hu1.hi
  exact ap_1 h' (hu1.more) (fun G hG => (spick_in hG).mono (InPost.weak (by omega)))
theorem ap_pick2  (h : Half W w s1 s2 d k base (pickC cur R) R base cur R F) (hk : k < 200) :
    Calls Try.prog 34 #[.pointer (some ⟨s2, 0, none⟩)] w fun e w' => e = .returned (.tuple #[.int .i64 (pickV cur R), .bool (pickB R)]) ∧ ApF W w' s1 s2 d (k + 1) base (pickC cur R) R F ∧ ∀ j, F j → w'.heap[j]? = w.heap[j]? := by
  have h' := h
  obtain ⟨hq, hu1, hu2, hu3, hwf, hk'⟩ := h
  have e1 := hu3.lo
  have e2 := hu3.hi
  have hu := hu3.more
  refine ap_2 h' hk hu (fun G hG => ?_)
  have hc := spick_in hG
  rw [sh_pick d cur hwf, sh_pickV d cur hwf, sh_pickB] at hc
  exact hc.mono (InPost.weak (by omega))
theorem ap_charge1  (h : ApF W w s1 s2 d k base cur R F) :
    Calls Try.prog 35 #[.pointer (some ⟨s1, 0, none⟩)] w fun e w' => e = .returned (.tuple #[.int .i64 (chargeM base cur R).1, .int .i64 (chargeM base cur R).2.1]) ∧ Half W w' s1 s2 d k (chargeM base cur R).2.2.1 cur (chargeM base cur R).2.2.2 base cur R F ∧ ∀ j, F j → w'.heap[j]? = w.heap[j]? := by
  have h' := h
  obtain ⟨hq, hu1, hu2, hk⟩ := h
  have e1 := hu1.lo
  have e2 := hu1.hi
  exact ap_1 h' (charge_up hq.wf hu1) (fun G hG => (scharge_in hG (by omega)).mono (InPost.weak (by omega)))
theorem ap_charge2  (h : Half W w s1 s2 d k (chargeM base cur R).2.2.1 cur (chargeM base cur R).2.2.2 base cur R F) (hk : k < 200) :
    Calls Try.prog 35 #[.pointer (some ⟨s2, 0, none⟩)] w fun e w' => e = .returned (.tuple #[.int .i64 (chargeM base cur R).1, .int .i64 (chargeM base cur R).2.1]) ∧ ApF W w' s1 s2 d (k + 1) (chargeM base cur R).2.2.1 cur (chargeM base cur R).2.2.2 F ∧ ∀ j, F j → w'.heap[j]? = w.heap[j]? := by
  have h' := h
  obtain ⟨hq, hu1, hu2, hu3, hwf, hk'⟩ := h
  have e1 := hu3.lo
  have e2 := hu3.hi
  have hu := charge_up hq.swap.wf hu3
  rw [sh_charge hwf hu2 hu3 (by omega)] at hu
  refine ap_2 h' hk hu (fun G hG => ?_)
  have hc := scharge_in hG (by omega)
  rw [sh_charge hwf hu2 hu3 (by omega)] at hc
  exact hc.mono (InPost.weak (by omega))
end
end Go.Proofs.Ytnfcapeajhegmaa
