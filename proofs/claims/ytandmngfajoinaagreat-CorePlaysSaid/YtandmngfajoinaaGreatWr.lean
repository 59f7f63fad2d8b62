/- A region that draws its order, within a round: as outside, held or not, calls and all. No function of the program is named here. -/
import Derived.Test.YtandmngfajoinaaGreatIt
import Derived.Test.YtandmngfajoinaaGreatPh
import Derived.OrdersIn
import Derived.Deep.RegionHeld3
namespace Go.Proofs.YtandmngfajoinaaGreat

section
variable {P : Program} {md : Region.Mode} {ops : Array Oper} {Q : Exit → Act → World → Prop}
/-- The way out in an orderly manner alone. -/
def onlyN (Q : Exit → Act → World → Prop) : Exit → Act → World → Prop
  | .normal, a, w => Q .normal a w
  | _, _, _ => False
theorem onlyN_out : ¬ LetsOut (onlyN Q) := fun ⟨_, _, h⟩ => h
theorem wide_wpIn {l n : Nat} {o : Oper} (hd : ∀ c, o.op ≠ .defer c) {a : Act} {w : World} {K : Act → World → Prop} (h : o.wp P a w K (onlyN Q)) : o.wpIn (Fence.wide.inRound l) n P a w K Q := by
  refine ⟨fun _ _ => trivial, ?_⟩
  rw [Oper.semAt_eq _ _ _ hd]
  unfold Oper.wp at h
  generalize (execOp a.eval o).run P w = r at *
  cases r with
  | ok x w' =>
    cases x <;> simp only [Oper.upon, Oper.uponIn] at h ⊢ <;> first
      | exact h
      | exact h.elim
      | (refine ⟨(fun hh => by simp [Fence.wide] at hh), CallsIn.inRound l (callsIn_wide.2 (Calls.mono h (fun e w'' he => ?_)))⟩
         cases e <;> first | exact he | exact (he : False).elim | exact (onlyN_out he).elim)
      | (refine ⟨(fun hh => by simp [Fence.wide] at hh), fun c cs _ => ?_⟩
         obtain ⟨v, w', r, s⟩ := h c cs
         exact ⟨v, w', r, by rw [fenced_inRound]; exact stepsIn_wide.2 s⟩)
  | halt x w' => cases x <;> exact h.elim
theorem wide_any {l n : Nat} (hall : ∀ (i : Nat) (o : Oper), ops[i]? = some o → ∀ c, o.op ≠ .defer c) : ∀ (fuel : Nat) (listed : Array Bool) (a : Act) (w : World), wpAny P md ops (onlyN Q) fuel listed a w → wpAnyIn (Fence.wide.inRound l) n P md ops Q fuel listed a w
  | 0, _, _, _, h => h
  | fuel + 1, listed, a, w, h => by
    refine ⟨h.1, fun i hi => ?_⟩
    have h2 := h.2 i hi
    unfold wpOp at h2
    unfold wpOpIn
    split
    · rename_i ho
      rw [ho] at h2
      exact wide_any hall fuel _ a w h2
    · rename_i o ho
      rw [ho] at h2
      simp only at h2
      have hp := hall i o ho
      split
      · rename_i hw
        rw [if_pos hw] at h2
        rcases h2 with h2 | ⟨_, h2⟩
        · exact Oper.wpIn_mono (fun a w h => wide_any hall fuel _ a w h) (wide_wpIn hp h2)
        · exact (onlyN_out h2).elim
      · rename_i hw
        rw [if_neg hw] at h2
        exact ⟨fun _ _ => trivial, wide_any hall fuel _ _ w h2⟩
def noDefer (ops : List Oper) : Bool := ops.all fun o => match o.op with | .defer _ => false | _ => true
theorem noDefer_spec {ops : List Oper} (h : noDefer ops = true) (i : Nat) (o : Oper) (ho : ops.toArray[i]? = some o) : ∀ c, o.op ≠ .defer c := fun c hc => by
  have := List.all_eq_true.1 h o (by have := Array.mem_of_getElem? ho; simpa using this)
  rw [hc] at this
  cases this

/-- A region within a round, whatever comes first, S held. -/
theorem wpIn_region_heldR {id l n : Nat} {a : Act} {w : World} {os : List Oper} (S : World → Prop) (hm : P.follows .mixedOrders = true) (hd : noDefer os = true)
    (h : wpAnyH P .any os.toArray (onlyN Q) S os.toArray.size (Array.replicate os.toArray.size false) a w.drew) : (Code.region id os.toArray true).wpIn (Fence.wide.inRound l) n P Q a w :=
  wpIn_region_any hm (wide_any (noDefer_spec hd) _ _ _ _ (wpAny_of_held _ _ _ _ h))
/-- .. its head by itself, S held in it; then its tail in its one order. -/
theorem wpIn_region_phaseR {id r0 m : Nat} {a : Act} {w : World} {l : List Oper} (n : Nat) (hm : P.follows .mixedOrders = true) (hd : noDefer l = true) (hB : phaseB .any l.toArray n = true) (S : World → Prop)
    (h : wpAnyH P .any l.toArray (PhaseQ P .any l.toArray n (l.toArray.size - n) (onlyN Q)) S n (tailDone l.toArray.size n) a w.drew) : (Code.region id l.toArray true).wpIn (Fence.wide.inRound r0) m P Q a w := by
  unfold phaseB at hB
  simp only [Bool.and_eq_true, decide_eq_true_eq] at hB
  obtain ⟨⟨hn, hall⟩, _⟩ := hB
  refine wpIn_region_any hm (wide_any (noDefer_spec hd) _ _ _ _ ?_)
  have e : l.toArray.size = n + (l.toArray.size - n) := by omega
  have hj : ∀ j o, l.toArray[j]? = some o → (if j < n then o.after.all (fun e => decide (e.on < j)) else (List.range n).all fun i => o.after.any fun e => Region.binds .any e && e.on == i) = true := by
    intro j o ho
    have := List.all_eq_true.1 hall j (List.mem_range.2 (Array.getElem?_eq_some_iff.1 ho).1)
    rw [ho] at this
    exact this
  have := phase_any (P := P) (Q := onlyN Q) (S := S) (g := l.toArray.size - n) hn
    (fun j o hjn ho e he => by
      have := hj j o ho
      rw [if_pos hjn, Array.all_eq_true_iff_forall_mem] at this
      exact of_decide_eq_true (this e he))
    (fun j o hjn ho i hi => by
      have := hj j o ho
      rw [if_neg (by omega)] at this
      have := List.all_eq_true.1 this i (List.mem_range.2 hi)
      obtain ⟨e, he, hb⟩ := Array.any_eq_true'.1 this
      simp only [Bool.and_eq_true, beq_iff_eq] at hb
      exact ⟨e, he, hb.1, hb.2⟩)
    n (Array.replicate l.toArray.size false) (tailDone l.toArray.size n) a w.drew ?_ h
  · rw [← e] at this
    exact this
  · refine ⟨by simp, by simp [tailDone], fun i hi d => ?_, fun i hi hi' => getD_in (by simpa using hi') (getD_replicate_false _ _), fun i hi hi' => ?_⟩
    · have hil : i < l.toArray.size := by omega
      simp at hil
      simp [tailDone, hil]
      omega
    · simp at hi'
      simp [tailDone, hi']
      exact hi
theorem onlyN_panic {v : Value} {d : Option Tmp} : ∀ (c : List PanicEntry) (a : Act) (w : World), onlyN Q (.panic c) (a.put d v) w → onlyN Q (.panic c) a w := fun _ _ _ h => h
end
end Go.Proofs.YtandmngfajoinaaGreat
