/- A region that draws its order, within a fence (a round): its head only reads, its tail has one order, none of its operations calls. No function of the program is named here. -/
import Derived.StillTailTactics
import Derived.OwnWalkIn
import Derived.OrdersIn
namespace Go.Proofs.YtandmngfajoinaaGreat

/-- An operation that calls nobody. -/
def plainOp : Op → Bool
  | .move _ | .assign _ | .pick _ _ _ | .alloc _ | .box _ _ | .build _ _ | .buildSlice _ _ _ | .load _ _ | .store _ _ _ | .nilCheck _ | .binOp _ _ _ _ _ | .unOp _ _ _ | .convert _ _ _ | .fieldAddr _ _ _ | .field _ _ _ | .indexAddr _ _ _ | .index _ _ _ | .extract _ _ | .slice _ _ _ _ _ => true
  | _ => false
def NextOk : Result Next → Prop
  | .ok (.value _) _ => True
  | .ok .skip _ => True
  | .halt _ _ => True
  | _ => False
section
variable {P : Program}
theorem nextOk_bind {α : Type} (s : Sem α) (f : α → Sem Next) (h : ∀ a w, NextOk ((f a).run P w)) (w : World) : NextOk ((s >>= f).run P w) := by
  rw [Sem.run_bind]
  cases s.run P w with
  | ok a w' => exact h a w'
  | halt x w' => trivial
theorem plain_run {o : Oper} (hp : plainOp o.op = true) (ρ : Operand → Value) (w : World) : NextOk ((execOp ρ o).run P w) := by
  have kv : ∀ s : Sem Value, NextOk ((do pure (.value (← s)) : Sem Next).run P w) := fun s => by
    refine nextOk_bind _ _ (fun _ _ => ?_) _
    trivial
  have ku : ∀ s : Sem Unit, NextOk ((do s; pure .skip : Sem Next).run P w) := fun s => by
    refine nextOk_bind _ _ (fun _ _ => ?_) _
    trivial
  unfold execOp
  cases ho : o.op <;> rw [ho] at hp <;> simp only [plainOp, Bool.false_eq_true] at hp <;> simp only [] <;> first
    | trivial
    | exact kv _
    | exact ku _
    | (refine nextOk_bind _ _ (fun _ _ => ?_) _; trivial)
    | skip
  split <;> first
    | trivial
    | skip
  split <;> first
    | trivial
    | skip
  refine nextOk_bind _ _ (fun _ _ => nextOk_bind _ _ (fun _ _ => ?_) _) _
  split
  · refine nextOk_bind _ _ (fun _ _ => ?_) _
    trivial
  · trivial

variable {F : Fence} {n : Nat} {md : Region.Mode} {ops : Array Oper} {Q : Exit → Act → World → Prop}
/-- The way out in an orderly manner alone. -/
def onlyNormal (Q : Exit → Act → World → Prop) : Exit → Act → World → Prop
  | .normal, a, w => Q .normal a w
  | _, _, _ => False
theorem plain_about {o : Oper} (hp : plainOp o.op = true) (w : World) (ρ : Operand → Value) : o.about P w ρ = none := by
  unfold Oper.about
  cases ho : o.op <;> rw [ho] at hp <;> first | rfl | cases hp
theorem plain_wpIn {o : Oper} (hp : plainOp o.op = true) {a : Act} {w : World} {K : Act → World → Prop} (h : o.wp P a w K (onlyNormal Q)) : o.wpIn F n P a w K Q := by
  refine ⟨fun f hf => (by rw [plain_about hp] at hf; cases hf), ?_⟩
  rw [Oper.semAt_plain F _ _ (by intro c hc; rw [hc] at hp; cases hp)]
  unfold Oper.wp at h
  have hk := plain_run (P := P) hp a.eval w
  generalize (execOp a.eval o).run P w = r at *
  cases r with
  | ok x w' => cases x <;> first | exact h | exact hk.elim
  | halt x w' => cases x <;> exact h.elim
theorem anyIn_of_any (hall : ∀ (i : Nat) (o : Oper), ops[i]? = some o → plainOp o.op = true) : ∀ (fuel : Nat) (listed : Array Bool) (a : Act) (w : World), wpAny P md ops (onlyNormal Q) fuel listed a w → wpAnyIn F n P md ops Q fuel listed a w
  | 0, _, _, _, h => h
  | fuel + 1, listed, a, w, h => by
    refine ⟨h.1, fun i hi => ?_⟩
    have h2 := h.2 i hi
    unfold wpOp at h2
    unfold wpOpIn
    split
    · rename_i ho
      rw [ho] at h2
      exact anyIn_of_any hall fuel _ a w h2
    · rename_i o ho
      rw [ho] at h2
      simp only at h2
      have hp := hall i o ho
      split
      · rename_i hw
        rw [if_pos hw] at h2
        rcases h2 with h2 | ⟨_, _, _, h2⟩
        · exact Oper.wpIn_mono (fun a w h => anyIn_of_any hall fuel _ a w h) (plain_wpIn hp h2)
        · exact h2.elim
      · rename_i hw
        rw [if_neg hw] at h2
        exact ⟨fun f hf => (by rw [plain_about hp] at hf; cases hf), anyIn_of_any hall fuel _ _ w h2⟩

theorem wpIn_region_still_tail {id : Nat} {a : Act} {w : World} {l : List Oper} (m : Nat) (hm : P.follows .mixedOrders = true) (hB : Region.lexTailB .any l.toArray m = true) (hp : l.all (fun o => plainOp o.op) = true)
    (h : wpStill P l.toArray { w with drawn := w.drawn + 1 } (fun a' => wpList P l.toArray (onlyNormal Q) (l.drop m) a' { w with drawn := w.drawn + 1 }) (l.take m) a) : (Code.region id l.toArray true).wpIn F n P Q a w := by
  simp only [Region.lexTailB, Bool.and_eq_true, decide_eq_true_eq] at hB
  obtain ⟨⟨⟨⟨hsel, hn⟩, hs⟩, hc⟩, hlex⟩ := hB
  have hn' : m < l.length := by simpa using hn
  have htl : (l.take m).length = m := by simp; omega
  have hdl : (l.drop m).length = l.toArray.size - m := by simp
  have inv0 : HeadInv .any l.toArray m (Array.replicate l.toArray.size false) :=
    ⟨by simp, fun j oj _ hl => (by rw [getD_replicate_false] at hl; cases hl), fun t _ ht => getD_in (by simpa using ht) (getD_replicate_false _ _)⟩
  have H := wpAnyL_lex (md := .any) (g := l.toArray.size - m) hsel hs hc hn (l.take m) 0 _ a (fun j hj => by
    have hj' : j < m := by rw [htl] at hj; exact hj
    simp [hj']) (by simpa using htl) inv0 (by rw [htl]; exact hlex) h
  refine wpIn_region_any hm (anyIn_of_any (fun i o ho => List.all_eq_true.1 hp o (by have := Array.mem_of_getElem? ho; simpa using this)) _ _ _ _ ?_)
  have := wpAny_of_head (Q' := onlyNormal Q) (g := l.toArray.size - m) (fun listed a' hL => by
    have := wpAny_of_seq (md := .any) (Q' := onlyNormal Q) (l.drop m) m listed a' { w with drawn := w.drawn + 1 } (fun j => by simp [List.getElem?_drop]) (by rw [hdl]; exact hL.1) hL.2
    rwa [hdl] at this) _ _ _ H
  rw [htl, show m + (l.toArray.size - m) = l.toArray.size by omega] at this
  exact this
end
end Go.Proofs.YtandmngfajoinaaGreat
