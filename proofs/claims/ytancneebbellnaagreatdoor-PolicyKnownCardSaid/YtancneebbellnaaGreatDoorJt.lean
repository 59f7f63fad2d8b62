/- The policies' table: what the card lists, cell by cell. -/
import Derived.Test.YtancneebbellnaaGreatDoorRows
import Derived.Test.YtancneebbellnaaGreatDoorProg
import Derived.MakeChecks
import Derived.Stop.Joined
import Derived.Lib.LaidU8
import Derived.Lib.SmallJoins
namespace Go.Proofs.YtancneebbellnaaGreatDoor.Po
open Go.RowKit

def bS : ByteArray := ⟨#[115, 116, 114, 105, 100, 101]⟩
def bF : ByteArray := ⟨#[102, 97, 105, 114]⟩
def bD : ByteArray := ⟨#[100, 117, 101]⟩
/-- The table's cells. -/
def Kinds (w : World) : Prop := ∃ t fr, w.heap[0]? = some (.cells #[.string bS, .int .i64 (-9223372036854775808), .int .i64 0, .string bF, .int .i64 (-9223372036854775808), .int .i64 698377680, .string bD, .int .i64 (-698377680), .int .i64 698377680] t fr)
theorem Kinds.below {w w' : World} {B : Nat} (h : Kinds w) (hb : Below B w w') (hB : w.heap.size ≤ B) : Kinds w' := by
  obtain ⟨t, fr, h⟩ := h
  have hl := (Array.getElem?_eq_some_iff.1 h).1
  exact ⟨t, fr, (hb.block _ (by omega)).trans h⟩
theorem str_inv {H : Type} {enc : TypeId × Value → H} {w : World} {base : Nat} {sp : Nat → Bool} {held : Bool} {fuel : Nat} {t : TypeId} {cs : List Value} {s : List UInt8} {p : List MemPlace}
    (ht : Tryz.prog.underlying t = some .string) (h : DataW.trod enc Tryz.prog w base sp held fuel t cs = some (.lit (.string s), p)) : cs = [.string ⟨s.toArray⟩] := by
  cases fuel with
  | zero => simp [DataW.trod] at h
  | succ fuel =>
    simp only [DataW.trod, ht] at h
    split at h <;> first | (cases h; done) | skip
    all_goals (try (simp at *; done))
    all_goals (rename_i b; split at h <;> first | (cases h; done) | skip; simp at h; rw [← h.1])
theorem int_inv {H : Type} {enc : TypeId × Value → H} {w : World} {base : Nat} {sp : Nat → Bool} {held : Bool} {fuel : Nat} {t : TypeId} {cs : List Value} {z : Int} {p : List MemPlace}
    (ht : Tryz.prog.underlying t = some (.int .i64)) (h : DataW.trod enc Tryz.prog w base sp held fuel t cs = some (.lit (.int .i64 z), p)) : cs = [.int .i64 z] := by
  obtain ⟨z', hc, hd, _⟩ := DataW.trod_int ht h
  simp at hd
  rw [hd.1, hc]
theorem kind_inv {H : Type} {enc : TypeId × Value → H} {w : World} {base : Nat} {sp : Nat → Bool} {held : Bool} {fuel : Nat} {cs : List Value} {s : List UInt8} {a b : Int} {p : List MemPlace} (h3 : cs.length = 3)
    (h : DataW.trod enc Tryz.prog w base sp held fuel 81 cs = some (.agg [.lit (.string s), .lit (.int .i64 a), .lit (.int .i64 b)], p)) : cs = [.string ⟨s.toArray⟩, .int .i64 a, .int .i64 b] := by
  have c1 : Tryz.prog.cellsOf 9 = 1 := by kernel_rfl
  have c2 : Tryz.prog.cellsOf 2 = 1 := by kernel_rfl
  have c3 : Tryz.prog.cellsOf 81 = 3 := by kernel_rfl
  match cs, h3 with
  | [x, y, z], _ =>
  cases fuel with
  | zero => simp [DataW.trod] at h
  | succ fuel =>
    simp only [DataW.trod, Tryz.underlying81, c3] at h
    simp [c1, c2, List.mapM_cons] at h
    obtain ⟨x1, e1, h⟩ := Option.bind_eq_some_iff.1 h
    obtain ⟨xs, hx, hm⟩ := Option.map_eq_some_iff.1 h
    obtain ⟨x2, e2, hx⟩ := Option.bind_eq_some_iff.1 hx
    obtain ⟨y1, e3, e2⟩ := Option.bind_eq_some_iff.1 e2
    obtain ⟨y2, e4, e2⟩ := Option.bind_eq_some_iff.1 e2
    obtain ⟨z1, e5, e4⟩ := Option.bind_eq_some_iff.1 e4
    simp only [Option.some.injEq] at e2 e4 hx
    subst e4 e2 hx
    obtain ⟨q1, q2⟩ := x1
    obtain ⟨q3, q4⟩ := y1
    obtain ⟨q5, q6⟩ := z1
    simp at hm
    obtain ⟨⟨rfl, rfl, rfl⟩, -⟩ := hm
    have f1 := str_inv Tryz.underlying9 e1
    have f2 := int_inv Tryz.underlying2 e3
    have f3 := int_inv Tryz.underlying2 e5
    simp at f1 f2 f3
    rw [f1, f2, f3]
theorem list9 {α : Type} {l : List α} (h : l.length = 9) : ∃ a b c d e f g i j, l = [a, b, c, d, e, f, g, i, j] := by
  match l, h with
  | [a, b, c, d, e, f, g, i, j], _ => exact ⟨a, b, c, d, e, f, g, i, j, rfl⟩
theorem laid_kinds (W : World) (h : laidMetH Tryz.prog [("stadholder/policy.kinds", Rows.laid_stadholder_policy_kinds)] W) : Kinds W := by
  rw [MakeChecks.laidMetH_plain _ _ _ (by rfl)] at h
  obtain ⟨g, t, cs, fuel, p, hg, hty, hvar, hd⟩ := Lib.laidMet.reads h (.head _)
  have hg0 : Tryz.prog.globalNamed "stadholder/policy.kinds" = some 0 := by kernel_rfl
  have ht0 : (Tryz.prog.globals[0]?).map (·.type) = some 82 := by kernel_rfl
  obtain rfl := Option.some.inj (hg0.symm.trans hg)
  obtain rfl := Option.some.inj (ht0.symm.trans hty)
  have c3 : Tryz.prog.cellsOf 81 = 3 := by kernel_rfl
  have c9 : Tryz.prog.cellsOf 82 = 9 := by kernel_rfl
  cases fuel with
  | zero => simp [DataW.trod] at hd
  | succ fuel =>
    simp only [DataW.trod, Tryz.underlying82, c3, c9] at hd
    split at hd
    · rename_i hl
      obtain ⟨x0, x1, x2, x3, x4, x5, x6, x7, x8, hcs⟩ := list9 hl
      rw [hcs] at hd
      obtain ⟨xs, hx, hm⟩ := Option.map_eq_some_iff.1 hd
      have hr : List.range 3 = [0, 1, 2] := rfl
      rw [hr] at hx
      simp [List.mapM_cons] at hx
      obtain ⟨a1, e1, hx⟩ := Option.bind_eq_some_iff.1 hx
      obtain ⟨a2, e2, hx⟩ := Option.bind_eq_some_iff.1 hx
      obtain ⟨b1, e3, e2⟩ := Option.bind_eq_some_iff.1 e2
      obtain ⟨b2, e4, e2⟩ := Option.bind_eq_some_iff.1 e2
      obtain ⟨d1, e5, e4⟩ := Option.bind_eq_some_iff.1 e4
      simp only [Option.some.injEq] at e2 e4 hx
      subst e4 e2 hx
      obtain ⟨q1, q2⟩ := a1
      obtain ⟨q3, q4⟩ := b1
      obtain ⟨q5, q6⟩ := d1
      simp [Rows.laid_stadholder_policy_kinds] at hm
      obtain ⟨⟨rfl, rfl, rfl⟩, -⟩ := hm
      have f1 := kind_inv rfl e1
      have f2 := kind_inv rfl e3
      have f3 := kind_inv rfl e5
      simp at f1 f2 f3
      obtain ⟨rfl, rfl, rfl⟩ := f1
      obtain ⟨rfl, rfl, rfl⟩ := f2
      obtain ⟨rfl, rfl, rfl⟩ := f3
      unfold World.var? at hvar
      rw [hg0] at hvar
      simp only [Option.bind_some] at hvar
      split at hvar
      · rename_i cs' t' fr' hh
        injection hvar with hvar
        subst hvar
        refine ⟨t', fr', ?_⟩
        rw [hh]
        have e : cs' = #[.string bS, .int .i64 (-9223372036854775808), .int .i64 0, .string bF, .int .i64 (-9223372036854775808), .int .i64 698377680, .string bD, .int .i64 (-698377680), .int .i64 698377680] := by
          apply Array.toList_inj.1
          rw [hcs]
          rfl
        rw [e]
      · cases hvar
    · cases hd
end Go.Proofs.YtancneebbellnaaGreatDoor.Po
