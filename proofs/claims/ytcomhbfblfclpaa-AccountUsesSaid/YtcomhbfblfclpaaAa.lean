/- Quotas: within, limited, Good, Spent, Next. -/
import Derived.WalkKit
import Derived.Below
import Derived.Lib.Hide
import Derived.Test.YtcomhbfblfclpaaChecked
import Derived.Test.YtcomhbfblfclpaaMem
import Derived.Laws.Rows
import Derived.Laws.ResultCell
namespace Go.Proofs.Ytcomhbfblfclpaa
open Go.RowKit

/-- A value comes back, and what lay lies. -/
def Ret8 (v : Value) (w : World) (e : Ending) (w' : World) : Prop := e = .returned v ∧ Below w.heap.size w w'
/-- A box holds an account. -/
def AcAt (w : World) (b : Nat) (t : TypeId) (q p l f : Int) : Prop := w.heap[b]? = some (.cells #[.int .i64 q, .int .i64 p, .int .i64 l, .int .i64 f] t (0, 0))
theorem AcAt.lt {w : World} {b : Nat} {t : TypeId} {q p l f : Int} (h : AcAt w b t q p l f) : b < w.heap.size := (Array.getElem?_eq_some_iff.1 h).1
theorem AcAt.below {w w' : World} {B b : Nat} {t : TypeId} {q p l f : Int} (h : AcAt w b t q p l f) (hb : Below B w w') (hB : b < B) : AcAt w' b t q p l f := (hb.block b hB).trans h
theorem AcAt.cells {w : World} {b : Nat} {t : TypeId} {q p l f : Int} (h : AcAt w b t q p l f) :
    w.cell? ⟨b, 0, none⟩ = some (.int .i64 q) ∧ w.cell? ⟨b, 1, none⟩ = some (.int .i64 p) ∧ w.cell? ⟨b, 2, none⟩ = some (.int .i64 l) ∧ w.cell? ⟨b, 3, none⟩ = some (.int .i64 f) ∧ w.frozen? ⟨b, 0, none⟩ = false ∧ w.frozen? ⟨b, 1, none⟩ = false ∧ w.frozen? ⟨b, 2, none⟩ = false ∧ w.frozen? ⟨b, 3, none⟩ = false := by
  unfold AcAt at h
  simp [World.cell?, World.frozen?, h]
theorem AcAt.new (w : World) (t : TypeId) (q p l f : Int) : AcAt (w.alloc (.cells #[.int .i64 q, .int .i64 p, .int .i64 l, .int .i64 f] t)) w.heap.size t q p l f := heap_alloc_new w _

/-- What lies behind a fresh box and a call. -/
theorem AcAt.call {w w1 : World} {t : TypeId} {q p l f : Int} (hb : Below (w.alloc (.cells #[.int .i64 q, .int .i64 p, .int .i64 l, .int .i64 f] t)).heap.size (w.alloc (.cells #[.int .i64 q, .int .i64 p, .int .i64 l, .int .i64 f] t)) w1) :
    AcAt w1 w.heap.size t q p l f ∧ Below w.heap.size w w1 := by
  have e : (w.alloc (.cells #[.int .i64 q, .int .i64 p, .int .i64 l, .int .i64 f] t)).heap.size = w.heap.size + 1 := by simp
  rw [e] at hb
  exact ⟨(AcAt.new w t q p l f).below hb (by omega), ((Below.refl _ w).alloc (Nat.le_refl _) _).trans (hb.mono (by omega))⟩

theorem AcAt.keep {w w' : World} {b : Nat} {t : TypeId} {q p l f : Int} (h : AcAt w b t q p l f) (hk : w'.heap[b]? = w.heap[b]?) : AcAt w' b t q p l f := hk.trans h
theorem AcAt.other {w : World} {b : Nat} {t : TypeId} {q p l f : Int} (h : AcAt w b t q p l f) {a : Addr} (hne : b ≠ a.block) (v : Value) : AcAt (w.setCell a v) b t q p l f := h.keep (Below.heap_setCell w a v b hne)
theorem AcAt.drew {w : World} {b : Nat} {t : TypeId} {q p l f : Int} (h : AcAt w b t q p l f) : AcAt w.drew b t q p l f := h
theorem setCell_box {w : World} {b j : Nat} {cs : Array Value} {t : TypeId} {fr : Nat × Nat} (h : w.heap[b]? = some (.cells cs t fr)) (v : Value) : (w.setCell ⟨b, j, none⟩ v).heap[b]? = some (.cells (cs.setIfInBounds j v) t fr) := by
  have hl := (Array.getElem?_eq_some_iff.1 h).1
  have he : w.heap[b] = .cells cs t fr := (Array.getElem?_eq_some_iff.1 h).2
  unfold World.setCell
  simp [hl, Array.getElem_modify, he]
theorem AcAt.set0 {w : World} {b : Nat} {t : TypeId} {q p l f : Int} (h : AcAt w b t q p l f) (x : Int) : AcAt (w.setCell ⟨b, 0, none⟩ (.int .i64 x)) b t x p l f := setCell_box h _
theorem AcAt.set1 {w : World} {b : Nat} {t : TypeId} {q p l f : Int} (h : AcAt w b t q p l f) (x : Int) : AcAt (w.setCell ⟨b, 1, none⟩ (.int .i64 x)) b t q x l f := setCell_box h _
theorem AcAt.set2 {w : World} {b : Nat} {t : TypeId} {q p l f : Int} (h : AcAt w b t q p l f) (x : Int) : AcAt (w.setCell ⟨b, 2, none⟩ (.int .i64 x)) b t q p x f := setCell_box h _
theorem AcAt.set3 {w : World} {b : Nat} {t : TypeId} {q p l f : Int} (h : AcAt w b t q p l f) (x : Int) : AcAt (w.setCell ⟨b, 3, none⟩ (.int .i64 x)) b t q p l x := setCell_box h _
theorem AcAt.setAll {w : World} {b : Nat} {t : TypeId} {q p l f : Int} (h : AcAt w b t q p l f) (q' p' l' f' : Int) :
    AcAt ((((w.setCell ⟨b, 0, none⟩ (.int .i64 q')).setCell ⟨b, 1, none⟩ (.int .i64 p')).setCell ⟨b, 2, none⟩ (.int .i64 l')).setCell ⟨b, 3, none⟩ (.int .i64 f')) b t q' p' l' f' := (((h.set0 q').set1 p').set2 l').set3 f'
theorem Below.setAll {B b : Nat} {a w : World} (h : Below B a w) (hb : B ≤ b) (v0 v1 v2 v3 : Value) : Below B a ((((w.setCell ⟨b, 0, none⟩ v0).setCell ⟨b, 1, none⟩ v1).setCell ⟨b, 2, none⟩ v2).setCell ⟨b, 3, none⟩ v3) :=
  (((h.setCell hb v0).setCell hb v1).setCell hb v2).setCell hb v3
/-- Two fresh boxes and a call. -/
theorem AcAt.call2 {w w1 : World} {t t' : TypeId} {q p l f q' p' l' f' : Int}
    (hb : Below ((w.alloc (.cells #[.int .i64 q, .int .i64 p, .int .i64 l, .int .i64 f] t)).alloc (.cells #[.int .i64 q', .int .i64 p', .int .i64 l', .int .i64 f'] t')).heap.size ((w.alloc (.cells #[.int .i64 q, .int .i64 p, .int .i64 l, .int .i64 f] t)).alloc (.cells #[.int .i64 q', .int .i64 p', .int .i64 l', .int .i64 f'] t')) w1) :
    AcAt w1 w.heap.size t q p l f ∧ AcAt w1 (w.heap.size + 1) t' q' p' l' f' ∧ Below w.heap.size w w1 ∧ w.heap.size + 2 ≤ w1.heap.size := by
  have e : ((w.alloc (.cells #[.int .i64 q, .int .i64 p, .int .i64 l, .int .i64 f] t)).alloc (.cells #[.int .i64 q', .int .i64 p', .int .i64 l', .int .i64 f'] t')).heap.size = w.heap.size + 2 := by simp
  have hs := hb.size
  rw [e] at hb hs
  refine ⟨AcAt.below (?_ : AcAt _ _ _ _ _ _ _) hb (by omega), AcAt.below (?_ : AcAt _ _ _ _ _ _ _) hb (by omega), (((Below.refl _ w).alloc (Nat.le_refl _) _).alloc (by simp) _).trans (hb.mono (by omega)), hs⟩
  · exact heap_alloc2_old w _ _
  · exact heap_alloc2_new w _ _
theorem res_ac {P : Program} {fn : Func} {r u : Tmp} {t : TypeId} {d : TypeDesc} (h : fn.results = #[.cell r t, .tmp u]) (tmps : Array Value) (b : Nat) (q p l f : Int) (v : Value) (w : World) (h4 : tmps.getD r undef = .pointer (some ⟨b, 0, none⟩)) (h5 : tmps.getD u undef = v)
    (hr : AcAt w b t q p l f) (hu : P.underlying t = some d) (hd : (match d with | .struct _ | .array _ _ => true | _ => false) = true) (hi : (P.info? t).map (·.size) = some 4) :
    (results fn tmps).run P w = .ok (.tuple #[.agg #[.int .i64 q, .int .i64 p, .int .i64 l, .int .i64 f], v]) w := by
  rw [results_cell_tmp h, h4, h5]
  have hl := run_loadVar_row (P := P) w b t t #[.int .i64 q, .int .i64 p, .int .i64 l, .int .i64 f] (0, 0) d hr hu hd hi
  simp [asAddr, hl]

def inB (a x b : Int) : Bool := decide (a ≤ x) && decide (x ≤ b)
theorem inB_true {a x b : Int} : inB a x b = true ↔ a ≤ x ∧ x ≤ b := by unfold inB; simp

theorem within_c (x a b : Int) (w : World) :
    Calls Try.prog 22 #[.int .i64 x, .int .i64 a, .int .i64 b] w fun e w' => e = .returned (.bool (inB a x b)) ∧ w = w' := by
  by_cases h1 : a ≤ x <;> by_cases h2 : x ≤ b
  all_goals
    go_enter Try.func22, Try.ntmps22
    go_wp2
    go_ret
    refine ⟨?_, rfl⟩
    unfold inB; simp [h1, h2]

/-- One may be, and has a quota. -/
def limB (q p l f : Int) : Bool := inB 1 q 1073741824 && inB 1 p 1073741824 && inB 0 l q && inB 0 f (p - 1)
theorem limB_true {q p l f : Int} : limB q p l f = true ↔ 1 ≤ q ∧ q ≤ 1073741824 ∧ 1 ≤ p ∧ p ≤ 1073741824 ∧ 0 ≤ l ∧ l ≤ q ∧ 0 ≤ f ∧ f ≤ p - 1 := by
  unfold limB; simp [inB_true]; omega

set_option maxRecDepth 100000 in
set_option maxHeartbeats 1000000 in
theorem limited_c (q p l f : Int) (w : World) :
    Calls Try.prog 21 #[.agg #[.int .i64 q, .int .i64 p, .int .i64 l, .int .i64 f]] w (Ret8 (.bool (limB q p l f)) w) := by
  have K1 := Lib.hid (fun w => within_c q 1 1073741824 w)
  have K2 := Lib.hid (fun w => within_c p 1 1073741824 w)
  have K3 := Lib.hid (fun w => within_c l 0 q w)
  have K4 := Lib.hid (fun w => within_c f 0 (p - 1) w)
  have HB := Lib.hid ((Below.refl _ w).alloc (Nat.le_refl _) (.cells #[.int .i64 q, .int .i64 p, .int .i64 l, .int .i64 f] 24))
  have HD : Hid (limB q p l f = (inB 1 q 1073741824 && inB 1 p 1073741824 && inB 0 l q && inB 0 f (p - 1))) := Lib.hid rfl
  have hpb := @inB_true 1 p 1073741824
  generalize inB 1 q 1073741824 = b1 at *
  generalize inB 1 p 1073741824 = b2 at *
  generalize inB 0 l q = b3 at *
  generalize inB 0 f (p - 1) = b4 at *
  generalize limB q p l f = r at *
  cases b1
  · clear hpb
    go_enter Try.func21, Try.ntmps21
    go_wp2_with fail
    refine (K1.out _).mono ?_; rintro e w' ⟨rfl, rfl⟩
    go_wp2_with fail
    go_ret
    exact ⟨by rw [HD.out]; rfl, HB.out⟩
  cases b2
  · clear hpb
    go_enter Try.func21, Try.ntmps21
    go_wp2_with fail
    refine (K1.out _).mono ?_; rintro e w' ⟨rfl, rfl⟩
    go_wp2_with fail
    refine (K2.out _).mono ?_; rintro e w' ⟨rfl, rfl⟩
    go_wp2_with fail
    go_ret
    exact ⟨by rw [HD.out]; rfl, HB.out⟩
  cases b3
  · clear hpb
    go_enter Try.func21, Try.ntmps21
    go_wp2_with fail
    refine (K1.out _).mono ?_; rintro e w' ⟨rfl, rfl⟩
    go_wp2_with fail
    refine (K2.out _).mono ?_; rintro e w' ⟨rfl, rfl⟩
    go_wp2_with fail
    refine (K3.out _).mono ?_; rintro e w' ⟨rfl, rfl⟩
    go_wp2_with fail
    go_ret
    exact ⟨by rw [HD.out]; rfl, HB.out⟩
  · obtain ⟨hp1, hp2⟩ := hpb.1 rfl
    clear hpb
    go_enter Try.func21, Try.ntmps21
    go_wp2_with fail
    refine (K1.out _).mono ?_; rintro e w' ⟨rfl, rfl⟩
    go_wp2_with fail
    refine (K2.out _).mono ?_; rintro e w' ⟨rfl, rfl⟩
    go_wp2_with fail
    refine (K3.out _).mono ?_; rintro e w' ⟨rfl, rfl⟩
    go_wp2_with fail
    refine (K4.out _).mono ?_; rintro e w' ⟨rfl, rfl⟩
    go_wp2_with fail
    go_ret
    exact ⟨by rw [HD.out]; simp, HB.out⟩
end Go.Proofs.Ytcomhbfblfclpaa
