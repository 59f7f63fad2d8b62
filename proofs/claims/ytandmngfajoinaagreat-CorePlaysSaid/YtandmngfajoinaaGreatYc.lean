/- Forms: the boxes of items and forms; who is owed most: Front's order, slices.MinFunc, Front. -/
import Derived.Test.YtandmngfajoinaaGreatYb
import Derived.RegionTactic
import Derived.Deep.RegionHeld3
namespace Go.Proofs.YtandmngfajoinaaGreat
open Go.RowKit

/-- A box holds a row of cells. -/
def BoxAt (w : World) (b : Nat) (t : TypeId) (cs : Array Value) : Prop := w.heap[b]? = some (.cells cs t (0, 0))
theorem BoxAt.lt {w : World} {b : Nat} {t : TypeId} {cs : Array Value} (h : BoxAt w b t cs) : b < w.heap.size := (Array.getElem?_eq_some_iff.1 h).1
theorem BoxAt.below {w w' : World} {B b : Nat} {t : TypeId} {cs : Array Value} (h : BoxAt w b t cs) (hb : Below B w w') (hB : b < B) : BoxAt w' b t cs := (hb.block b hB).trans h
theorem BoxAt.new (w : World) (t : TypeId) (cs : Array Value) : BoxAt (w.alloc (.cells cs t)) w.heap.size t cs := heap_alloc_new w _
theorem BoxAt.next {w w1 : World} {B b : Nat} {t : TypeId} {cs : Array Value} (h : BoxAt w b t cs) (hb : Below B w w1) (hB : w.heap.size ≤ B) : BoxAt w1 b t cs := h.below hb (Nat.lt_of_lt_of_le h.lt hB)
theorem BoxAt.other {w : World} {b : Nat} {t : TypeId} {cs : Array Value} (h : BoxAt w b t cs) {a : Addr} (hne : b ≠ a.block) (v : Value) : BoxAt (w.setCell a v) b t cs := (Below.heap_setCell w a v b hne).trans h
theorem BoxAt.set {w : World} {b j : Nat} {t : TypeId} {cs : Array Value} (h : BoxAt w b t cs) (v : Value) : BoxAt (w.setCell ⟨b, j, none⟩ v) b t (cs.setIfInBounds j v) := by
  have hl := (Array.getElem?_eq_some_iff.1 h).1
  have he : w.heap[b] = .cells cs t (0, 0) := (Array.getElem?_eq_some_iff.1 h).2
  unfold BoxAt World.setCell
  simp [hl, Array.getElem_modify, he]
theorem BoxAt.cell {w : World} {b j : Nat} {t : TypeId} {cs : Array Value} (h : BoxAt w b t cs) : w.cell? ⟨b, j, none⟩ = cs[j]? := by
  simp [World.cell?, show w.heap[b]? = _ from h]
theorem BoxAt.unfrozen {w : World} {b : Nat} {t : TypeId} {cs : Array Value} (h : BoxAt w b t cs) (j : Nat) : w.frozen? ⟨b, j, none⟩ = false := by
  simp [World.frozen?, show w.heap[b]? = _ from h]

/-- A row of cells that lies at the head of a block is a slice of items. -/
theorem TRow.of_box {w : World} {g : Nat} {t : TypeId} {cs : Array Value} {l : List RI} (h : BoxAt w g t cs) (hc : cs = (flatR l).toArray) : TRow w (some ⟨g, 0, none⟩) l := fun i r hi => by
  subst hc
  have ha : ∀ i, (⟨g, 0, none⟩ : Addr).add i = ⟨g, i, none⟩ := fun i => by unfold Addr.add; split <;> simp_all
  refine ⟨_, rfl, ?_, ?_, ?_⟩
  · rw [ha, h.cell]; simpa [encR] using flatR_get hi 0 (by omega)
  · rw [ha, h.cell]; simpa [encR] using flatR_get hi 1 (by omega)
  · rw [ha, h.cell]; simpa [encR] using flatR_get hi 2 (by omega)

/-- .. an item. -/
def ItAt (w : World) (b : Nat) (r : RI) : Prop := BoxAt w b 69 #[.int .i64 r.1, .int .i64 r.2.1, .int .i64 r.2.2]
theorem ItAt.cells {w : World} {b : Nat} {r : RI} (h : ItAt w b r) :
    w.cell? ⟨b, 0, none⟩ = some (.int .i64 r.1) ∧ w.cell? ⟨b, 1, none⟩ = some (.int .i64 r.2.1) ∧ w.cell? ⟨b, 2, none⟩ = some (.int .i64 r.2.2) ∧ w.frozen? ⟨b, 0, none⟩ = false ∧ w.frozen? ⟨b, 1, none⟩ = false ∧ w.frozen? ⟨b, 2, none⟩ = false :=
  ⟨BoxAt.cell h, BoxAt.cell h, BoxAt.cell h, BoxAt.unfrozen h _, BoxAt.unfrozen h _, BoxAt.unfrozen h _⟩
theorem ItAt.set {w : World} {b : Nat} {r : RI} (h : ItAt w b r) (x0 x1 x2 : Int) : ItAt (((w.setCell ⟨b, 0, none⟩ (.int .i64 x0)).setCell ⟨b, 1, none⟩ (.int .i64 x1)).setCell ⟨b, 2, none⟩ (.int .i64 x2)) b (x0, x1, x2) :=
  ((BoxAt.set (j := 0) h (.int .i64 x0)).set (j := 1) (.int .i64 x1)).set (j := 2) (.int .i64 x2)
theorem BoxAt.other3 {w : World} {b b' : Nat} {t : TypeId} {cs : Array Value} (h : BoxAt w b t cs) (hne : b ≠ b') (v0 v1 v2 : Value) : BoxAt (((w.setCell ⟨b', 0, none⟩ v0).setCell ⟨b', 1, none⟩ v1).setCell ⟨b', 2, none⟩ v2) b t cs :=
  ((h.other (a := ⟨b', 0, none⟩) hne v0).other (a := ⟨b', 1, none⟩) hne v1).other (a := ⟨b', 2, none⟩) hne v2
theorem Below.set3 {B b : Nat} {a w : World} (h : Below B a w) (hb : B ≤ b) (v0 v1 v2 : Value) : Below B a (((w.setCell ⟨b, 0, none⟩ v0).setCell ⟨b, 1, none⟩ v1).setCell ⟨b, 2, none⟩ v2) :=
  ((h.setCell hb v0).setCell hb v1).setCell hb v2
theorem Below.set2 {B b : Nat} {a w : World} (h : Below B a w) (hb : B ≤ b) (v0 v1 : Value) : Below B a ((w.setCell ⟨b, 0, none⟩ v0).setCell ⟨b, 1, none⟩ v1) :=
  (h.setCell hb v0).setCell hb v1
/-- .. a form. -/
def FoAt (w : World) (b : Nat) (c : Int) (A : Option Addr) (n m : Nat) : Prop := BoxAt w b 47 #[.int .i64 c, .slice A n m]
theorem FoAt.cells {w : World} {b : Nat} {c : Int} {A : Option Addr} {n m : Nat} (h : FoAt w b c A n m) :
    w.cell? ⟨b, 0, none⟩ = some (.int .i64 c) ∧ w.cell? ⟨b, 1, none⟩ = some (.slice A n m) ∧ w.frozen? ⟨b, 0, none⟩ = false ∧ w.frozen? ⟨b, 1, none⟩ = false :=
  ⟨BoxAt.cell h, BoxAt.cell h, BoxAt.unfrozen h _, BoxAt.unfrozen h _⟩
theorem FoAt.set {w : World} {b : Nat} {c : Int} {A : Option Addr} {n m : Nat} (h : FoAt w b c A n m) (c' : Int) (A' : Option Addr) (n' m' : Nat) : FoAt ((w.setCell ⟨b, 0, none⟩ (.int .i64 c')).setCell ⟨b, 1, none⟩ (.slice A' n' m')) b c' A' n' m' :=
  (BoxAt.set (j := 0) h (.int .i64 c')).set (j := 1) (.slice A' n' m')

/-- What lies behind a fresh box and a call. -/
theorem BoxAt.call {w w1 : World} {t : TypeId} {cs : Array Value} (hb : Below (w.alloc (.cells cs t)).heap.size (w.alloc (.cells cs t)) w1) : BoxAt w1 w.heap.size t cs ∧ Below w.heap.size w w1 := by
  have e : (w.alloc (.cells cs t)).heap.size = w.heap.size + 1 := by simp
  rw [e] at hb
  exact ⟨(BoxAt.new w t cs).below hb (by omega), ((Below.refl _ w).alloc (Nat.le_refl _) _).trans (hb.mono (by omega))⟩

theorem res_box {P : Program} {fn : Func} {r : Tmp} {u : Tmp} {t : TypeId} {d : TypeDesc} (h : fn.results = #[.cell r t, .tmp u]) (tmps : Array Value) (b : Nat) (cs : Array Value) (v : Value) (w : World) (h4 : tmps.getD r undef = .pointer (some ⟨b, 0, none⟩)) (h5 : tmps.getD u undef = v)
    (hr : BoxAt w b t cs) (hu : P.underlying t = some d) (hd : (match d with | .struct _ | .array _ _ => true | _ => false) = true) (hi : (P.info? t).map (·.size) = some cs.size) :
    (results fn tmps).run P w = .ok (.tuple #[.agg cs, v]) w := by
  rw [results_cell_tmp h, h4, h5]
  have hl := run_loadVar_row (P := P) w b t t cs (0, 0) d hr hu hd hi
  simp [asAddr, hl]
theorem res_box1 {P : Program} {fn : Func} {r : Tmp} {t : TypeId} {d : TypeDesc} (h : fn.results = #[.cell r t]) (tmps : Array Value) (b : Nat) (cs : Array Value) (w : World) (h4 : tmps.getD r undef = .pointer (some ⟨b, 0, none⟩))
    (hr : BoxAt w b t cs) (hu : P.underlying t = some d) (hd : (match d with | .struct _ | .array _ _ => true | _ => false) = true) (hi : (P.info? t).map (·.size) = some cs.size) :
    (results fn tmps).run P w = .ok (.agg cs) w :=
  results_cell_row h tmps w b t cs (0, 0) d h4 hr hu hd hi

/-- How two items stand: the one owed more first, then the one of the lesser ID. -/
def cmpF (a b : RI) : Int := orQ (cmq b.2.2 a.2.2) (cmq a.1 b.1)
def befF (a b : RI) : Bool := decide (cmpF a b < 0)
theorem befF_iff {a b : RI} : befF a b = true ↔ b.2.2 < a.2.2 ∨ (a.2.2 = b.2.2 ∧ a.1 < b.1) := by
  unfold befF cmpF orQ cmq
  repeat' split
  all_goals simp
  all_goals omega

set_option maxRecDepth 100000 in
set_option maxHeartbeats 2000000 in
theorem front1_c (x0 x1 x2 y0 y1 y2 : Int) (w : World) :
    Calls Tryz.prog 87 #[.agg #[.int .i64 x0, .int .i64 x1, .int .i64 x2], .agg #[.int .i64 y0, .int .i64 y1, .int .i64 y2]] w (Ret10 (.int .i64 (cmpF (x0, x1, x2) (y0, y1, y2))) w) := by
  go_enter Tryz.func87, Tryz.ntmps87
  go_wp2_with fail
  obtain ⟨w2, hw2⟩ : ∃ w2, ((w.alloc (.cells #[.int .i64 x0, .int .i64 x1, .int .i64 x2] 69)).alloc (.cells #[.int .i64 y0, .int .i64 y1, .int .i64 y2] 69)) = w2 := ⟨_, rfl⟩
  have hb : Below w.heap.size w w2 := by rw [← hw2]; exact ((Below.refl _ w).alloc (Nat.le_refl _) _).alloc (by simp) _
  have hs2 : w2.heap.size = w.heap.size + 2 := by rw [← hw2]; simp
  have h1 : ItAt w2 w.heap.size (x0, x1, x2) := by rw [← hw2]; exact heap_alloc2_old w _ _
  have h2 : ItAt w2 (w.heap.size + 1) (y0, y1, y2) := by rw [← hw2]; exact heap_alloc2_new w _ _
  obtain ⟨a0, -, a2, -⟩ := h1.cells
  obtain ⟨b0, -, b2, -⟩ := h2.cells
  simp only at a0 a2 b0 b2
  have HS := Lib.hid (show w2.cell? ⟨w.heap.size, 0, none⟩ = some (.int .i64 x0) ∧ w2.cell? ⟨w.heap.size, 2, none⟩ = some (.int .i64 x2) ∧ w2.cell? ⟨w.heap.size + 1, 0, none⟩ = some (.int .i64 y0) ∧ w2.cell? ⟨w.heap.size + 1, 2, none⟩ = some (.int .i64 y2) from ⟨a0, a2, b0, b2⟩)
  have HB := Lib.hid hb
  rw [hw2]
  clear hw2 hb h1 h2 hs2
  go_region_held3 (fun w' => w'.cell? ⟨w.heap.size, 0, none⟩ = some (.int .i64 x0) ∧ w'.cell? ⟨w.heap.size, 2, none⟩ = some (.int .i64 x2) ∧ w'.cell? ⟨w.heap.size + 1, 0, none⟩ = some (.int .i64 y0) ∧ w'.cell? ⟨w.heap.size + 1, 2, none⟩ = some (.int .i64 y2)) (first | exact HS.out | go_keep)
    (first
      | (go_at_call 89; refine (cmp64_c _ _ _).mono ?_; rintro e w' ⟨rfl, rfl⟩)
      | (go_at_call 90; refine (cmpint_c _ _ _).mono ?_; rintro e w' ⟨rfl, rfl⟩)
      | (go_at_call 88; refine (or_new (cmq y2 x2) (cmq x0 y0) w2).mono ?_; rintro e w' ⟨rfl, rfl⟩))
  go_wp2_with fail
  go_ret
  exact ⟨rfl, (HB.out.alloc HB.out.size _).drew⟩
end Go.Proofs.YtandmngfajoinaaGreat
