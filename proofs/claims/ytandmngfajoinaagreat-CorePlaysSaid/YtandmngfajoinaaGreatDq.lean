/- Queues of deadlines: what one holds; its map of days. Queues of deadlines: withDue, isDueBefore. Queues of deadlines: New, Len, Put, Get. Queues of deadlines: New, Get, Least, Set, Drop. Queues of deadlines: New, Set, Drop. Queues of deadlines: Drop. Queues of deadlines: First. -/
import Derived.Test.YtandmngfajoinaaGreatOl
import Derived.Test.YtandmngfajoinaaGreatYe
import Derived.Laws.ResultCell
import Derived.Laws.Rows
import Derived.BigRegion
import Derived.Test.YtandmngfajoinaaGreatSg
namespace Go.Proofs.YtandmngfajoinaaGreat
open Go.RowKit Go.Maps

def set3 (w : World) (r : Nat) (x y z : Value) : World := ((w.setCell ⟨r, 0, none⟩ x).setCell ⟨r, 1, none⟩ y).setCell ⟨r, 2, none⟩ z
theorem setCell_row {w : World} {r i : Nat} {t : TypeId} {cs : Array Value} (v : Value) (h : w.heap[r]? = some (.cells cs t (0, 0))) : (w.setCell ⟨r, i, none⟩ v).heap[r]? = some (.cells (cs.setIfInBounds i v) t (0, 0)) := by
  obtain ⟨hlt, hk⟩ := Array.getElem?_eq_some_iff.1 h
  show (w.heap.modify r _)[r]? = _
  rw [Array.getElem?_eq_getElem (by rw [Array.size_modify]; exact hlt), Array.getElem_modify_self, hk]
  rfl
theorem set3_same {w : World} {r : Nat} {t : TypeId} {a b c : Value} (x y z : Value) (h : w.heap[r]? = some (.cells #[a, b, c] t (0, 0))) : (set3 w r x y z).heap[r]? = some (.cells #[x, y, z] t (0, 0)) := by
  have h1 := setCell_row (i := 0) x h
  have h2 := setCell_row (i := 1) y h1
  have h3 := setCell_row (i := 2) z h2
  exact h3
theorem set3_other {w : World} {r j : Nat} (x y z : Value) (h : j ≠ r) : (set3 w r x y z).heap[j]? = w.heap[j]? := by
  unfold set3
  rw [Below.heap_setCell _ _ _ _ h, Below.heap_setCell _ _ _ _ h, Below.heap_setCell _ _ _ _ h]
theorem set3_size {w : World} {r : Nat} (x y z : Value) : (set3 w r x y z).heap.size = w.heap.size := by simp [set3, World.setCell]

/-- The things' keys with their numbers; their days with their numbers. -/
def qL (T : List RI) : List QI := T.map (fun r => (r.1, r.2.2))
def qM (T : List RI) : List QI := T.map (fun r => (r.2.1, r.2.2))
theorem qL_length (T : List RI) : (qL T).length = T.length := by simp [qL]
theorem qM_length (T : List RI) : (qM T).length = T.length := by simp [qM]
theorem qL_get {T : List RI} {i : Nat} {r : RI} (h : T[i]? = some r) : (qL T)[i]? = some (r.1, r.2.2) := by simp [qL, h]
theorem qM_get {T : List RI} {i : Nat} {r : RI} (h : T[i]? = some r) : (qM T)[i]? = some (r.2.1, r.2.2) := by simp [qM, h]
theorem eraseIdx_map' {α β : Type} (f : α → β) : ∀ (l : List α) (i : Nat), (l.eraseIdx i).map f = (l.map f).eraseIdx i
  | [], _ => rfl
  | _ :: _, 0 => rfl
  | x :: xs, i + 1 => by simp [eraseIdx_map' f xs i]
theorem qL_erase (T : List RI) (i : Nat) : qL (T.eraseIdx i) = (qL T).eraseIdx i := eraseIdx_map' _ T i
theorem qM_erase (T : List RI) (i : Nat) : qM (T.eraseIdx i) = (qM T).eraseIdx i := eraseIdx_map' _ T i

/-- r put into its place. -/
def insT : List RI → RI → List RI
  | [], x => [x]
  | y :: ys, x => if befQ (y.1, y.2.2) (x.1, x.2.2) then y :: insT ys x else x :: y :: ys
theorem qL_ins (T : List RI) (x : RI) : qL (insT T x) = insL (qL T) (x.1, x.2.2) := by
  induction T with
  | nil => rfl
  | cons y ys ih =>
    show qL (if _ then _ else _) = insL ((y.1, y.2.2) :: qL ys) _
    unfold insL
    split
    · rename_i h
      show (y.1, y.2.2) :: qL (insT ys x) = _
      rw [ih]
    · rfl
theorem mem_insT {T : List RI} {x z : RI} : z ∈ insT T x ↔ z = x ∨ z ∈ T := by
  induction T with
  | nil => simp [insT]
  | cons y ys ih =>
    unfold insT
    split
    · simp only [List.mem_cons, ih]
      constructor
      · rintro (h | h | h)
        · exact .inr (.inl h)
        · exact .inl h
        · exact .inr (.inr h)
      · rintro (h | h | h)
        · exact .inr (.inl h)
        · exact .inl h
        · exact .inr (.inr h)
    · simp only [List.mem_cons]
theorem length_insT (T : List RI) (x : RI) : (insT T x).length = T.length + 1 := by rw [← qL_length, qL_ins, length_insL, qL_length]
theorem mem_qM {T : List RI} {z : QI} : z ∈ qM T ↔ ∃ r ∈ T, z = (r.2.1, r.2.2) := by
  simp only [qM, List.mem_map]
  exact ⟨fun ⟨r, h, e⟩ => ⟨r, h, e.symm⟩, fun ⟨r, h, e⟩ => ⟨r, h, e.symm⟩⟩
theorem mem_qL {T : List RI} {z : QI} : z ∈ qL T ↔ ∃ r ∈ T, z = (r.1, r.2.2) := by
  simp only [qL, List.mem_map]
  exact ⟨fun ⟨r, h, e⟩ => ⟨r, h, e.symm⟩, fun ⟨r, h, e⟩ => ⟨r, h, e.symm⟩⟩
theorem dist_M {T : List RI} (h : Dist (qL T)) : Dist (qM T) := by
  unfold Dist qL at h
  unfold Dist qM
  rw [List.pairwise_map] at h ⊢
  exact h
/-- One of a number. -/
theorem dist_uniq {T : List RI} (h : Dist (qL T)) {a b : RI} (ha : a ∈ T) (hb : b ∈ T) (he : a.2.2 = b.2.2) : a = b := by
  induction T with
  | nil => simp at ha
  | cons y ys ih =>
    obtain ⟨h1, h2⟩ := List.pairwise_cons.1 (show List.Pairwise _ ((y.1, y.2.2) :: qL ys) from h)
    rcases List.mem_cons.1 ha with ea | ha' <;> rcases List.mem_cons.1 hb with eb | hb'
    · rw [ea, eb]
    · rw [ea] at he; exact absurd he (h1 (b.1, b.2.2) (mem_qL.2 ⟨b, hb', rfl⟩))
    · rw [eb] at he; exact absurd he.symm (h1 (a.1, a.2.2) (mem_qL.2 ⟨a, ha', rfl⟩))
    · exact ih h2 ha' hb'

theorem Keeps.any {D : DataW Unit} {L L' : List QI} (h : Keeps D L) {x : QI} (hm : ∀ z, z ∈ L' ↔ z = x ∨ (z ∈ L ∧ z.2 ≠ x.2)) (hl : L'.length = if Maps.has D (.int .i64 x.2) then L.length else L.length + 1) : Keeps (D.put (.int .i64 x.2) (.lit (.int .i64 x.1))) L' := by
  refine ⟨h.tidy.put (isKey _) _, ?_, fun id => ?_, fun z hz => ?_⟩
  · rw [size_put h.tidy, hl, h.size]
  · by_cases he : id = x.2
    · subst he
      rw [has_put_same h.tidy.isMap (isKey _)]
      simp only [true_iff]
      exact ⟨x, (hm x).2 (.inl rfl), rfl⟩
    · rw [has_put_other (by intro e; injection e with _ e; exact he e), h.has]
      constructor
      · rintro ⟨z, hz, rfl⟩; exact ⟨z, (hm z).2 (.inr ⟨hz, he⟩), rfl⟩
      · rintro ⟨z, hz, rfl⟩
        rcases (hm z).1 hz with rfl | hz
        · exact absurd rfl he
        · exact ⟨z, hz.1, rfl⟩
  · rcases (hm z).1 hz with rfl | hz
    · rw [atKey_put_same h.tidy.isMap (isKey _)]
    · rw [atKey_put_other (by intro e; injection e with _ e; exact hz.2 e)]
      exact h.get z hz.1
/-- 'm[id] = day', of a number that is there or not. -/
theorem QMap.any {w : World} {mp : Nat} {L L' : List QI} (h : QMap w mp L) (x : QI) (hk : wf64 x.1) (hi : wf64 x.2) (hL : L.length ≤ 1000000) (hm : ∀ z, z ∈ L' ↔ z = x ∨ (z ∈ L ∧ z.2 ≠ x.2))
    (hl : ((∃ z ∈ L, z.2 = x.2) ∧ L'.length = L.length) ∨ ((∀ z ∈ L, z.2 ≠ x.2) ∧ L'.length = L.length + 1)) :
    ∃ w', (Instr.mapUpdate 31 (.map (some mp)) (.int .i64 x.2) (.int .i64 x.1)).run Tryz.prog w = .ok () w' ∧ QMap w' mp L' ∧ w.grownBy w' (some mp) ∧ w'.heap.size = w.heap.size := by
  obtain ⟨D, h1, h2⟩ := h
  obtain ⟨w', hrun, h3, h4⟩ := h1.store keyed_i Tryz.underlying31 (by unfold maxLen; omega) (keyOf_int_mk Tryz.underlying3 hi) (plainElem_int Tryz.underlying2 hk)
  have h5 : Keeps _ L' := h2.any (x := x) hm (by
    rcases hl with ⟨hz, hl⟩ | ⟨hz, hl⟩
    · rw [(h2.has _).2 hz, hl]; simp
    · have hno : Maps.has D (.int .i64 x.2) = false := by
        cases hc : Maps.has D (.int .i64 x.2) with
        | false => rfl
        | true => obtain ⟨z, hz1, he⟩ := (h2.has _).1 hc; exact absurd he (hz z hz1)
      rw [hno, hl]; simp)
  refine ⟨w', hrun, ⟨_, by rw [← h5.size]; exact ownsMap_tight h3, h5⟩, h4.grown, ?_⟩
  obtain ⟨_, _, _, _, _, rfl⟩ := h4
  simp [ChangeMaps.setBlock]
set_option maxRecDepth 100000 in
/-- 'm[id]' of a number that is there. -/
theorem QMap.at {w : World} {mp : Nat} {L : List QI} (h : QMap w mp L) {x : QI} (hx : x ∈ L) (hw : wf64 x.2) :
    (Instr.lookup 31 (.map (some mp)) (.int .i64 x.2) false).run Tryz.prog w = .ok (.int .i64 x.1) w := by
  obtain ⟨D, h1, h2⟩ := h
  obtain ⟨c, hrun, hc, _⟩ := h1.lookup_int keyed_i Tryz.underlying31 Tryz.underlying2 (zero_i64 w) (keyOf_int_mk Tryz.underlying3 hw)
  have e1 := h2.get x hx
  rw [hc] at e1
  injection e1 with e1
  injection e1 with _ e1
  rw [hrun, e1]

/-- A queue of deadlines at block d: its queue at b, its days at m. -/
structure IsD (w : World) (d b m : Nat) (most s : Int) (T : List RI) (v : Value) (mp : Nat) : Prop where
  box : w.heap[d]? = some (.cells #[.pointer (some ⟨b, 0, none⟩), .map (some m)] 131 (0, 0))
  q : IsQ w b most s (qL T) v mp
  map : QMap w m (qM T)
  wf : ∀ r ∈ T, wf64 r.2.1
  n1 : ¬ QOf b v mp d
  n2 : ¬ QOf b v mp m
  n3 : m ≠ d
/-- Its blocks. -/
def DOf (d b m : Nat) (v : Value) (mp : Nat) (k : Nat) : Prop := k = d ∨ k = m ∨ QOf b v mp k
theorem IsD.lt {w : World} {d b m : Nat} {most s : Int} {T : List RI} {v : Value} {mp : Nat} (h : IsD w d b m most s T v mp) : ∀ k, DOf d b m v mp k → k < w.heap.size := by
  rintro k (rfl | rfl | hk)
  · exact (Array.getElem?_eq_some_iff.1 h.box).1
  · exact h.map.lt
  · exact h.q.lt k hk
theorem IsD.keep {w w' : World} {d b m : Nat} {most s : Int} {T : List RI} {v : Value} {mp : Nat} (h : IsD w d b m most s T v mp) (hs : ∀ k, DOf d b m v mp k → w'.heap[k]? = w.heap[k]?) : IsD w' d b m most s T v mp :=
  ⟨(hs d (.inl rfl)).trans h.box, h.q.keep (fun k hk => hs k (.inr (.inr hk))), h.map.keep (hs m (.inr (.inl rfl))), h.wf, h.n1, h.n2, h.n3⟩
theorem IsD.below {w w' : World} {d b m : Nat} {most s : Int} {T : List RI} {v : Value} {mp : Nat} (h : IsD w d b m most s T v mp) (hb : Below w.heap.size w w') : IsD w' d b m most s T v mp := h.keep (fun k hk => hb.block k (h.lt k hk))
theorem IsD.wfs {w : World} {d b m : Nat} {most s : Int} {T : List RI} {v : Value} {mp : Nat} (h : IsD w d b m most s T v mp) {r : RI} (hr : r ∈ T) : wf64 r.1 ∧ wf64 r.2.1 ∧ wf64 r.2.2 := by
  have h1 := h.q.wf _ (mem_qL.2 ⟨r, hr, rfl⟩)
  exact ⟨h1.1, h.wf r hr, h1.2⟩
end Go.Proofs.YtandmngfajoinaaGreat

namespace Go.Proofs.YtandmngfajoinaaGreat
open Go.RowKit

set_option maxRecDepth 100000 in
set_option maxHeartbeats 2000000 in
theorem withDue_w (d b m : Nat) (T : List RI) (r : RI) (w : World) (hbox : w.heap[d]? = some (.cells #[.pointer (some ⟨b, 0, none⟩), .map (some m)] 131 (0, 0))) (hmap : QMap w m (qM T)) (hr : r ∈ T) (hw2 : wf64 r.2.2) :
    Calls Tryz.prog 93 #[.pointer (some ⟨d, 0, none⟩), .agg (encQ (r.1, r.2.2)).toArray] w fun e w' => e = .returned (.agg (encR r).toArray) ∧ Below w.heap.size w w' := by
  have hl : ∀ w', w'.heap[m]? = w.heap[m]? → (Instr.lookup 31 (.map (some m)) (.int .i64 r.2.2) false).run Tryz.prog w' = .ok (.int .i64 r.2.1) w' := fun w' hw => (hmap.keep hw).at (x := (r.2.1, r.2.2)) (mem_qM.2 ⟨r, hr, rfl⟩) hw2
  obtain ⟨x0, x1, x2⟩ := r
  simp only at hl
  have c1 : w.cell? ⟨d, 1, none⟩ = some (.map (some m)) := by simp [World.cell?, hbox]
  have hdl : d < w.heap.size := (Array.getElem?_eq_some_iff.1 hbox).1
  have hml := hmap.lt
  have hl1 := hl ((w.alloc (.cells #[.int .i64 x0, .int .i64 x2] 136)).alloc (.cells #[.int .i64 0, .int .i64 0, .int .i64 0] 138)) (by rw [Below.heap_alloc _ _ _ (by simp; omega), Below.heap_alloc _ _ _ hml])
  have hl2 := hl ((w.alloc (.cells #[.int .i64 x0, .int .i64 x2] 136)).alloc (.cells #[.int .i64 0, .int .i64 0, .int .i64 0] 138)).drew (by show ((w.alloc _).alloc _).heap[m]? = _; rw [Below.heap_alloc _ _ _ (by simp; omega), Below.heap_alloc _ _ _ hml])
  clear hbox hmap hr hl hw2
  simp only [encQ, encR]
  go_enter Tryz.func93, Tryz.ntmps93
  go_wp2_with fail
  go_region
  all_goals go_wp2_with fail
  refine bodyPost_ret (results_cell_row rfl _ _ (w.heap.size + 1) 138 #[.int .i64 x0, .int .i64 x1, .int .i64 x2] (0, 0) _ rfl (heap_alloc2_new w _ _) Tryz.underlying138 rfl (by kernel_rfl)) rfl ?_
  exact ⟨rfl, (((Below.refl _ w).alloc (Nat.le_refl _) _).alloc (by simp) _).drew⟩

theorem withDue_c (d b m : Nat) (most s : Int) (T : List RI) (v : Value) (mp : Nat) (r : RI) (w : World) (h : IsD w d b m most s T v mp) (hr : r ∈ T) :
    Calls Tryz.prog 93 #[.pointer (some ⟨d, 0, none⟩), .agg (encQ (r.1, r.2.2)).toArray] w fun e w' => e = .returned (.agg (encR r).toArray) ∧ Below w.heap.size w w' :=
  withDue_w d b m T r w h.box h.map hr (h.wfs hr).2.2

/-- Is a due ahead of b? -/
def dueB (a b : RI) : Bool := decide (a.2.1 < b.2.1) || (decide (a.2.1 = b.2.1) && decide (a.2.2 < b.2.2))
theorem dueB_cmp (a b : RI) : decide (cmpQ (a.2.1, a.2.2) (b.2.1, b.2.2) < 0) = dueB a b := cmpQ_neg _ _

set_option maxRecDepth 100000 in
set_option maxHeartbeats 2000000 in
theorem isDueBefore_c (x y : RI) (w : World) :
    Calls Tryz.prog 189 #[.agg (encR x).toArray, .agg (encR y).toArray] w fun e w' => e = .returned (.bool (dueB x y)) ∧ Below w.heap.size w w' := by
  rw [← dueB_cmp]
  obtain ⟨x0, x1, x2⟩ := x
  obtain ⟨y0, y1, y2⟩ := y
  simp only [encR]
  go_enter Tryz.func189, Tryz.ntmps189
  go_wp2_with fail
  obtain ⟨w2, hw2⟩ : ∃ w2, ((w.alloc (.cells #[.int .i64 x0, .int .i64 x1, .int .i64 x2] 138)).alloc (.cells #[.int .i64 y0, .int .i64 y1, .int .i64 y2] 138)) = w2 := ⟨_, rfl⟩
  have hb2 : Below w.heap.size w w2 := by rw [← hw2]; exact ((Below.refl _ w).alloc (Nat.le_refl _) _).alloc (by simp) _
  have e1 : w2.heap[w.heap.size]? = some (.cells #[.int .i64 x0, .int .i64 x1, .int .i64 x2] 138 (0, 0)) := by
    rw [← hw2, Below.heap_alloc _ _ _ (by simp)]
    exact World.alloc_heap_new _ _
  have e2 : w2.heap[w.heap.size + 1]? = some (.cells #[.int .i64 y0, .int .i64 y1, .int .i64 y2] 138 (0, 0)) := by rw [← hw2]; exact heap_alloc2_new w _ _
  have s0 : w2.cell? ⟨w.heap.size, 1, none⟩ = some (.int .i64 x1) := by simp [World.cell?, e1]
  have s1 : w2.cell? ⟨w.heap.size, 2, none⟩ = some (.int .i64 x2) := by simp [World.cell?, e1]
  have s2 : w2.cell? ⟨w.heap.size + 1, 1, none⟩ = some (.int .i64 y1) := by simp [World.cell?, e2]
  have s3 : w2.cell? ⟨w.heap.size + 1, 2, none⟩ = some (.int .i64 y2) := by simp [World.cell?, e2]
  have HS := Lib.hid (And.intro s0 (And.intro s1 (And.intro s2 s3)))
  rw [hw2]
  have HB := Lib.hid hb2
  clear hw2 e1 e2 hb2
  go_region_held3 (fun w' => w'.cell? ⟨w.heap.size, 1, none⟩ = some (.int .i64 x1) ∧ w'.cell? ⟨w.heap.size, 2, none⟩ = some (.int .i64 x2) ∧ w'.cell? ⟨w.heap.size + 1, 1, none⟩ = some (.int .i64 y1) ∧ w'.cell? ⟨w.heap.size + 1, 2, none⟩ = some (.int .i64 y2)) (first | exact HS.out | go_keep)
    (first
      | (go_at_call 89; refine (cmp64_c _ _ _).mono ?_; rintro e w' ⟨rfl, rfl⟩)
      | (go_at_call 90; refine (cmpint_c _ _ _).mono ?_; rintro e w' ⟨rfl, rfl⟩)
      | (go_at_call 88; refine (or_new (cmq x1 y1) (cmq x2 y2) w2).mono ?_; rintro e w' ⟨rfl, rfl⟩))
  go_wp2_with fail
  go_ret
  exact ⟨rfl, (HB.out.alloc HB.out.size _).drew⟩
end Go.Proofs.YtandmngfajoinaaGreat

namespace Go.Proofs.YtandmngfajoinaaGreat
open Go.RowKit

theorem res_due {fn : Func} {p u : Tmp} (h : fn.results = #[.cell p 138, .tmp u]) (tmps : Array Value) (r : Nat) (cs : Array Value) (bb : Bool) (w : World) (h4 : tmps.getD p undef = .pointer (some ⟨r, 0, none⟩)) (h5 : tmps.getD u undef = .bool bb)
    (hc : cs.size = 3) (hr : w.heap[r]? = some (.cells cs 138 (0, 0))) : (results fn tmps).run Tryz.prog w = .ok (.tuple #[.agg cs, .bool bb]) w := by
  rw [results_cell_tmp h, h4, h5]
  have hl := run_loadVar_row (P := Tryz.prog) w r 138 138 cs (0, 0) _ hr Tryz.underlying138 rfl (by rw [hc]; kernel_rfl)
  simp [asAddr, hl]

/-- What is left behind a call that changes a queue of deadlines. -/
def DPost (d b m mp : Nat) (most s : Int) (v : Value) (T' : List RI) (K : Nat) (w w' : World) : Prop :=
  ∃ v', ∃ k : Nat, k ≤ K ∧ IsD w' d b m most (s + (k : Int)) T' v' mp ∧ Trip (DOf d b m v mp) w (DOf d b m v' mp) w'
/-- The queue has changed, then the days. -/
theorem IsD.step {w w1 w2 : World} {d b m : Nat} {most s : Int} {T T' : List RI} {v : Value} {mp K : Nat} (h : IsD w d b m most s T v mp) (hp : QPost b mp most s v (qL T') K w w1) (hm : QMap w2 m (qM T'))
    (ho : w2.os = w1.os ∧ w2.tape = w1.tape ∧ w2.output = w1.output) (hsz : w1.heap.size ≤ w2.heap.size) (hg : ∀ k, k < w1.heap.size → k ≠ m → w2.heap[k]? = w1.heap[k]?) (hwf : ∀ r ∈ T', wf64 r.2.1) : DPost d b m mp most s v T' K w w2 := by
  obtain ⟨v', k, hk, hq, ht⟩ := hp
  have hml := h.lt m (.inr (.inl rfl))
  have hdl := h.lt d (.inl rfl)
  have hsub : ∀ j, QOf b v' mp j → j ≠ m ∧ j ≠ d := fun j hj => by
    rcases ht.sub j hj with h1 | h1
    · exact ⟨fun e => h.n2 (e ▸ h1), fun e => h.n1 (e ▸ h1)⟩
    · exact ⟨by omega, by omega⟩
  have hs := ht.size
  refine ⟨v', k, hk, ⟨?_, hq.keep (fun j hj => hg j (ht.bd j hj) (hsub j hj).1), hm, hwf, fun hd => (hsub d hd).2 rfl, fun hm' => (hsub m hm').1 rfl, h.n3⟩, ?_⟩
  · rw [hg d (by omega) h.n3.symm, ht.block d hdl h.n1, h.box]
  · refine ⟨ho.1.trans ht.os, ho.2.1.trans ht.tape, ho.2.2.trans ht.output, by omega, fun j hj hn => ?_, ?_, ?_⟩
    · rw [hg j (by omega) (fun e => hn (.inr (.inl e))), ht.block j hj (fun hq' => hn (.inr (.inr hq')))]
    · rintro j (rfl | rfl | hj)
      · exact .inl (.inl rfl)
      · exact .inl (.inr (.inl rfl))
      · exact (ht.sub j hj).imp (fun h => .inr (.inr h)) id
    · rintro j (rfl | rfl | hj)
      · omega
      · omega
      · have := ht.bd j hj; omega
/-- The queue has changed, the days have not. -/
theorem IsD.stay {w w1 : World} {d b m : Nat} {most s : Int} {T : List RI} {v : Value} {mp K : Nat} (h : IsD w d b m most s T v mp) (hp : QPost b mp most s v (qL T) K w w1) : DPost d b m mp most s v T K w w1 := by
  have hml := h.lt m (.inr (.inl rfl))
  have hm : QMap w1 m (qM T) := h.map.keep (by obtain ⟨_, _, _, _, ht⟩ := hp; exact ht.block m hml h.n2)
  exact h.step hp hm ⟨rfl, rfl, rfl⟩ (Nat.le_refl _) (fun _ _ _ => rfl) h.wf
/-- The map of days behind the queue's change. -/
theorem IsD.days {w w1 : World} {d b m : Nat} {most s : Int} {T : List RI} {L' : List QI} {v : Value} {mp K : Nat} (h : IsD w d b m most s T v mp) (hp : QPost b mp most s v L' K w w1) : QMap w1 m (qM T) ∧ w1.cell? ⟨d, 1, none⟩ = some (.map (some m)) := by
  have hml := h.lt m (.inr (.inl rfl))
  have hdl := h.lt d (.inl rfl)
  obtain ⟨_, _, _, _, ht⟩ := hp
  refine ⟨h.map.keep (ht.block m hml h.n2), ?_⟩
  have := (ht.block d hdl h.n1).trans h.box
  simp [World.cell?, this]

/-- What Put does. -/
def putT (most : Int) (T : List RI) (r : RI) : Int × List RI :=
  if (keyV (qL T) r.2.2).2 = true then (4, T) else if most ≤ (T.length : Int) then (3, T) else (0, insT T r)
theorem putT_V (most : Int) (T : List RI) (r : RI) : putV most (qL T) (r.1, r.2.2) = ((putT most T r).1, qL (putT most T r).2) := by
  unfold putV putT
  rw [qL_length]
  split
  · rfl
  · split
    · rfl
    · simp only [qL_ins]
theorem keyV_none {L : List QI} {id : Int} (h : (keyV L id).2 = false) : ∀ z ∈ L, z.2 ≠ id := by
  intro z hz he
  unfold keyV at h
  cases hf : L.find? (fun x => x.2 == id) with
  | none => exact absurd (List.find?_eq_none.1 hf z hz) (by simp [he])
  | some y => rw [hf] at h; cases h
theorem ins_days {T : List RI} {r : RI} (h : ∀ z ∈ qL T, z.2 ≠ r.2.2) : (∀ z, z ∈ qM (insT T r) ↔ z = (r.2.1, r.2.2) ∨ (z ∈ qM T ∧ z.2 ≠ r.2.2)) ∧ (∀ z ∈ qM T, z.2 ≠ r.2.2) := by
  have h2 : ∀ z ∈ qM T, z.2 ≠ r.2.2 := fun z hz => by
    obtain ⟨x, hx, rfl⟩ := mem_qM.1 hz
    exact h (x.1, x.2.2) (mem_qL.2 ⟨x, hx, rfl⟩)
  refine ⟨fun z => ?_, h2⟩
  constructor
  · intro hz
    obtain ⟨x, hx, rfl⟩ := mem_qM.1 hz
    rcases mem_insT.1 hx with rfl | hx
    · exact .inl rfl
    · have := mem_qM.2 ⟨x, hx, rfl⟩
      exact .inr ⟨this, h2 _ this⟩
  · rintro (rfl | ⟨hz, _⟩)
    · exact mem_qM.2 ⟨r, mem_insT.2 (.inl rfl), rfl⟩
    · obtain ⟨x, hx, rfl⟩ := mem_qM.1 hz
      exact mem_qM.2 ⟨x, mem_insT.2 (.inr hx), rfl⟩

set_option maxRecDepth 100000 in
set_option maxHeartbeats 2000000 in
/-- q.Put(key, due, id). -/
theorem dput_c (d b m : Nat) (most s : Int) (T : List RI) (v : Value) (mp : Nat) (r : RI) (B : Nat) (w : World) (h : IsD w d b m most s T v mp) (h0 : wf64 r.1) (h1 : wf64 r.2.1) (h2 : wf64 r.2.2) (hL : T.length ≤ 1000000) (hB : T.length < 2 ^ B) (hB' : B ≤ 1000) (hs : 0 ≤ s) (hs' : s < 2305843009213693952) :
    Calls Tryz.prog 73 #[.pointer (some ⟨d, 0, none⟩), .int .i64 r.1, .int .i64 r.2.1, .int .i64 r.2.2] w fun e w' => e = .returned (.int .i64 (putT most T r).1) ∧ DPost d b m mp most s v (putT most T r).2 (B + 1) w w' := by
  have c0 : w.cell? ⟨d, 0, none⟩ = some (.pointer (some ⟨b, 0, none⟩)) := by simp [World.cell?, h.box]
  have K := qput_c b mp most s v (qL T) (r.1, r.2.2) B w h.q h0 h2 (by rw [qL_length]; exact hL) (by rw [qL_length]; exact hB) hB' hs hs'
  rw [putT_V] at K
  have HD := Lib.hid h
  by_cases hz : (putT most T r).1 = 0
  · have hp : putT most T r = (0, insT T r) ∧ ∀ z ∈ qL T, z.2 ≠ r.2.2 := by
      unfold putT at hz ⊢
      cases hk : (keyV (qL T) r.2.2).2 with
      | true => rw [hk, if_pos rfl] at hz; cases hz
      | false =>
        rw [hk, if_neg (by simp)] at hz
        rw [if_neg (by simp)]
        split at hz
        · cases hz
        · rename_i h4
          exact ⟨by rw [if_neg h4], keyV_none hk⟩
    obtain ⟨hp, hno⟩ := hp
    rw [hp] at K ⊢
    have K := Lib.hid K
    have HNO := Lib.hid hno
    have H1 := Lib.hid h1
    have H2 := Lib.hid h2
    obtain ⟨k0, k1, k2⟩ := r
    clear h hz hp h0 h1 h2 hno
    go_enter Tryz.func73, Tryz.ntmps73
    go_wp2_with fail
    refine (K.out).mono ?_
    rintro e w1 ⟨rfl, hP⟩
    obtain ⟨hM, c1⟩ := HD.out.days hP
    have hd := ins_days (r := (k0, k1, k2)) HNO.out
    obtain ⟨w2, hrun, hM2, hgr, hsz⟩ := hM.any (L' := qM (insT T (k0, k1, k2))) (k1, k2) H1.out H2.out (by rw [qM_length]; exact hL) hd.1 (.inr ⟨hd.2, by rw [qM_length, qM_length, length_insT]⟩)
    have POST := Lib.hid (HD.out.step hP hM2 ⟨hgr.os, hgr.tape, hgr.output⟩ hgr.size (fun k hk hn => hgr.block k hk (fun e => hn (Option.some.inj e))) (fun r hr => by
      rcases mem_insT.1 hr with rfl | hr
      · exact H1.out
      · exact HD.out.wf r hr))
    clear hM hd hM2 hgr hsz hP K HNO c0
    go_wp2_with fail
    go_ret
    exact ⟨rfl, POST.out⟩
  · have hp : (putT most T r).2 = T ∧ ((putT most T r).1 != 0) = true := by
      refine ⟨?_, by simpa using hz⟩
      unfold putT at hz ⊢
      split
      · rfl
      · rename_i h3
        rw [if_neg h3] at hz
        split
        · rfl
        · rename_i h4
          rw [if_neg h4] at hz
          exact absurd rfl hz
    obtain ⟨hp, hne⟩ := hp
    rw [hp] at K ⊢
    have K := Lib.hid K
    generalize (putT most T r).1 = x at *
    clear h hp h0 h1 h2
    go_enter Tryz.func73, Tryz.ntmps73
    go_wp2_with fail
    refine (K.out).mono ?_
    rintro e w1 ⟨rfl, hP⟩
    have POST := Lib.hid (HD.out.stay hP)
    clear hP K c0
    go_wp2_with fail
    go_ret
    exact ⟨rfl, POST.out⟩
end Go.Proofs.YtandmngfajoinaaGreat

namespace Go.Proofs.YtandmngfajoinaaGreat
open Go.RowKit

theorem IsD.alloc {w : World} {d b m : Nat} {most s : Int} {T : List RI} {v : Value} {mp : Nat} (h : IsD w d b m most s T v mp) (o : Obj) : IsD (w.alloc o) d b m most s T v mp := h.below ((Below.refl _ w).alloc (Nat.le_refl _) o)
theorem below_set3 {B : Nat} {W w : World} (h : Below B W w) {r : Nat} (hr : B ≤ r) (x y z : Value) : Below B W (set3 w r x y z) := ((h.setCell (p := ⟨r, 0, none⟩) hr x).setCell (p := ⟨r, 1, none⟩) hr y).setCell (p := ⟨r, 2, none⟩) hr z
/-- A box of three noughts, behind a call that made memory. -/
theorem zeros_behind {w w2 : World} {t : TypeId} (hb : Below (w.alloc (.cells #[.int .i64 0, .int .i64 0, .int .i64 0] t)).heap.size (w.alloc (.cells #[.int .i64 0, .int .i64 0, .int .i64 0] t)) w2) :
    w2.heap[w.heap.size]? = some (.cells #[.int .i64 0, .int .i64 0, .int .i64 0] t (0, 0)) := (hb.block _ (by simp)).trans (World.alloc_heap_new _ _)

set_option maxRecDepth 100000 in
set_option maxHeartbeats 2000000 in
theorem dget_yes (d b m : Nat) (most s : Int) (T : List RI) (v : Value) (mp : Nat) (r : RI) (w : World) (h : IsD w d b m most s T v mp) (hr : r ∈ T) :
    Calls Tryz.prog 82 #[.pointer (some ⟨d, 0, none⟩), .int .i64 r.2.2] w fun e w' => e = .returned (.tuple #[.agg (encR r).toArray, .bool true]) ∧ Below w.heap.size w w' := by
  have hdl := h.lt d (.inl rfl)
  have c0 : w.cell? ⟨d, 0, none⟩ = some (.pointer (some ⟨b, 0, none⟩)) := by simp [World.cell?, h.box]
  have ha := h.alloc (.cells #[.int .i64 0, .int .i64 0, .int .i64 0] 138)
  have K := qkey_c b mp most s v (qL T) r.2.2 _ ha.q (h.wfs hr).2.2
  rw [keyV_yes (x := (r.1, r.2.2)) h.q.dist (mem_qL.2 ⟨r, hr, rfl⟩)] at K
  have K := Lib.hid K
  have KW := Lib.hid (withDue_c d b m most s T v mp r _ ha hr)
  obtain ⟨x0, x1, x2⟩ := r
  simp only [encQ, encR] at KW ⊢
  clear h ha hr
  go_enter Tryz.func82, Tryz.ntmps82
  go_wp2_with fail
  refine (K.out).mono ?_
  rintro e w1 ⟨rfl, rfl⟩
  go_wp2_with fail
  refine (KW.out).mono ?_
  rintro e w2 ⟨rfl, hb⟩
  have hz := zeros_behind hb
  have r0 : w2.cell? ⟨w.heap.size, 0, none⟩ = some (.int .i64 0) := by simp [World.cell?, hz]
  have r1 : w2.cell? ⟨w.heap.size, 1, none⟩ = some (.int .i64 0) := by simp [World.cell?, hz]
  have r2 : w2.cell? ⟨w.heap.size, 2, none⟩ = some (.int .i64 0) := by simp [World.cell?, hz]
  have f0 : w2.frozen? ⟨w.heap.size, 0, none⟩ = false := by simp [World.frozen?, hz]
  have f1 : w2.frozen? ⟨w.heap.size, 1, none⟩ = false := by simp [World.frozen?, hz]
  have f2 : w2.frozen? ⟨w.heap.size, 2, none⟩ = false := by simp [World.frozen?, hz]
  have HZ := Lib.hid hz
  have HB := Lib.hid hb
  clear hz hb K KW
  go_wp2_with fail
  refine bodyPost_ret (res_due rfl _ w.heap.size #[.int .i64 x0, .int .i64 x1, .int .i64 x2] true _ rfl rfl rfl (set3_same _ _ _ HZ.out)) rfl ?_
  exact ⟨rfl, below_set3 (((Below.refl _ w).alloc (Nat.le_refl _) _).trans (HB.out.mono (by simp))) (Nat.le_refl _) _ _ _⟩

set_option maxRecDepth 100000 in
set_option maxHeartbeats 2000000 in
theorem dget_no (d b m : Nat) (most s : Int) (T : List RI) (v : Value) (mp : Nat) (id : Int) (w : World) (h : IsD w d b m most s T v mp) (hi : wf64 id) (hn : ∀ z ∈ qL T, z.2 ≠ id) :
    Calls Tryz.prog 82 #[.pointer (some ⟨d, 0, none⟩), .int .i64 id] w fun e w' => e = .returned (.tuple #[.agg (encR (0, 0, 0)).toArray, .bool false]) ∧ Below w.heap.size w w' := by
  have hdl := h.lt d (.inl rfl)
  have c0 : w.cell? ⟨d, 0, none⟩ = some (.pointer (some ⟨b, 0, none⟩)) := by simp [World.cell?, h.box]
  have ha := h.alloc (.cells #[.int .i64 0, .int .i64 0, .int .i64 0] 138)
  have K := qkey_c b mp most s v (qL T) id _ ha.q hi
  rw [keyV_no hn] at K
  have K := Lib.hid K
  clear h ha hi hn
  simp only [encR]
  go_enter Tryz.func82, Tryz.ntmps82
  go_wp2_with fail
  refine (K.out).mono ?_
  rintro e w1 ⟨rfl, rfl⟩
  clear K
  go_wp2_with fail
  refine bodyPost_ret (res_due rfl _ w.heap.size #[.int .i64 0, .int .i64 0, .int .i64 0] false _ rfl rfl rfl (World.alloc_heap_new _ _)) rfl ?_
  exact ⟨rfl, (Below.refl _ w).alloc (Nat.le_refl _) _⟩

/-- The least. -/
def minT : List RI → RI × Bool
  | [] => ((0, 0, 0), false)
  | r :: _ => (r, true)
end Go.Proofs.YtandmngfajoinaaGreat

namespace Go.Proofs.YtandmngfajoinaaGreat
open Go.RowKit

/-- A queue of deadlines that a call made. -/
def NewD (W w : World) (most : Int) (e : Ending) : Prop :=
  ∃ d b m v mp, e = .returned (.pointer (some ⟨d, 0, none⟩)) ∧ IsD w d b m most 0 [] v mp ∧ (∀ k, DOf d b m v mp k → W.heap.size ≤ k) ∧ Below W.heap.size W w
set_option maxRecDepth 100000 in
set_option maxHeartbeats 2000000 in
theorem dnew_c (most : Int) (w : World) :
    Calls Tryz.prog 63 #[.int .i64 most] w fun e w' => NewD w w' (clampQ most) e := by
  have hmm := @run_makeMap Tryz.prog
  go_enter Tryz.func63, Tryz.ntmps63
  go_wp2_with fail
  refine (qnew_c most w).mono ?_
  rintro e w1 ⟨rfl, hq, hb⟩
  have hlt := hq.box.lt
  have hb2 : Below w1.heap.size w1 ((w1.alloc (.map #[] 0)).alloc (.cells #[.pointer (some ⟨w.heap.size + 1, 0, none⟩), .map (some w1.heap.size)] 131)) := ((Below.refl _ w1).alloc (Nat.le_refl _) _).alloc (by simp) _
  have POST : NewD w ((w1.alloc (.map #[] 0)).alloc (.cells #[.pointer (some ⟨w.heap.size + 1, 0, none⟩), .map (some w1.heap.size)] 131)) (clampQ most) (.returned (.pointer (some ⟨w1.heap.size + 1, 0, none⟩))) := by
    refine ⟨_, w.heap.size + 1, w1.heap.size, _, w.heap.size, rfl, ⟨heap_alloc2_new _ _ _, isQ_below hq hb2, ?_, by simp, ?_, ?_, by omega⟩, ?_, hb.trans (hb2.mono (by omega))⟩
    · exact ⟨.map [], (World.ownsMap_made w1 Tryz.prog 3 (plainElem Tryz.prog 2)).alloc _, Keeps.empty⟩
    · rintro (h | h | h)
      · omega
      · omega
      · simp [Value.ownBlock] at h
    · rintro (h | h | h)
      · omega
      · omega
      · simp [Value.ownBlock] at h
    · rintro k (rfl | rfl | rfl | rfl | h)
      · omega
      · omega
      · omega
      · omega
      · simp [Value.ownBlock] at h
  have POST := Lib.hid POST
  clear hq hb hb2
  go_wp2_with fail
  go_ret
  exact POST.out

/-- One given another key, another day. -/
def setT (T : List RI) (i : Nat) (r : RI) : List RI := insT (T.eraseIdx i) r
theorem set_days {T : List RI} {i : Nat} {r0 r : RI} (hd : Dist (qL T)) (hi : T[i]? = some r0) (he : r0.2.2 = r.2.2) : (∀ z, z ∈ qM (setT T i r) ↔ z = (r.2.1, r.2.2) ∨ (z ∈ qM T ∧ z.2 ≠ r.2.2)) ∧ (∃ z ∈ qM T, z.2 = r.2.2) ∧ (qM (setT T i r)).length = (qM T).length ∧ ∀ z ∈ qL (T.eraseIdx i), z.2 ≠ r.2.2 := by
  have h1 := fun z => mem_erase (z := z) (dist_M hd) (qM_get hi)
  rw [← qM_erase] at h1
  have hlt : i < T.length := (List.getElem?_eq_some_iff.1 hi).1
  have h2 : ∀ z ∈ qL (T.eraseIdx i), z.2 ≠ r.2.2 := fun z hz => by
    rw [qL_erase] at hz
    have := ((mem_erase hd (qL_get hi)).1 hz).2
    simp only at this
    rw [he] at this
    exact this
  refine ⟨fun z => ?_, ⟨(r0.2.1, r0.2.2), mem_qM.2 ⟨r0, List.mem_of_getElem? hi, rfl⟩, he⟩, ?_, h2⟩
  · rw [setT, (ins_days h2).1 z, h1 z]
    simp only [he]
    constructor
    · rintro (h | ⟨⟨h3, h4⟩, _⟩)
      · exact .inl h
      · exact .inr ⟨h3, h4⟩
    · rintro (h | ⟨h3, h4⟩)
      · exact .inl h
      · exact .inr ⟨⟨h3, h4⟩, h4⟩
  · rw [qM_length, qM_length, setT, length_insT, List.length_eraseIdx, if_pos hlt]; omega

set_option maxRecDepth 100000 in
set_option maxHeartbeats 2000000 in
theorem dset_yes (d b m : Nat) (most s : Int) (T : List RI) (v : Value) (mp : Nat) (r r0 : RI) (i B : Nat) (w : World) (h : IsD w d b m most s T v mp) (hi : T[i]? = some r0) (he : r0.2.2 = r.2.2) (h0 : wf64 r.1) (h1 : wf64 r.2.1) (hL : T.length ≤ 1000000) (hB : T.length < 2 ^ B) (hB' : B ≤ 1000) (hs : 0 ≤ s) (hs' : s < 2305843009213692000) :
    Calls Tryz.prog 188 #[.pointer (some ⟨d, 0, none⟩), .int .i64 r.2.2, .int .i64 r.1, .int .i64 r.2.1] w fun e w' => e = .returned (.bool true) ∧ DPost d b m mp most s v (setT T i r) (2 * (B + 1)) w w' := by
  have c0 : w.cell? ⟨d, 0, none⟩ = some (.pointer (some ⟨b, 0, none⟩)) := by simp [World.cell?, h.box]
  have K := qset_yes b mp most s v (qL T) (r0.1, r0.2.2) r.1 i B w h.q (qL_get hi) h0 (by rw [qL_length]; exact hL) (by rw [qL_length]; exact hB) hB' hs hs'
  simp only [he] at K
  have e1 : insL ((qL T).eraseIdx i) (r.1, r.2.2) = qL (setT T i r) := by rw [setT, qL_ins, qL_erase]
  rw [e1] at K
  have K := Lib.hid K
  have HD := Lib.hid h
  have HS := Lib.hid (set_days h.q.dist hi he)
  have H1 := Lib.hid h1
  have H2 := Lib.hid (show wf64 r.2.2 by rw [← he]; exact (h.wfs (List.mem_of_getElem? hi)).2.2)
  obtain ⟨x0, x1, x2⟩ := r
  simp only at *
  clear h hi he h0 h1 e1
  go_enter Tryz.func188, Tryz.ntmps188
  go_wp2_with fail
  refine (K.out).mono ?_
  rintro e w1 ⟨rfl, hP⟩
  obtain ⟨hM, c1⟩ := HD.out.days hP
  obtain ⟨hs1, hs2, hs3, hs4⟩ := HS.out
  obtain ⟨w2, hrun, hM2, hgr, hsz⟩ := hM.any (L' := qM (setT T i (x0, x1, x2))) (x1, x2) H1.out H2.out (by rw [qM_length]; exact hL) hs1 (.inl ⟨hs2, hs3⟩)
  have POST := Lib.hid (HD.out.step hP hM2 ⟨hgr.os, hgr.tape, hgr.output⟩ hgr.size (fun k hk hn => hgr.block k hk (fun e => hn (Option.some.inj e))) (fun r hr => by
    rcases mem_insT.1 hr with rfl | hr
    · exact H1.out
    · exact HD.out.wf r (List.mem_of_mem_eraseIdx hr)))
  clear hM hs1 hs2 hs3 hs4 hM2 hgr hsz hP K c0
  go_wp2_with fail
  go_ret
  exact ⟨rfl, POST.out⟩

set_option maxHeartbeats 1000000 in
theorem dset_no (d b m : Nat) (most s : Int) (T : List RI) (v : Value) (mp : Nat) (id key due : Int) (w : World) (h : IsD w d b m most s T v mp) (hi : wf64 id) (hn : ∀ z ∈ qL T, z.2 ≠ id) :
    Calls Tryz.prog 188 #[.pointer (some ⟨d, 0, none⟩), .int .i64 id, .int .i64 key, .int .i64 due] w fun e w' => e = .returned (.bool false) ∧ Below w.heap.size w w' := by
  have c0 : w.cell? ⟨d, 0, none⟩ = some (.pointer (some ⟨b, 0, none⟩)) := by simp [World.cell?, h.box]
  have K := Lib.hid (qset_no b mp most s v (qL T) id key w h.q hi hn)
  clear h hi hn
  go_enter Tryz.func188, Tryz.ntmps188
  go_wp2_with fail
  refine (K.out).mono ?_
  rintro e w1 ⟨rfl, hb⟩
  have HB := Lib.hid hb
  clear hb
  go_wp2_with fail
  go_ret
  exact ⟨rfl, HB.out⟩

theorem DPost.of_below {d b m mp K : Nat} {most s : Int} {v : Value} {T T' : List RI} {w w1 w2 : World} (h : IsD w d b m most s T v mp) (hb : Below w.heap.size w w1) (hp : DPost d b m mp most s v T' K w1 w2) : DPost d b m mp most s v T' K w w2 := by
  obtain ⟨v', k, h1, h2, ht⟩ := hp
  exact ⟨v', k, h1, h2, (below_trip hb h.lt).trans ht⟩

set_option maxRecDepth 100000 in
set_option maxHeartbeats 2000000 in
theorem ddrop_no (d b m : Nat) (most s : Int) (T : List RI) (v : Value) (mp : Nat) (id : Int) (w : World) (h : IsD w d b m most s T v mp) (hi : wf64 id) (hn : ∀ z ∈ qL T, z.2 ≠ id) :
    Calls Tryz.prog 72 #[.pointer (some ⟨d, 0, none⟩), .int .i64 id] w fun e w' => e = .returned (.tuple #[.agg (encR (0, 0, 0)).toArray, .bool false]) ∧ Below w.heap.size w w' := by
  have ha := h.alloc (.cells #[.int .i64 0, .int .i64 0, .int .i64 0] 138)
  have K := Lib.hid (dget_no d b m most s T v mp id _ ha hi hn)
  simp only [encR] at K ⊢
  clear h ha hi hn
  go_enter Tryz.func72, Tryz.ntmps72
  go_wp2_with fail
  refine (K.out).mono ?_
  rintro e w1 ⟨rfl, hb⟩
  have hz := zeros_behind hb
  have r0 : w1.cell? ⟨w.heap.size, 0, none⟩ = some (.int .i64 0) := by simp [World.cell?, hz]
  have r1 : w1.cell? ⟨w.heap.size, 1, none⟩ = some (.int .i64 0) := by simp [World.cell?, hz]
  have r2 : w1.cell? ⟨w.heap.size, 2, none⟩ = some (.int .i64 0) := by simp [World.cell?, hz]
  have f0 : w1.frozen? ⟨w.heap.size, 0, none⟩ = false := by simp [World.frozen?, hz]
  have f1 : w1.frozen? ⟨w.heap.size, 1, none⟩ = false := by simp [World.frozen?, hz]
  have f2 : w1.frozen? ⟨w.heap.size, 2, none⟩ = false := by simp [World.frozen?, hz]
  have hlt : w.heap.size < w1.heap.size := (Array.getElem?_eq_some_iff.1 hz).1
  have HZ := Lib.hid hz
  have HB := Lib.hid hb
  clear hz hb K
  go_wp2_with fail
  refine bodyPost_ret (res_due rfl _ w.heap.size #[.int .i64 0, .int .i64 0, .int .i64 0] false _ rfl rfl rfl ((Below.heap_alloc (set3 w1 w.heap.size _ _ _) _ _ (by rw [set3_size]; exact hlt)).trans (set3_same _ _ _ HZ.out))) rfl ?_
  exact ⟨rfl, (below_set3 (((Below.refl _ w).alloc (Nat.le_refl _) _).trans (HB.out.mono (by simp))) (Nat.le_refl _) _ _ _).alloc (by show _ ≤ (set3 w1 _ _ _ _).heap.size; rw [set3_size]; omega) _⟩
end Go.Proofs.YtandmngfajoinaaGreat

namespace Go.Proofs.YtandmngfajoinaaGreat
open Go.RowKit

/-- Three cells of a box that is none of its. -/
theorem DPost.set3 {d b m mp K r : Nat} {most s : Int} {v : Value} {T T' : List RI} {w w2 w4 : World} (h : IsD w d b m most s T v mp) (hb : Below w.heap.size w w2) (h1 : w.heap.size ≤ r) (h2 : r < w2.heap.size) (hp : DPost d b m mp most s v T' K w2 w4) (x y z : Value) : DPost d b m mp most s v T' K w (set3 w4 r x y z) := by
  obtain ⟨v', k, hk, hd, ht⟩ := hp
  have hne : ∀ j, DOf d b m v' mp j → j ≠ r := fun j hj => by
    rcases ht.sub j hj with h3 | h3
    · have := h.lt j h3; omega
    · omega
  have ht' := (below_trip hb h.lt).trans ht
  refine ⟨v', k, hk, hd.keep (fun j hj => set3_other x y z (hne j hj)), ⟨ht'.os, ht'.tape, ht'.output, by rw [set3_size]; exact ht'.size, fun j hj hn => ?_, ht'.sub, fun j hj => by rw [set3_size]; exact ht'.bd j hj⟩⟩
  rw [set3_other x y z (by omega)]
  exact ht'.block j hj hn

set_option maxRecDepth 100000 in
set_option maxHeartbeats 2000000 in
theorem ddrop_yes (d b m : Nat) (most s : Int) (T : List RI) (v : Value) (mp : Nat) (r : RI) (i B : Nat) (w : World) (h : IsD w d b m most s T v mp) (hi : T[i]? = some r) (hL : T.length ≤ 1000000) (hB : T.length < 2 ^ B) (hB' : B ≤ 1000) (hs : 0 ≤ s) (hs' : s < 2305843009213693952) :
    Calls Tryz.prog 72 #[.pointer (some ⟨d, 0, none⟩), .int .i64 r.2.2] w fun e w' => e = .returned (.tuple #[.agg (encR r).toArray, .bool true]) ∧ DPost d b m mp most s v (T.eraseIdx i) (B + 1) w w' := by
  have ha := h.alloc (.cells #[.int .i64 0, .int .i64 0, .int .i64 0] 138)
  have K := Lib.hid (dget_yes d b m most s T v mp r _ ha (List.mem_of_getElem? hi))
  have HA := Lib.hid ha
  have HD := Lib.hid h
  have HI := Lib.hid hi
  have HW := Lib.hid (h.wfs (List.mem_of_getElem? hi)).2.2
  obtain ⟨x0, x1, x2⟩ := r
  simp only [encR] at K HW ⊢
  clear h ha hi
  go_enter Tryz.func72, Tryz.ntmps72
  go_wp2_with fail
  refine (K.out).mono ?_
  rintro e w1 ⟨rfl, hb⟩
  have hz := zeros_behind hb
  have hlt : w.heap.size < w1.heap.size := (Array.getElem?_eq_some_iff.1 hz).1
  have hb1 : Below w.heap.size w w1 := ((Below.refl _ w).alloc (Nat.le_refl _) _).trans (hb.mono (by simp))
  obtain ⟨w2, hw2⟩ : ∃ w2, w1.alloc (.cells #[.int .i64 x0, .int .i64 x1, .int .i64 x2] 138) = w2 := ⟨_, rfl⟩
  have hbox : w2.heap[w1.heap.size]? = some (.cells #[.int .i64 x0, .int .i64 x1, .int .i64 x2] 138 (0, 0)) := by rw [← hw2]; exact World.alloc_heap_new _ _
  have hz2 : w2.heap[w.heap.size]? = some (.cells #[.int .i64 0, .int .i64 0, .int .i64 0] 138 (0, 0)) := by rw [← hw2, Below.heap_alloc _ _ _ hlt]; exact hz
  have hb2 : Below w.heap.size w w2 := by rw [← hw2]; exact hb1.alloc (by omega) _
  have hs2 : w1.heap.size < w2.heap.size := by rw [← hw2]; simp
  have hd2 := HD.out.below hb2
  have c0 : w2.cell? ⟨d, 0, none⟩ = some (.pointer (some ⟨b, 0, none⟩)) := by simp [World.cell?, hd2.box]
  have K2 := qdrop_yes b mp most s v (qL T) (x0, x2) i B w2 hd2.q (qL_get HI.out) (by rw [qL_length]; exact hL) (by rw [qL_length]; exact hB) hB' hs hs'
  rw [← qL_erase] at K2
  have K2 := Lib.hid K2
  have HD2 := Lib.hid hd2
  have HBOX := Lib.hid hbox
  have HZ2 := Lib.hid hz2
  have HB2 := Lib.hid hb2
  clear hz hb hb1 hbox hz2 hb2 hd2 K HA
  go_wp2_with fail
  clear hw2
  refine (K2.out).mono ?_
  rintro e w3 ⟨rfl, hP⟩
  obtain ⟨hM, c1⟩ := HD2.out.days hP
  obtain ⟨w4, hrun, hM4, hgr, hsz⟩ := hM.drop (dist_M HD2.out.q.dist) (qM_get HI.out) HW.out 0
  rw [← qM_erase] at hM4
  have hP0 := hP
  obtain ⟨_, _, _, _, ht⟩ := hP0
  have nq : ∀ k, w.heap.size ≤ k → ¬ QOf b v mp k := fun k hk hq => by have := HD.out.q.lt k hq; omega
  have hmw := HD.out.lt m (.inr (.inl rfl))
  have e3 : ∀ k, w.heap.size ≤ k → k < w2.heap.size → w4.heap[k]? = w2.heap[k]? := fun k h1 h2 => by
    rw [hgr.block k (by have := ht.size; omega) (by intro e; injection e with e; omega), ht.block k h2 (nq k h1)]
  have eb := (e3 _ (by omega) hs2).trans HBOX.out
  have ez := (e3 w.heap.size (by omega) (by omega)).trans HZ2.out
  have b0 : w4.cell? ⟨w1.heap.size, 0, none⟩ = some (.int .i64 x0) := by simp [World.cell?, eb]
  have b1 : w4.cell? ⟨w1.heap.size, 1, none⟩ = some (.int .i64 x1) := by simp [World.cell?, eb]
  have b2 : w4.cell? ⟨w1.heap.size, 2, none⟩ = some (.int .i64 x2) := by simp [World.cell?, eb]
  have r0 : w4.cell? ⟨w.heap.size, 0, none⟩ = some (.int .i64 0) := by simp [World.cell?, ez]
  have r1 : w4.cell? ⟨w.heap.size, 1, none⟩ = some (.int .i64 0) := by simp [World.cell?, ez]
  have r2 : w4.cell? ⟨w.heap.size, 2, none⟩ = some (.int .i64 0) := by simp [World.cell?, ez]
  have f0 : w4.frozen? ⟨w.heap.size, 0, none⟩ = false := by simp [World.frozen?, ez]
  have f1 : w4.frozen? ⟨w.heap.size, 1, none⟩ = false := by simp [World.frozen?, ez]
  have f2 : w4.frozen? ⟨w.heap.size, 2, none⟩ = false := by simp [World.frozen?, ez]
  have POST := Lib.hid (HD2.out.step hP hM4 ⟨hgr.os, hgr.tape, hgr.output⟩ hgr.size (fun k hk hn => hgr.block k hk (fun e => hn (Option.some.inj e))) (fun r hr => HD2.out.wf r (List.mem_of_mem_eraseIdx hr)))
  have EZ := Lib.hid ez
  clear hM hM4 hgr hsz hP ht nq e3 eb ez K2 c0
  go_wp2_with fail
  refine bodyPost_ret (res_due rfl _ w.heap.size #[.int .i64 x0, .int .i64 x1, .int .i64 x2] true _ rfl rfl rfl (set3_same _ _ _ EZ.out)) rfl ?_
  exact ⟨rfl, DPost.set3 HD.out HB2.out (Nat.le_refl _) (by omega) POST.out _ _ _⟩
end Go.Proofs.YtandmngfajoinaaGreat

namespace Go.Proofs.YtandmngfajoinaaGreat
open Go.RowKit Go.Shelf
attribute [local go_sem] Oper.semAt_some wide_fn wide_depth

/-- Who is due first of some: the first found, then the better. -/
def better (o : Option RI) (r : RI) : Option RI := some (match o with | none => r | some f => if dueB r f then r else f)
def bestO (T : List RI) : Option RI := T.foldl better none
def optR : Option RI → RI × Bool
  | none => ((0, 0, 0), false)
  | some r => (r, true)
/-- What First tells. -/
def firstT (most : Int) (T : List RI) : Option RI := bestO (T.takeWhile (fun r => decide (r.1 ≤ most)))
theorem bestO_snoc (T : List RI) (r : RI) : bestO (T ++ [r]) = better (bestO T) r := by simp [bestO]
theorem takeWhile_all {most : Int} {T : List RI} (h : ∀ r ∈ T, r.1 ≤ most) : T.takeWhile (fun r => decide (r.1 ≤ most)) = T := by
  induction T with
  | nil => rfl
  | cons r T ih =>
    rw [List.takeWhile_cons, if_pos (by simpa using h r (by simp)), ih (fun x hx => h x (by simp [hx]))]
theorem takeWhile_part {most : Int} {T : List RI} {k : Nat} {r : RI} (h : ∀ x ∈ T.take k, x.1 ≤ most) (hk : T[k]? = some r) (hr : most < r.1) : T.takeWhile (fun r => decide (r.1 ≤ most)) = T.take k := by
  induction T generalizing k with
  | nil => simp at hk
  | cons y T ih =>
    cases k with
    | zero =>
      simp at hk
      subst hk
      rw [List.takeWhile_cons, if_neg (by simp; omega)]
      rfl
    | succ k =>
      rw [List.takeWhile_cons, if_pos (by simpa using h y (by simp))]
      rw [ih (fun x hx => h x (by rw [List.take_succ_cons]; exact List.mem_cons_of_mem _ hx)) (by simpa using hk)]
      rfl

theorem alloc_at {w : World} (o : Obj) {k : Nat} (hk : k = w.heap.size) : (w.alloc o).heap[k]? = some o := by rw [hk]; exact World.alloc_heap_new w o
theorem numQ_getD {L : List QI} {k : Nat} {x : Nat × QI} (h : (numQ 0 L)[k]? = some x) : L[k]? = some x.2 := by
  have := numQ_snd 0 L
  rw [← this]
  simp [h]
/-- The loop's state: who is first so far lies in block H + 3, whether there is one in H + 4; all else as it lay. -/
structure FirstAt (w3 : World) (H d m : Nat) (o : Option RI) (A : Nat → Prop) (W : World) : Prop where
  ext : ∀ k, A k ↔ (k = H + 3 ∨ k = H + 4 ∨ k = H ∨ k = H + 1 ∨ k = d ∨ k = m)
  kq2 : W.heap[H]? = w3.heap[H]?
  kq3 : W.heap[H + 1]? = w3.heap[H + 1]?
  kd : W.heap[d]? = w3.heap[d]?
  km : W.heap[m]? = w3.heap[m]?
  first : W.heap[H + 3]? = some (.cells (encR (optR o).1).toArray 138 (0, 0))
  found : W.heap[H + 4]? = some (.cells #[.bool (optR o).2] 4 (0, 0))
theorem FirstAt.keep {w3 : World} {H d m : Nat} {o : Option RI} {A : Nat → Prop} {X Y : World} (h : FirstAt w3 H d m o A X) (hs : ∀ k, A k → Y.heap[k]? = X.heap[k]?) : FirstAt w3 H d m o A Y :=
  ⟨h.ext, (hs _ ((h.ext _).2 (by simp))).trans h.kq2, (hs _ ((h.ext _).2 (by simp))).trans h.kq3, (hs _ ((h.ext _).2 (by simp))).trans h.kd, (hs _ ((h.ext _).2 (by simp))).trans h.km, (hs _ ((h.ext _).2 (by simp))).trans h.first, (hs _ ((h.ext _).2 (by simp))).trans h.found⟩
theorem firstAt_loc {α : Type} (f : List α → Option RI) (g : List α → Prop) (w3 : World) (H d m : Nat) : Loc (fun pre A W => g pre ∧ FirstAt w3 H d m (f pre) A W) := by
  rintro s A X Y ⟨hg, h⟩ hs
  exact ⟨hg, h.keep hs⟩
/-- Another is first. -/
theorem FirstAt.put {w3 : World} {H d m : Nat} {o : Option RI} {A : Nat → Prop} {W : World} (h : FirstAt w3 H d m o A W) (hd : d < H) (hm : m < H) (r : RI) :
    FirstAt w3 H d m (some r) A ((set3 W (H + 3) (.int .i64 r.1) (.int .i64 r.2.1) (.int .i64 r.2.2)).setCell ⟨H + 4, 0, none⟩ (.bool true)) := by
  have ho : ∀ k, k ≠ H + 3 → k ≠ H + 4 → ((set3 W (H + 3) (.int .i64 r.1) (.int .i64 r.2.1) (.int .i64 r.2.2)).setCell ⟨H + 4, 0, none⟩ (.bool true)).heap[k]? = W.heap[k]? := fun k h1 h2 => (setBox_other _ h2).trans (set3_other _ _ _ h1)
  refine ⟨h.ext, (ho _ (by omega) (by omega)).trans h.kq2, (ho _ (by omega) (by omega)).trans h.kq3, (ho _ (by omega) (by omega)).trans h.kd, (ho _ (by omega) (by omega)).trans h.km, ?_, ?_⟩
  · rw [setBox_other _ (by omega)]
    exact set3_same _ _ _ h.first
  · have := setCell_row (w := set3 W (H + 3) (.int .i64 r.1) (.int .i64 r.2.1) (.int .i64 r.2.2)) (i := 0) (.bool true) ((set3_other _ _ _ (by omega)).trans h.found)
    exact this
theorem FirstAt.trip {w3 : World} {H d m : Nat} {o : Option RI} {A : Nat → Prop} {W0 W : World} (h : FirstAt w3 H d m o A W) (ht : Trip A W0 A W) (r : RI) :
    Trip A W0 A ((set3 W (H + 3) (.int .i64 r.1) (.int .i64 r.2.1) (.int .i64 r.2.2)).setCell ⟨H + 4, 0, none⟩ (.bool true)) := by
  have h3 := (h.ext (H + 3)).2 (by simp)
  have h4 := (h.ext (H + 4)).2 (by simp)
  exact (((ht.setAt (H + 3) 0 _ (.inl h3)).setAt (H + 3) 1 _ (.inl h3)).setAt (H + 3) 2 _ (.inl h3)).setAt (H + 4) 0 _ (.inl h4)

theorem first_below {w w6 W : World} {d m : Nat} {o : Option RI} {A2 : Nat → Prop} (hb : Below w.heap.size w w6) (ht : Trip (fun k => k = w.heap.size + 3 ∨ k = w.heap.size + 4 ∨ k = w.heap.size ∨ k = w.heap.size + 1 ∨ k = d ∨ k = m) w6 A2 W) (hF : FirstAt w6 w.heap.size d m o A2 W) : Below w.heap.size w W := by
  have hs := hb.size
  have hs2 := ht.size
  refine ⟨ht.os.trans hb.os, ht.tape.trans hb.tape, ht.output.trans hb.output, by omega, fun k hk => ?_⟩
  by_cases h1 : k = d
  · subst h1; exact hF.kd.trans (hb.block k hk)
  · by_cases h2 : k = m
    · subst h2; exact hF.km.trans (hb.block k hk)
    · exact (ht.block k (by omega) (by omega)).trans (hb.block k hk)
theorem below_putObj {B : Nat} {a w : World} (h : Below B a w) {D : Nat} (hD : B ≤ D) (o : Obj) : Below B a (w.putObj D o) :=
  ⟨h.os, h.tape, h.output, by rw [World.putObj_size]; exact h.size, fun k hk => (World.putObj_heap_other (by omega)).trans (h.block k hk)⟩

set_option maxRecDepth 100000 in
set_option maxHeartbeats 4000000 in
theorem dfirst_c (d b m : Nat) (most s : Int) (T : List RI) (v : Value) (mp : Nat) (key : Int) (w : World) (h : IsD w d b m most s T v mp) (hL : T.length ≤ 1000000) :
    Calls Tryz.prog 186 #[.pointer (some ⟨d, 0, none⟩), .int .i64 key] w fun e w' => e = .returned (.tuple #[.agg (encR (optR (firstT key T)).1).toArray, .bool (optR (firstT key T)).2]) ∧ Below w.heap.size w w' := by
  obtain ⟨ob, hob⟩ : ∃ ob, optR (firstT key T) = ob := ⟨_, rfl⟩
  have HOB := Lib.hid hob
  rw [hob]
  obtain ⟨⟨p0, p1, p2⟩, bb⟩ := ob
  simp only [encR]
  clear hob
  have hlt := h.lt
  have HD := Lib.hid h
  have HLT := Lib.hid hlt
  have hdl := h.lt d (.inl rfl)
  have c0 : w.cell? ⟨d, 0, none⟩ = some (.pointer (some ⟨b, 0, none⟩)) := by simp [World.cell?, h.box]
  obtain ⟨w5, hw5⟩ : ∃ w5, (((((w.alloc (.cells #[.pointer (some ⟨d, 0, none⟩)] 113)).alloc (.cells #[.int .i64 key] 2)).alloc (.cells #[.int .i64 0, .int .i64 0, .int .i64 0] 138)).alloc (.cells #[.int .i64 0, .int .i64 0, .int .i64 0] 138)).alloc (.cells #[.bool false] 4)) = w5 := ⟨_, rfl⟩
  have hb5 : Below w.heap.size w w5 := by rw [← hw5]; exact ((((((Below.refl _ w).alloc (Nat.le_refl _) _).alloc (by simp) _).alloc (by simp; omega) _).alloc (by simp; omega) _).alloc (by simp; omega) _)
  have c5 : w5.cell? ⟨d, 0, none⟩ = some (.pointer (some ⟨b, 0, none⟩)) := (hb5.cell (p := ⟨d, 0, none⟩) hdl).trans c0
  have c5' := c5
  rw [← hw5] at c5'
  have HW5 := Lib.hid hw5
  have HB5 := Lib.hid hb5
  clear h hlt hw5 hb5
  refine (callsIn_wide (n := 0)).1 ?_
  refine callsIn_of_wp_marks Tryz.func186 rfl trivial ?_ rfl
  simp only [Tryz.ntmps186, List.size_toArray, List.length_cons, List.length_nil, Nat.reduceAdd, Nat.reduceSub, Array.replicate_succ, Array.replicate_zero, List.push_toArray, List.append_toArray, List.nil_append, List.cons_append]
  gi_wp2_with (gi_at_call 71; refine (callsIn_wide.2 (qall_c b _)).mono ?_; rintro e w' ⟨rfl, rfl⟩)
  have hsz5 : w5.heap.size = w.heap.size + 5 := by rw [← HW5.out]; simp
  have k0 : w5.heap[w.heap.size]? = some (.cells #[.pointer (some ⟨d, 0, none⟩)] 113 (0, 0)) := by rw [← HW5.out, Below.heap_alloc _ _ _ (by simp; try omega), Below.heap_alloc _ _ _ (by simp; try omega), Below.heap_alloc _ _ _ (by simp; try omega), Below.heap_alloc _ _ _ (by simp; try omega)]; exact alloc_at _ (by simp)
  have k1 : w5.heap[w.heap.size + 1]? = some (.cells #[.int .i64 key] 2 (0, 0)) := by rw [← HW5.out, Below.heap_alloc _ _ _ (by simp; try omega), Below.heap_alloc _ _ _ (by simp; try omega), Below.heap_alloc _ _ _ (by simp; try omega)]; exact alloc_at _ (by simp)
  have k2 : w5.heap[w.heap.size + 2]? = some (.cells #[.int .i64 0, .int .i64 0, .int .i64 0] 138 (0, 0)) := by rw [← HW5.out, Below.heap_alloc _ _ _ (by simp; try omega), Below.heap_alloc _ _ _ (by simp; try omega)]; exact alloc_at _ (by simp)
  have k3 : w5.heap[w.heap.size + 3]? = some (.cells #[.int .i64 0, .int .i64 0, .int .i64 0] 138 (0, 0)) := by rw [← HW5.out, Below.heap_alloc _ _ _ (by simp; try omega)]; exact alloc_at _ (by simp)
  have k4 : w5.heap[w.heap.size + 4]? = some (.cells #[.bool false] 4 (0, 0)) := by rw [← HW5.out]; exact alloc_at _ (by simp)
  obtain ⟨w6, hw6⟩ : ∃ w6, w5.alloc (.cells #[.pointer (some ⟨b, 0, none⟩)] 125) = w6 := ⟨_, rfl⟩
  have hb6 : Below w.heap.size w w6 := by rw [← hw6]; exact HB5.out.alloc HB5.out.size _
  have hs6 : w6.heap.size = w.heap.size + 6 := by rw [← hw6, World.size_alloc, hsz5]
  have ho6 : ∀ k, k < w.heap.size + 5 → w6.heap[k]? = w5.heap[k]? := fun k hk => by rw [← hw6]; exact Below.heap_alloc _ _ _ (by omega)
  have hr6 : w6.heap[w.heap.size + 5]? = some (.cells #[.pointer (some ⟨b, 0, none⟩)] 125 (0, 0)) := by rw [← hw6]; exact alloc_at _ hsz5.symm
  have k0' := (ho6 _ (by omega)).trans k0
  have k1' := (ho6 _ (by omega)).trans k1
  have k2' := (ho6 _ (by omega)).trans k2
  have k3' := (ho6 _ (by omega)).trans k3
  have k4' := (ho6 _ (by omega)).trans k4
  have hd6 := HD.out.below hb6
  have hseq := qall1_gives (w.heap.size + 5) b mp most s v (qL T) w6 hr6 hd6.q (by rw [qL_length]; exact hL)
  rw [HW5.out, hw6]
  have HB6 := Lib.hid hb6
  have hml := HLT.out m (.inr (.inl rfl))
  have hbl := HLT.out b (.inr (.inr (.inl rfl)))
  clear hw6 k0 k1 k2 k3 k4 hr6 ho6 hb6 c5' HW5 c5 HB5
  refine wpRb (α := Nat × QI) (gf := 80) (lb := #[.pointer (some ⟨w.heap.size + 5, 0, none⟩)]) ?hg (enters_of Tryz.func80 (by kernel_rfl) rfl) hseq (fun _ => rfl) (fun k => k = w.heap.size + 3 ∨ k = w.heap.size + 4 ∨ k = w.heap.size ∨ k = w.heap.size + 1 ∨ k = d ∨ k = m) ?hA ?hR
    (fun pre A W => (∀ r ∈ T.take pre.length, r.1 ≤ key) ∧ FirstAt w6 w.heap.size d m (bestO (T.take pre.length)) A W) (fun c _ A W => c = .exit 0 ∧ FirstAt w6 w.heap.size d m (firstT key T) A W) (firstAt_loc (fun pre => bestO (T.take pre.length)) (fun pre => ∀ r ∈ T.take pre.length, r.1 ≤ key) _ _ _ _) (fun c => firstAt_loc (fun _ => firstT key T) (fun _ => c = .exit 0) _ _ _ _) ?h0
    (fun x => .cells (encQ x.2).toArray 136)
    (fun x r => { tmps := #[.pointer (some ⟨d, 0, none⟩), .int .i64 key, .pointer (some ⟨w.heap.size, 0, none⟩), .pointer (some ⟨w.heap.size + 1, 0, none⟩), .pointer (some ⟨w.heap.size + 1 + 1, 0, none⟩), .bool false, .pointer (some ⟨w.heap.size + 1 + 1 + 1, 0, none⟩), .pointer (some ⟨w.heap.size + 1 + 1 + 1 + 1, 0, none⟩), undef, .pointer (some ⟨r, 0, none⟩), undef, .agg #[.int .i64 0, .int .i64 0, .int .i64 0], .pointer (some ⟨d, 0, none⟩), .pointer (some ⟨d, 0, none⟩), .pointer (some ⟨d, 0, none⟩), .pointer (some ⟨b, 0, none⟩), .func (.func 80) #[] #[.pointer (some ⟨w.heap.size + 5, 0, none⟩)], .int .i64 x.1, .agg (encQ x.2).toArray, undef, undef, undef, undef, undef, undef, undef, undef, undef, undef, undef, undef, undef, undef, undef, undef, undef], defers := [] }) ?assign ?body ?done ?stop
  case hg => simp [Act.eval]
  case hA => rintro k (rfl | rfl | rfl | rfl | rfl | rfl) <;> omega
  case hR =>
    have hn1 := HD.out.n1
    have hn2 := HD.out.n2
    rintro k (rfl | rfl | hk)
    · exact ⟨by omega, rfl, by omega⟩
    · refine ⟨by omega, rfl, ?_⟩
      rintro (h | h | h | h | h | h)
      · omega
      · omega
      · omega
      · omega
      · exact hn1 (.inl h.symm)
      · exact hn2 (.inl h.symm)
    · have := HLT.out k (.inr (.inr (.inr (.inr hk))))
      refine ⟨by omega, rfl, ?_⟩
      rintro (h | h | h | h | h | h)
      · omega
      · omega
      · omega
      · omega
      · exact hn1 (.inr (.inr (h ▸ hk)))
      · exact hn2 (.inr (.inr (h ▸ hk)))
  case h0 => exact ⟨by simp, fun _ => Iff.rfl, rfl, rfl, rfl, rfl, k3', k4'⟩
  case assign =>
    intro l x W K hK
    obtain ⟨x2, x0, x1⟩ := x
    simp only [encQ] at hK ⊢
    gi_wp2
    exact hK
  case body =>
    rintro l pre x A1 W r ⟨hle, hF⟩ hpre hbd hrA hbox
    obtain ⟨x2, y0, y1⟩ := x
    have hgx : (numQ 0 (qL T))[pre.length]? = some (x2, y0, y1) := by
      obtain ⟨t, ht⟩ := hpre
      rw [← ht]
      simp
    obtain ⟨rr, hrr, hye⟩ : ∃ rr, T[pre.length]? = some rr ∧ (rr.1, rr.2.2) = (y0, y1) := by simpa [qL] using numQ_getD hgx
    obtain ⟨z0, z1, z2⟩ := rr
    injection hye with hy0 hy1
    simp only at hy0 hy1
    subst hy0 hy1
    have hrl : r < W.heap.size := (Array.getElem?_eq_some_iff.1 hbox).1
    have b0 : W.cell? ⟨r, 0, none⟩ = some (.int .i64 z0) := by simp [World.cell?, hbox, encQ]
    have b1 : W.cell? ⟨r, 1, none⟩ = some (.int .i64 z2) := by simp [World.cell?, hbox, encQ]
    have q3 : W.cell? ⟨w.heap.size + 1, 0, none⟩ = some (.int .i64 key) := by simp [World.cell?, hF.kq3.trans k1']
    have q2 : W.cell? ⟨w.heap.size, 0, none⟩ = some (.pointer (some ⟨d, 0, none⟩)) := by simp [World.cell?, hF.kq2.trans k0']
    have HF := Lib.hid hF
    have HLE := Lib.hid hle
    have HRR := Lib.hid hrr
    have HBD := Lib.hid hbd
    have hlen : (pre ++ [(x2, z0, z2)]).length = pre.length + 1 := by simp
    have htk : T.take (pre.length + 1) = T.take pre.length ++ [(z0, z1, z2)] := by rw [List.take_add_one, hrr]; rfl
    have HLEN := Lib.hid hlen
    have HTK := Lib.hid htk
    simp only [encQ]
    clear hgx hpre hrr hle hF hbox hlen htk hbd
    by_cases hkey : key < z0
    · gi_wp2
      exact ⟨A1, Trip.refl HBD.out, rfl, by rw [firstT, takeWhile_part HLE.out HRR.out hkey]; exact HF.out⟩
    · have hmem : (z0, z1, z2) ∈ T := List.mem_of_getElem? HRR.out
      have KW := Lib.hid (withDue_w d b m T (z0, z1, z2) W (HF.out.kd.trans hd6.box) (hd6.map.keep HF.out.km) hmem (hd6.wfs hmem).2.2)
      simp only [encQ, encR] at KW
      have hnext : ∀ x ∈ T.take (pre.length + 1), x.1 ≤ key := by
        rw [HTK.out]
        intro x hx
        rcases List.mem_append.1 hx with hx | hx
        · exact HLE.out x hx
        · simp at hx; subst hx; simp; omega
      have HNEXT := Lib.hid hnext
      clear hmem hnext
      obtain ⟨o, ho⟩ : ∃ o, bestO (T.take pre.length) = o := ⟨_, rfl⟩
      have hF := HF.out
      rw [ho] at hF
      have HF' := Lib.hid hF
      have HBO : Hid (bestO (T.take (pre.length + 1)) = better o (z0, z1, z2)) := Lib.hid (by rw [HTK.out, bestO_snoc, ho])
      clear hF ho HF HLE HTK HRR
      gi_wp2_with fail
      refine (CallsIn.inRound l (callsIn_wide.2 KW.out)).mono ?_
      rintro e w2 ⟨rfl, hb2⟩
      have hFa : FirstAt w6 w.heap.size d m o A1 (w2.alloc (.cells #[.int .i64 z0, .int .i64 z1, .int .i64 z2] 138)) := HF'.out.keep (fun k hk => by
        have h1 := HBD.out k hk
        have h2 := hb2.size
        rw [Below.heap_alloc _ _ _ (by omega), hb2.block k h1])
      have hta : Trip A1 W A1 (w2.alloc (.cells #[.int .i64 z0, .int .i64 z1, .int .i64 z2] 138)) := (below_trip hb2 HBD.out).alloc _
      obtain ⟨wa, hwa⟩ : ∃ wa, w2.alloc (.cells #[.int .i64 z0, .int .i64 z1, .int .i64 z2] 138) = wa := ⟨_, rfl⟩
      have hba : wa.heap[w2.heap.size]? = some (.cells #[.int .i64 z0, .int .i64 z1, .int .i64 z2] 138 (0, 0)) := by rw [← hwa]; exact World.alloc_heap_new _ _
      rw [hwa] at hFa hta
      have hAw2 : ∀ k, A1 k → k < w2.heap.size := fun k hk => by have := HBD.out k hk; have := hb2.size; omega
      have hB4 := hAw2 _ ((hFa.ext (w.heap.size + 4)).2 (by simp))
      have hB3 := hAw2 _ ((hFa.ext (w.heap.size + 3)).2 (by simp))
      have a0 : wa.cell? ⟨w2.heap.size, 0, none⟩ = some (.int .i64 z0) := by simp [World.cell?, hba]
      have a1 : wa.cell? ⟨w2.heap.size, 1, none⟩ = some (.int .i64 z1) := by simp [World.cell?, hba]
      have a2 : wa.cell? ⟨w2.heap.size, 2, none⟩ = some (.int .i64 z2) := by simp [World.cell?, hba]
      have HFA := Lib.hid hFa
      have HTA := Lib.hid hta
      clear KW hb2 HF' hAw2
      cases o with
      | none =>
        have g4 : wa.cell? ⟨w.heap.size + 1 + 1 + 1 + 1, 0, none⟩ = some (.bool false) := by simp [World.cell?, show wa.heap[w.heap.size + 1 + 1 + 1 + 1]? = _ from hFa.found, optR]
        have f4 : wa.frozen? ⟨w.heap.size + 1 + 1 + 1 + 1, 0, none⟩ = false := by simp [World.frozen?, show wa.heap[w.heap.size + 1 + 1 + 1 + 1]? = _ from hFa.found]
        have g30 : wa.cell? ⟨w.heap.size + 1 + 1 + 1, 0, none⟩ = some (.int .i64 0) := by simp [World.cell?, show wa.heap[w.heap.size + 1 + 1 + 1]? = _ from hFa.first, optR, encR]
        have g31 : wa.cell? ⟨w.heap.size + 1 + 1 + 1, 1, none⟩ = some (.int .i64 0) := by simp [World.cell?, show wa.heap[w.heap.size + 1 + 1 + 1]? = _ from hFa.first, optR, encR]
        have g32 : wa.cell? ⟨w.heap.size + 1 + 1 + 1, 2, none⟩ = some (.int .i64 0) := by simp [World.cell?, show wa.heap[w.heap.size + 1 + 1 + 1]? = _ from hFa.first, optR, encR]
        have f30 : wa.frozen? ⟨w.heap.size + 1 + 1 + 1, 0, none⟩ = false := by simp [World.frozen?, show wa.heap[w.heap.size + 1 + 1 + 1]? = _ from hFa.first]
        have f31 : wa.frozen? ⟨w.heap.size + 1 + 1 + 1, 1, none⟩ = false := by simp [World.frozen?, show wa.heap[w.heap.size + 1 + 1 + 1]? = _ from hFa.first]
        have f32 : wa.frozen? ⟨w.heap.size + 1 + 1 + 1, 2, none⟩ = false := by simp [World.frozen?, show wa.heap[w.heap.size + 1 + 1 + 1]? = _ from hFa.first]
        clear hFa hta hba
        gi_wp2_with fail
        refine ⟨A1, HFA.out.trip HTA.out (z0, z1, z2), ?_⟩
        dsimp only
        rw [HLEN.out, HBO.out]
        exact ⟨HNEXT.out, HFA.out.put hdl hml (z0, z1, z2)⟩
      | some f =>
        obtain ⟨p0, p1, p2⟩ := f
        have g4 : wa.cell? ⟨w.heap.size + 1 + 1 + 1 + 1, 0, none⟩ = some (.bool true) := by simp [World.cell?, show wa.heap[w.heap.size + 1 + 1 + 1 + 1]? = _ from hFa.found, optR]
        have f4 : wa.frozen? ⟨w.heap.size + 1 + 1 + 1 + 1, 0, none⟩ = false := by simp [World.frozen?, show wa.heap[w.heap.size + 1 + 1 + 1 + 1]? = _ from hFa.found]
        have g30 : wa.cell? ⟨w.heap.size + 1 + 1 + 1, 0, none⟩ = some (.int .i64 p0) := by simp [World.cell?, show wa.heap[w.heap.size + 1 + 1 + 1]? = _ from hFa.first, optR, encR]
        have g31 : wa.cell? ⟨w.heap.size + 1 + 1 + 1, 1, none⟩ = some (.int .i64 p1) := by simp [World.cell?, show wa.heap[w.heap.size + 1 + 1 + 1]? = _ from hFa.first, optR, encR]
        have g32 : wa.cell? ⟨w.heap.size + 1 + 1 + 1, 2, none⟩ = some (.int .i64 p2) := by simp [World.cell?, show wa.heap[w.heap.size + 1 + 1 + 1]? = _ from hFa.first, optR, encR]
        have KB := Lib.hid (isDueBefore_c (z0, z1, z2) (p0, p1, p2) wa)
        simp only [encR] at KB
        have HBA := Lib.hid hba
        clear hFa hta hba
        gi_wp2_with fail
        clear hwa
        refine (CallsIn.inRound l (callsIn_wide.2 KB.out)).mono ?_
        rintro e wb ⟨rfl, hbb⟩
        have hFb : FirstAt w6 w.heap.size d m (some (p0, p1, p2)) A1 wb := HFA.out.keep (fun k hk => hbb.block k (HTA.out.bd k hk))
        have htb : Trip A1 W A1 wb := HTA.out.trans (below_trip hbb HTA.out.bd)
        have hbb' := (hbb.block _ (Array.getElem?_eq_some_iff.1 HBA.out).1).trans HBA.out
        clear a0 a1 a2 g4 f4 g30 g31 g32 KB
        have a0 : wb.cell? ⟨w2.heap.size, 0, none⟩ = some (.int .i64 z0) := by simp [World.cell?, hbb']
        have a1 : wb.cell? ⟨w2.heap.size, 1, none⟩ = some (.int .i64 z1) := by simp [World.cell?, hbb']
        have a2 : wb.cell? ⟨w2.heap.size, 2, none⟩ = some (.int .i64 z2) := by simp [World.cell?, hbb']
        have g4 : wb.cell? ⟨w.heap.size + 1 + 1 + 1 + 1, 0, none⟩ = some (.bool true) := by simp [World.cell?, show wb.heap[w.heap.size + 1 + 1 + 1 + 1]? = _ from hFb.found, optR]
        have f4 : wb.frozen? ⟨w.heap.size + 1 + 1 + 1 + 1, 0, none⟩ = false := by simp [World.frozen?, show wb.heap[w.heap.size + 1 + 1 + 1 + 1]? = _ from hFb.found]
        have g30 : wb.cell? ⟨w.heap.size + 1 + 1 + 1, 0, none⟩ = some (.int .i64 p0) := by simp [World.cell?, show wb.heap[w.heap.size + 1 + 1 + 1]? = _ from hFb.first, optR, encR]
        have g31 : wb.cell? ⟨w.heap.size + 1 + 1 + 1, 1, none⟩ = some (.int .i64 p1) := by simp [World.cell?, show wb.heap[w.heap.size + 1 + 1 + 1]? = _ from hFb.first, optR, encR]
        have g32 : wb.cell? ⟨w.heap.size + 1 + 1 + 1, 2, none⟩ = some (.int .i64 p2) := by simp [World.cell?, show wb.heap[w.heap.size + 1 + 1 + 1]? = _ from hFb.first, optR, encR]
        have f30 : wb.frozen? ⟨w.heap.size + 1 + 1 + 1, 0, none⟩ = false := by simp [World.frozen?, show wb.heap[w.heap.size + 1 + 1 + 1]? = _ from hFb.first]
        have f31 : wb.frozen? ⟨w.heap.size + 1 + 1 + 1, 1, none⟩ = false := by simp [World.frozen?, show wb.heap[w.heap.size + 1 + 1 + 1]? = _ from hFb.first]
        have f32 : wb.frozen? ⟨w.heap.size + 1 + 1 + 1, 2, none⟩ = false := by simp [World.frozen?, show wb.heap[w.heap.size + 1 + 1 + 1]? = _ from hFb.first]
        have HFB := Lib.hid hFb
        have HTB := Lib.hid htb
        clear hFb htb hbb hbb' HFA HTA HBA
        cases hdb : dueB (z0, z1, z2) (p0, p1, p2) with
        | true =>
          have HBO' : Hid (bestO (T.take (pre.length + 1)) = some (z0, z1, z2)) := Lib.hid (by rw [HBO.out, better]; simp [hdb])
          clear hdb
          gi_wp2_with fail
          refine ⟨A1, HFB.out.trip HTB.out (z0, z1, z2), ?_⟩
          dsimp only
          rw [HLEN.out, HBO'.out]
          exact ⟨HNEXT.out, HFB.out.put hdl hml (z0, z1, z2)⟩
        | false =>
          have HBO' : Hid (bestO (T.take (pre.length + 1)) = some (p0, p1, p2)) := Lib.hid (by rw [HBO.out, better]; simp [hdb])
          clear hdb
          gi_wp2_with fail
          refine ⟨A1, HTB.out, ?_⟩
          dsimp only
          rw [HLEN.out, HBO'.out]
          exact ⟨HNEXT.out, HFB.out⟩
  case done =>
    rintro D A2 W ht hnD hD ⟨hle, hF⟩ hK
    rw [numQ_length, qL_length, List.take_length] at hle hF
    have hF' : FirstAt w6 w.heap.size d m (firstT key T) A2 W := by rw [firstT, takeWhile_all hle]; exact hF
    have hfi := hF'.first
    have hfo := hF'.found
    rw [HOB.out] at hfi hfo
    simp only [encR] at hfi hfo
    have hre : W.heap[w.heap.size + 2]? = some (.cells #[.int .i64 0, .int .i64 0, .int .i64 0] 138 (0, 0)) := (ht.block _ (by omega) (by omega)).trans k2'
    have g4 : W.cell? ⟨w.heap.size + 1 + 1 + 1 + 1, 0, none⟩ = some (.bool bb) := by simp [World.cell?, show W.heap[w.heap.size + 1 + 1 + 1 + 1]? = _ from hfo]
    have g30 : W.cell? ⟨w.heap.size + 1 + 1 + 1, 0, none⟩ = some (.int .i64 p0) := by simp [World.cell?, show W.heap[w.heap.size + 1 + 1 + 1]? = _ from hfi]
    have g31 : W.cell? ⟨w.heap.size + 1 + 1 + 1, 1, none⟩ = some (.int .i64 p1) := by simp [World.cell?, show W.heap[w.heap.size + 1 + 1 + 1]? = _ from hfi]
    have g32 : W.cell? ⟨w.heap.size + 1 + 1 + 1, 2, none⟩ = some (.int .i64 p2) := by simp [World.cell?, show W.heap[w.heap.size + 1 + 1 + 1]? = _ from hfi]
    have g20 : W.cell? ⟨w.heap.size + 1 + 1, 0, none⟩ = some (.int .i64 0) := by simp [World.cell?, show W.heap[w.heap.size + 1 + 1]? = _ from hre]
    have g21 : W.cell? ⟨w.heap.size + 1 + 1, 1, none⟩ = some (.int .i64 0) := by simp [World.cell?, show W.heap[w.heap.size + 1 + 1]? = _ from hre]
    have g22 : W.cell? ⟨w.heap.size + 1 + 1, 2, none⟩ = some (.int .i64 0) := by simp [World.cell?, show W.heap[w.heap.size + 1 + 1]? = _ from hre]
    have f20 : W.frozen? ⟨w.heap.size + 1 + 1, 0, none⟩ = false := by simp [World.frozen?, show W.heap[w.heap.size + 1 + 1]? = _ from hre]
    have f21 : W.frozen? ⟨w.heap.size + 1 + 1, 1, none⟩ = false := by simp [World.frozen?, show W.heap[w.heap.size + 1 + 1]? = _ from hre]
    have f22 : W.frozen? ⟨w.heap.size + 1 + 1, 2, none⟩ = false := by simp [World.frozen?, show W.heap[w.heap.size + 1 + 1]? = _ from hre]
    have HT := Lib.hid ht
    have HK := Lib.hid hK
    have HFF := Lib.hid hF'
    have HRE := Lib.hid hre
    have HND := Lib.hid hnD
    clear ht hK hF' hfi hfo hre hnD hle hF k0' k1' k2' k3' k4' hseq
    gi_wp2
    gi_region
    gi_wp2
    refine ⟨by simp, .inl ⟨_, _, rfl, run_takeDeferred ((set3_other (w := W) (r := w.heap.size + 2) _ _ _ (by omega)).trans HK.out), ?_⟩⟩
    refine ⟨_, res_due rfl _ (w.heap.size + 2) #[.int .i64 p0, .int .i64 p1, .int .i64 p2] bb _ rfl rfl rfl ((World.putObj_heap_other (by omega)).trans (set3_same (w := W) _ _ _ HRE.out)), rfl, ?_⟩
    exact below_putObj (below_set3 (first_below HB6.out HT.out HFF.out) (r := w.heap.size + 2) (by omega) _ _ _).drew (by omega) _
  case stop =>
    rintro D c pre A2 W ht hnD hD _ ⟨rfl, hF'⟩ hK
    have hfi := hF'.first
    have hfo := hF'.found
    rw [HOB.out] at hfi hfo
    simp only [encR] at hfi hfo
    have hre : W.heap[w.heap.size + 2]? = some (.cells #[.int .i64 0, .int .i64 0, .int .i64 0] 138 (0, 0)) := (ht.block _ (by omega) (by omega)).trans k2'
    have g4 : W.cell? ⟨w.heap.size + 1 + 1 + 1 + 1, 0, none⟩ = some (.bool bb) := by simp [World.cell?, show W.heap[w.heap.size + 1 + 1 + 1 + 1]? = _ from hfo]
    have g30 : W.cell? ⟨w.heap.size + 1 + 1 + 1, 0, none⟩ = some (.int .i64 p0) := by simp [World.cell?, show W.heap[w.heap.size + 1 + 1 + 1]? = _ from hfi]
    have g31 : W.cell? ⟨w.heap.size + 1 + 1 + 1, 1, none⟩ = some (.int .i64 p1) := by simp [World.cell?, show W.heap[w.heap.size + 1 + 1 + 1]? = _ from hfi]
    have g32 : W.cell? ⟨w.heap.size + 1 + 1 + 1, 2, none⟩ = some (.int .i64 p2) := by simp [World.cell?, show W.heap[w.heap.size + 1 + 1 + 1]? = _ from hfi]
    have g20 : W.cell? ⟨w.heap.size + 1 + 1, 0, none⟩ = some (.int .i64 0) := by simp [World.cell?, show W.heap[w.heap.size + 1 + 1]? = _ from hre]
    have g21 : W.cell? ⟨w.heap.size + 1 + 1, 1, none⟩ = some (.int .i64 0) := by simp [World.cell?, show W.heap[w.heap.size + 1 + 1]? = _ from hre]
    have g22 : W.cell? ⟨w.heap.size + 1 + 1, 2, none⟩ = some (.int .i64 0) := by simp [World.cell?, show W.heap[w.heap.size + 1 + 1]? = _ from hre]
    have f20 : W.frozen? ⟨w.heap.size + 1 + 1, 0, none⟩ = false := by simp [World.frozen?, show W.heap[w.heap.size + 1 + 1]? = _ from hre]
    have f21 : W.frozen? ⟨w.heap.size + 1 + 1, 1, none⟩ = false := by simp [World.frozen?, show W.heap[w.heap.size + 1 + 1]? = _ from hre]
    have f22 : W.frozen? ⟨w.heap.size + 1 + 1, 2, none⟩ = false := by simp [World.frozen?, show W.heap[w.heap.size + 1 + 1]? = _ from hre]
    have HT := Lib.hid ht
    have HK := Lib.hid hK
    have HFF := Lib.hid hF'
    have HRE := Lib.hid hre
    have HND := Lib.hid hnD
    clear ht hK hF' hfi hfo hre hnD k0' k1' k2' k3' k4' hseq
    gi_wp2
    gi_region
    gi_wp2
    refine ⟨by simp, .inl ⟨_, _, rfl, run_takeDeferred ((set3_other (w := W) (r := w.heap.size + 2) _ _ _ (by omega)).trans HK.out), ?_⟩⟩
    refine ⟨_, res_due rfl _ (w.heap.size + 2) #[.int .i64 p0, .int .i64 p1, .int .i64 p2] bb _ rfl rfl rfl ((World.putObj_heap_other (by omega)).trans (set3_same (w := W) _ _ _ HRE.out)), rfl, ?_⟩
    exact below_putObj (below_set3 (first_below HB6.out HT.out HFF.out) (r := w.heap.size + 2) (by omega) _ _ _).drew (by omega) _
end Go.Proofs.YtandmngfajoinaaGreat
