/- Queues of deadlines: what one holds; its map of days. -/
import Derived.Test.YtaodkfnbmpbcfaaOq
import Derived.Test.YtaodkfnbmpbcfaaQa
namespace Go.Proofs.Ytaodkfnbmpbcfaa
open Go.RowKit Go.Maps

/-- The things' keys with their numbers; their days with their numbers. -/
def qL (T : List RI) : List QI := T.map (fun r => (r.1, r.2.2))
def qM (T : List RI) : List QI := T.map (fun r => (r.2.1, r.2.2))
theorem qL_length (T : List RI) : (qL T).length = T.length := by simp [qL]
theorem qM_length (T : List RI) : (qM T).length = T.length := by simp [qM]
theorem qL_get {T : List RI} {i : Nat} {r : RI} (h : T[i]? = some r) : (qL T)[i]? = some (r.1, r.2.2) := by simp [qL, h]
theorem qM_get {T : List RI} {i : Nat} {r : RI} (h : T[i]? = some r) : (qM T)[i]? = some (r.2.1, r.2.2) := by simp [qM, h]
theorem eraseIdx_map' {α β : Type} (f : α → β) : ∀ (l : List α) (i : Nat), (l.eraseIdx i).map f = (l.map f).eraseIdx i
  | [], _ => rfl
  | _ :: _, 0 => rfl
  | x :: xs, i + 1 => by simp [eraseIdx_map' f xs i]
theorem qL_erase (T : List RI) (i : Nat) : qL (T.eraseIdx i) = (qL T).eraseIdx i := eraseIdx_map' _ T i
theorem qM_erase (T : List RI) (i : Nat) : qM (T.eraseIdx i) = (qM T).eraseIdx i := eraseIdx_map' _ T i

/-- r put into its place. -/
def insT : List RI → RI → List RI
  | [], x => [x]
  | y :: ys, x => if befQ (y.1, y.2.2) (x.1, x.2.2) then y :: insT ys x else x :: y :: ys
theorem qL_ins (T : List RI) (x : RI) : qL (insT T x) = insL (qL T) (x.1, x.2.2) := by
  induction T with
  | nil => rfl
  | cons y ys ih =>
    show qL (if _ then _ else _) = insL ((y.1, y.2.2) :: qL ys) _
    unfold insL
    split
    · rename_i h
      show (y.1, y.2.2) :: qL (insT ys x) = _
      rw [ih]
    · rfl
theorem mem_insT {T : List RI} {x z : RI} : z ∈ insT T x ↔ z = x ∨ z ∈ T := by
  induction T with
  | nil => simp [insT]
  | cons y ys ih =>
    unfold insT
    split
    · simp only [List.mem_cons, ih]
      constructor
      · rintro (h | h | h)
        · exact .inr (.inl h)
        · exact .inl h
        · exact .inr (.inr h)
      · rintro (h | h | h)
        · exact .inr (.inl h)
        · exact .inl h
        · exact .inr (.inr h)
    · simp only [List.mem_cons]
theorem length_insT (T : List RI) (x : RI) : (insT T x).length = T.length + 1 := by rw [← qL_length, qL_ins, length_insL, qL_length]
theorem mem_qM {T : List RI} {z : QI} : z ∈ qM T ↔ ∃ r ∈ T, z = (r.2.1, r.2.2) := by
  simp only [qM, List.mem_map]
  exact ⟨fun ⟨r, h, e⟩ => ⟨r, h, e.symm⟩, fun ⟨r, h, e⟩ => ⟨r, h, e.symm⟩⟩
theorem mem_qL {T : List RI} {z : QI} : z ∈ qL T ↔ ∃ r ∈ T, z = (r.1, r.2.2) := by
  simp only [qL, List.mem_map]
  exact ⟨fun ⟨r, h, e⟩ => ⟨r, h, e.symm⟩, fun ⟨r, h, e⟩ => ⟨r, h, e.symm⟩⟩
theorem dist_M {T : List RI} (h : Dist (qL T)) : Dist (qM T) := by
  unfold Dist qL at h
  unfold Dist qM
  rw [List.pairwise_map] at h ⊢
  exact h
/-- One of a number. -/
theorem dist_uniq {T : List RI} (h : Dist (qL T)) {a b : RI} (ha : a ∈ T) (hb : b ∈ T) (he : a.2.2 = b.2.2) : a = b := by
  induction T with
  | nil => simp at ha
  | cons y ys ih =>
    obtain ⟨h1, h2⟩ := List.pairwise_cons.1 (show List.Pairwise _ ((y.1, y.2.2) :: qL ys) from h)
    rcases List.mem_cons.1 ha with ea | ha' <;> rcases List.mem_cons.1 hb with eb | hb'
    · rw [ea, eb]
    · rw [ea] at he; exact absurd he (h1 (b.1, b.2.2) (mem_qL.2 ⟨b, hb', rfl⟩))
    · rw [eb] at he; exact absurd he.symm (h1 (a.1, a.2.2) (mem_qL.2 ⟨a, ha', rfl⟩))
    · exact ih h2 ha' hb'

theorem Keeps.any {D : DataW Unit} {L L' : List QI} (h : Keeps D L) {x : QI} (hm : ∀ z, z ∈ L' ↔ z = x ∨ (z ∈ L ∧ z.2 ≠ x.2)) (hl : L'.length = if Maps.has D (.int .i64 x.2) then L.length else L.length + 1) : Keeps (D.put (.int .i64 x.2) (.lit (.int .i64 x.1))) L' := by
  refine ⟨h.tidy.put (isKey _) _, ?_, fun id => ?_, fun z hz => ?_⟩
  · rw [size_put h.tidy, hl, h.size]
  · by_cases he : id = x.2
    · subst he
      rw [has_put_same h.tidy.isMap (isKey _)]
      simp only [true_iff]
      exact ⟨x, (hm x).2 (.inl rfl), rfl⟩
    · rw [has_put_other (by intro e; injection e with _ e; exact he e), h.has]
      constructor
      · rintro ⟨z, hz, rfl⟩; exact ⟨z, (hm z).2 (.inr ⟨hz, he⟩), rfl⟩
      · rintro ⟨z, hz, rfl⟩
        rcases (hm z).1 hz with rfl | hz
        · exact absurd rfl he
        · exact ⟨z, hz.1, rfl⟩
  · rcases (hm z).1 hz with rfl | hz
    · rw [atKey_put_same h.tidy.isMap (isKey _)]
    · rw [atKey_put_other (by intro e; injection e with _ e; exact hz.2 e)]
      exact h.get z hz.1
/-- 'm[id] = day', of a number that is there or not. -/
theorem QMap.any {w : World} {mp : Nat} {L L' : List QI} (h : QMap w mp L) (x : QI) (hk : wf64 x.1) (hi : wf64 x.2) (hL : L.length ≤ 1000000) (hm : ∀ z, z ∈ L' ↔ z = x ∨ (z ∈ L ∧ z.2 ≠ x.2))
    (hl : ((∃ z ∈ L, z.2 = x.2) ∧ L'.length = L.length) ∨ ((∀ z ∈ L, z.2 ≠ x.2) ∧ L'.length = L.length + 1)) :
    ∃ w', (Instr.mapUpdate 74 (.map (some mp)) (.int .i64 x.2) (.int .i64 x.1)).run Try.prog w = .ok () w' ∧ QMap w' mp L' ∧ w.grownBy w' (some mp) ∧ w'.heap.size = w.heap.size := by
  obtain ⟨D, h1, h2⟩ := h
  obtain ⟨w', hrun, h3, h4⟩ := h1.store keyed_i Try.underlying74 (by unfold maxLen; omega) (keyOf_int_mk Try.underlying3 hi) (plainElem_int Try.underlying2 hk)
  have h5 : Keeps _ L' := h2.any (x := x) hm (by
    rcases hl with ⟨hz, hl⟩ | ⟨hz, hl⟩
    · rw [(h2.has _).2 hz, hl]; simp
    · have hno : Maps.has D (.int .i64 x.2) = false := by
        cases hc : Maps.has D (.int .i64 x.2) with
        | false => rfl
        | true => obtain ⟨z, hz1, he⟩ := (h2.has _).1 hc; exact absurd he (hz z hz1)
      rw [hno, hl]; simp)
  refine ⟨w', hrun, ⟨_, by rw [← h5.size]; exact ownsMap_tight h3, h5⟩, h4.grown, ?_⟩
  obtain ⟨_, _, _, _, _, rfl⟩ := h4
  simp [ChangeMaps.setBlock]
set_option maxRecDepth 100000 in
/-- 'm[id]' of a number that is there. -/
theorem QMap.at {w : World} {mp : Nat} {L : List QI} (h : QMap w mp L) {x : QI} (hx : x ∈ L) (hw : wf64 x.2) :
    (Instr.lookup 74 (.map (some mp)) (.int .i64 x.2) false).run Try.prog w = .ok (.int .i64 x.1) w := by
  obtain ⟨D, h1, h2⟩ := h
  obtain ⟨c, hrun, hc, _⟩ := h1.lookup_int keyed_i Try.underlying74 Try.underlying2 (zero_i64 w) (keyOf_int_mk Try.underlying3 hw)
  have e1 := h2.get x hx
  rw [hc] at e1
  injection e1 with e1
  injection e1 with _ e1
  rw [hrun, e1]

/-- A queue of deadlines at block d: its queue at b, its days at m. -/
structure IsD (w : World) (d b m : Nat) (most s : Int) (T : List RI) (v : Value) (mp : Nat) : Prop where
  box : w.heap[d]? = some (.cells #[.pointer (some ⟨b, 0, none⟩), .map (some m)] 87 (0, 0))
  q : IsQ w b most s (qL T) v mp
  map : QMap w m (qM T)
  wf : ∀ r ∈ T, wf64 r.2.1
  n1 : ¬ QOf b v mp d
  n2 : ¬ QOf b v mp m
  n3 : m ≠ d
/-- Its blocks. -/
def DOf (d b m : Nat) (v : Value) (mp : Nat) (k : Nat) : Prop := k = d ∨ k = m ∨ QOf b v mp k
theorem IsD.lt {w : World} {d b m : Nat} {most s : Int} {T : List RI} {v : Value} {mp : Nat} (h : IsD w d b m most s T v mp) : ∀ k, DOf d b m v mp k → k < w.heap.size := by
  rintro k (rfl | rfl | hk)
  · exact (Array.getElem?_eq_some_iff.1 h.box).1
  · exact h.map.lt
  · exact h.q.lt k hk
theorem IsD.keep {w w' : World} {d b m : Nat} {most s : Int} {T : List RI} {v : Value} {mp : Nat} (h : IsD w d b m most s T v mp) (hs : ∀ k, DOf d b m v mp k → w'.heap[k]? = w.heap[k]?) : IsD w' d b m most s T v mp :=
  ⟨(hs d (.inl rfl)).trans h.box, h.q.keep (fun k hk => hs k (.inr (.inr hk))), h.map.keep (hs m (.inr (.inl rfl))), h.wf, h.n1, h.n2, h.n3⟩
theorem IsD.below {w w' : World} {d b m : Nat} {most s : Int} {T : List RI} {v : Value} {mp : Nat} (h : IsD w d b m most s T v mp) (hb : Below w.heap.size w w') : IsD w' d b m most s T v mp := h.keep (fun k hk => hb.block k (h.lt k hk))
theorem IsD.wfs {w : World} {d b m : Nat} {most s : Int} {T : List RI} {v : Value} {mp : Nat} (h : IsD w d b m most s T v mp) {r : RI} (hr : r ∈ T) : wf64 r.1 ∧ wf64 r.2.1 ∧ wf64 r.2.2 := by
  have h1 := h.q.wf _ (mem_qL.2 ⟨r, hr, rfl⟩)
  exact ⟨h1.1, h.wf r hr, h1.2⟩
end Go.Proofs.Ytaodkfnbmpbcfaa
