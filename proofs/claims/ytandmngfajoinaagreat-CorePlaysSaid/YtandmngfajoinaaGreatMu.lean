/- The reference's queue: what it holds; its models; the place of a number. The reference's queue: grow. The reference's queue: Held; Enter, of one that is not let in. The reference's queue: Pick, of the first chapter of the three. -/
import Derived.Test.YtandmngfajoinaaGreatTi
import Derived.Test.YtandmngfajoinaaGreatPh
import Derived.Test.YtandmngfajoinaaGreatApp
import Derived.Laws.OwnMore
import Derived.BigQuiet
import Derived.StillTailTactics
import Derived.Deep.RegionLaw
import Derived.Deep.CutBlock
import Derived.Deep.DeepCutAuto
import Derived.Deep.RegionHeld3
import Derived.Laws.ResultCell
namespace Go.Proofs.YtandmngfajoinaaGreat
open Go.RowKit

theorem tripN {A A' : Nat → Prop} {W W' : World} (h : Trip A W A' W') (n : Nat) : Trip A W A' (W'.drewN n) := ⟨h.os, h.tape, h.output, h.size, h.block, h.sub, h.bd⟩

/-- A task: number, weight, point, day; its cells; a list's cells. -/
def encT (x : TI) : List Value := [.int .i64 x.1, .int .i64 x.2.1, .int .i64 x.2.2.1, .int .i64 x.2.2.2]
def flatT : List TI → List Value
  | [] => []
  | x :: xs => encT x ++ flatT xs
theorem flatT_length (l : List TI) : (flatT l).length = l.length * 4 := by
  induction l with
  | nil => rfl
  | cons x xs ih => rw [flatT, List.length_append, ih, List.length_cons]; simp [encT]; omega
theorem flatT_append (a b : List TI) : flatT (a ++ b) = flatT a ++ flatT b := by
  induction a with
  | nil => rfl
  | cons x xs ih => rw [List.cons_append, flatT, flatT, ih, List.append_assoc]
theorem flatT_get {l : List TI} {j : Nat} {x : TI} (h : l[j]? = some x) (i : Nat) (hi : i < 4) : (flatT l)[j * 4 + i]? = (encT x)[i]? := by
  induction l generalizing j with
  | nil => simp at h
  | cons y ys ih =>
    cases j with
    | zero =>
      simp at h
      subst h
      rw [flatT, List.getElem?_append_left (by simp [encT]; omega)]
      simp
    | succ j =>
      have h' : ys[j]? = some x := by simpa using h
      rw [flatT, List.getElem?_append_right (by simp [encT]; omega)]
      have e : (j + 1) * 4 + i - (encT y).length = j * 4 + i := by simp [encT]; omega
      rw [e, ih h']
theorem flatT_one (l : List TI) : ∀ u ∈ flatT l, u.oneCell' = true := by
  induction l with
  | nil => intro u hu; simp [flatT] at hu
  | cons x xs ih =>
    intro u hu
    rw [flatT, List.mem_append] at hu
    rcases hu with h | h
    · simp [encT] at h
      rcases h with rfl | rfl | rfl | rfl <;> rfl
    · exact ih u h

/-- The slice v holds the list l. -/
def TV (w : World) (v : Value) (l : List TI) : Prop := w.ownsRow 0 59 4 v l.length (flatT l)
theorem TV.keep {w w' : World} {v : Value} {l : List TI} (h : TV w v l) (hs : ∀ g, v.ownBlock = some g → w'.heap[g]? = w.heap[g]?) : TV w' v l := by
  refine ⟨h.1, ?_⟩
  rcases h.2 with h2 | ⟨g, cap, cur, h1, h2, h3, h4⟩
  · exact .inl h2
  · exact .inr ⟨g, cap, cur, h1, h2, (hs g (by rw [h1]; rfl)).trans h3, h4⟩
theorem TV.form {w : World} {v : Value} {l : List TI} (h : TV w v l) : ∃ A c, v = .slice A l.length c := by
  rcases h.2 with ⟨h1, h2⟩ | ⟨g, cap, cur, h1, _⟩
  · exact ⟨none, 0, by rw [h1, h2]⟩
  · exact ⟨_, _, h1⟩
theorem TV.get {w : World} {v : Value} {l : List TI} (h : TV w v l) {j : Nat} {x : TI} (hj : l[j]? = some x) :
    ∃ g c, v = .slice (some ⟨g, 0, none⟩) l.length c ∧ g < w.heap.size ∧ l.length ≤ c ∧ w.cell? ⟨g, j * 4, none⟩ = some (.int .i64 x.1) ∧ w.cell? ⟨g, j * 4 + 1, none⟩ = some (.int .i64 x.2.1) ∧ w.cell? ⟨g, j * 4 + 2, none⟩ = some (.int .i64 x.2.2.1) ∧ w.cell? ⟨g, j * 4 + 3, none⟩ = some (.int .i64 x.2.2.2) := by
  have hlt : j < l.length := (List.getElem?_eq_some_iff.1 hj).1
  rcases h.2 with ⟨h1, h2⟩ | ⟨g, cap, cur, h1, h2, h3, h4, _⟩
  · omega
  · have hc := World.ownsRow.cells h (g := g) (by rw [h1]; rfl)
    have ha : ∀ i, (⟨g, 0, none⟩ : Addr).add i = ⟨g, i, none⟩ := fun i => by unfold Addr.add; split <;> simp_all
    refine ⟨g, cap, h1, (Array.getElem?_eq_some_iff.1 h3).1, h4, ?_, ?_, ?_, ?_⟩
    · have := hc (j * 4 + 0) _ ((flatT_get hj 0 (by omega)).trans rfl); rwa [ha] at this
    · have := hc (j * 4 + 1) _ ((flatT_get hj 1 (by omega)).trans rfl); rwa [ha] at this
    · have := hc (j * 4 + 2) _ ((flatT_get hj 2 (by omega)).trans rfl); rwa [ha] at this
    · have := hc (j * 4 + 3) _ ((flatT_get hj 3 (by omega)).trans rfl); rwa [ha] at this

/-- Block p is a queue of the reference's. -/
def IsT (w : World) (p : Nat) (tag base cur : Int) (v : Value) (l : List TI) : Prop :=
  w.heap[p]? = some (.cells #[.int .i64 tag, .int .i64 base, .int .i64 cur, v] 57 (0, 0)) ∧ TV w v l ∧ v.ownBlock ≠ some p
/-- Its blocks. -/
def TOf (p : Nat) (v : Value) (k : Nat) : Prop := k = p ∨ v.ownBlock = some k
section
variable {w w' : World} {p : Nat} {tag base cur : Int} {v : Value} {l : List TI}
theorem IsT.lt (h : IsT w p tag base cur v l) : ∀ k, TOf p v k → k < w.heap.size := by
  rintro k (rfl | hk)
  · exact (Array.getElem?_eq_some_iff.1 h.1).1
  · exact (World.ownsRow.lt h.2.1 k hk).2
theorem IsT.ltp (h : IsT w p tag base cur v l) : p < w.heap.size := h.lt p (.inl rfl)
theorem IsT.keep (h : IsT w p tag base cur v l) (hs : ∀ k, TOf p v k → w'.heap[k]? = w.heap[k]?) : IsT w' p tag base cur v l :=
  ⟨(hs p (.inl rfl)).trans h.1, h.2.1.keep (fun g hg => hs g (.inr hg)), h.2.2⟩
theorem IsT.below (h : IsT w p tag base cur v l) (hb : Below w.heap.size w w') : IsT w' p tag base cur v l := h.keep (fun k hk => hb.block k (h.lt k hk))
theorem IsT.cells (h : IsT w p tag base cur v l) : w.cell? ⟨p, 0, none⟩ = some (.int .i64 tag) ∧ w.cell? ⟨p, 1, none⟩ = some (.int .i64 base) ∧ w.cell? ⟨p, 2, none⟩ = some (.int .i64 cur) ∧ w.cell? ⟨p, 3, none⟩ = some v := by
  refine ⟨?_, ?_, ?_, ?_⟩ <;> simp [World.cell?, h.1]
theorem IsT.free (h : IsT w p tag base cur v l) (o : Nat) : w.frozen? ⟨p, o, none⟩ = false := by simp [World.frozen?, h.1]
/-- A cell of the queue's own is set: its base, its Cur. -/
theorem set_heap {w : World} {p o : Nat} {cs : Array Value} {t : TypeId} (h : w.heap[p]? = some (.cells cs t (0, 0))) (u : Value) : (w.setCell ⟨p, o, none⟩ u).heap[p]? = some (.cells (cs.setIfInBounds o u) t (0, 0)) := by
  have hlt : p < w.heap.size := (Array.getElem?_eq_some_iff.1 h).1
  have he : w.heap[p] = .cells cs t (0, 0) := (Array.getElem?_eq_some_iff.1 h).2
  unfold World.setCell
  simp [hlt, Array.getElem_modify, he]
theorem IsT.setB (h : IsT w p tag base cur v l) (b' : Int) : IsT (w.setCell ⟨p, 1, none⟩ (.int .i64 b')) p tag b' cur v l ∧ Trip (TOf p v) w (TOf p v) (w.setCell ⟨p, 1, none⟩ (.int .i64 b')) := by
  have ho : ∀ k, k ≠ p → (w.setCell ⟨p, 1, none⟩ (.int .i64 b')).heap[k]? = w.heap[k]? := fun k hk => Below.heap_setCell w _ _ k hk
  refine ⟨⟨set_heap h.1 _, h.2.1.keep (fun g hg => ho g (fun e => h.2.2 (by rw [hg, e]))), h.2.2⟩, Trip.of_same h.lt ⟨rfl, rfl, rfl, by simp [World.setCell], fun k _ hn => ho k (fun e => hn (.inl e))⟩⟩
theorem IsT.setC (h : IsT w p tag base cur v l) (c' : Int) : IsT (w.setCell ⟨p, 2, none⟩ (.int .i64 c')) p tag base c' v l ∧ Trip (TOf p v) w (TOf p v) (w.setCell ⟨p, 2, none⟩ (.int .i64 c')) := by
  have ho : ∀ k, k ≠ p → (w.setCell ⟨p, 2, none⟩ (.int .i64 c')).heap[k]? = w.heap[k]? := fun k hk => Below.heap_setCell w _ _ k hk
  refine ⟨⟨set_heap h.1 _, h.2.1.keep (fun g hg => ho g (fun e => h.2.2 (by rw [hg, e]))), h.2.2⟩, Trip.of_same h.lt ⟨rfl, rfl, rfl, by simp [World.setCell], fun k _ hn => ho k (fun e => hn (.inl e))⟩⟩
theorem IsT.self (h : IsT w p tag base cur v l) : Trip (TOf p v) w (TOf p v) w := Trip.refl h.lt
end

/-- The place of a number; -1. -/
def atT (id : Int) : List TI → Nat → Int
  | [], _ => -1
  | x :: xs, k => if x.1 = id then k else atT id xs (k + 1)
theorem atT_found (id : Int) : ∀ (l : List TI) (j : Nat), (atT id l j = -1 ∧ ∀ x ∈ l, x.1 ≠ id) ∨ ∃ k x, atT id l j = ((j + k : Nat) : Int) ∧ l[k]? = some x ∧ x.1 = id
  | [], _ => .inl ⟨rfl, by simp⟩
  | y :: ys, j => by
    by_cases h : y.1 = id
    · exact .inr ⟨0, y, by rw [atT, if_pos h]; rfl, rfl, h⟩
    · rcases atT_found id ys (j + 1) with ⟨h1, h4⟩ | ⟨k, x, h1, h2, h3⟩
      · refine .inl ⟨by rw [atT, if_neg h]; exact h1, fun x hx => ?_⟩
        rcases List.mem_cons.1 hx with rfl | hx
        · exact h
        · exact h4 x hx
      · exact .inr ⟨k + 1, x, by rw [atT, if_neg h, h1]; congr 1; omega, by simpa using h2, h3⟩

set_option maxHeartbeats 1000000 in
theorem rat_c (p : Nat) (tag base cur id : Int) (v : Value) (l : List TI) (w : World) (h : IsT w p tag base cur v l) (hl : l.length ≤ 1000000) :
    Calls Tryz.prog 41 #[.pointer (some ⟨p, 0, none⟩), .int .i64 id] w fun e w' => e = .returned (.int .i64 (atT id l 0)) ∧ w = w' := by
  obtain ⟨-, -, -, hc1⟩ := h.cells
  have HR := Lib.hid h.2.1
  obtain ⟨A, c, rfl⟩ := h.2.1.form
  obtain ⟨n, hn⟩ : ∃ n, l.length = n := ⟨_, rfl⟩
  rw [hn] at hc1 HR hl
  have HN := Lib.hid hn
  clear h hn
  go_enter Tryz.func41, Tryz.ntmps41
  go_wp2_with fail
  go_loop [5] (fun i => ∃ k : Nat, i = .int .i64 k ∧ k ≤ n ∧ atT id l 0 = atT id (l.drop k) k) (fun i => n - (intOf i).toNat)
  case atStart => exact ⟨0, rfl, Nat.zero_le _, by simp⟩
  case round =>
    obtain ⟨k, rfl, hk, hat⟩ := hrel
    have HAT := Lib.hid hat
    clear hat
    by_cases hlt : k < n
    · have hkl : k < l.length := by rw [HN.out]; exact hlt
      obtain ⟨g, cc, hv, _, _, c0, c1, c2, c3⟩ := HR.out.get (List.getElem?_eq_getElem hkl)
      rw [HN.out] at hv
      injection hv with hv1 hv2 hv3
      subst hv1 hv3
      obtain ⟨x, hx⟩ : ∃ x, x = l[k] := ⟨_, rfl⟩
      rw [← hx] at c0 c1 c2 c3
      have hstep : atT id (l.drop k) k = if x.1 = id then (k : Int) else atT id (l.drop (k + 1)) (k + 1) := by
        rw [List.drop_eq_getElem_cons hkl, atT, ← hx]
      have HS := Lib.hid hstep
      clear hx hstep hv2 c1 c2 c3
      by_cases he : x.1 = id
      · go_wp2_with fail
        go_ret
        refine ⟨?_, rfl⟩
        rw [HAT.out, HS.out, if_pos he]
        rfl
      · have he' : (x.1 == id) = false := by simp [he]
        go_wp2_with fail
        go_round
        case rel => exact ⟨k + 1, by go_num, by omega, by rw [HAT.out, HS.out, if_neg he]⟩
        case measure => simp [intOf]; omega
    · obtain rfl : k = n := by omega
      have e1 : atT id l 0 = -1 := by rw [HAT.out, ← HN.out, List.drop_length]; rfl
      rw [e1]
      go_wp2_with fail
      go_ret
      exact ⟨rfl, rfl⟩

/-! The reference's weights. -/
set_option maxHeartbeats 400000 in
theorem rgoodw_c (x : Int) (w : World) :
    Calls Tryz.prog 40 #[.int .i64 x] w fun e w' => e = .returned (.bool (goodB x)) ∧ w = w' := by
  by_cases h1 : 1 ≤ x <;> by_cases h2 : x ≤ 20
  all_goals
    go_enter Tryz.func40, Tryz.ntmps40
    go_wp2
    go_ret
    refine ⟨ret_b ?_, rfl⟩
    unfold goodB; simp [h1, h2]
set_option maxHeartbeats 400000 in
theorem rstep_c (x : Int) (w : World) :
    Calls Tryz.prog 48 #[.int .i64 x] w fun e w' => e = .returned (.int .i64 (tickV x)) ∧ w = w' := by
  cases h : goodB x with
  | true =>
    have hx := goodB_true.1 h
    obtain ⟨h1, h2⟩ := hx
    have hc := Lib.hid (fun w => rgoodw_c x w)
    rw [h] at hc
    have HS := Lib.hid (tickV_yes h)
    clear h
    have hz : (x == 0) = false := beq_eq_false_iff_ne.2 (by omega)
    go_enter Tryz.func48, Tryz.ntmps48
    go_wp2_with (go_at_call 40; refine (hc.out _).mono ?_; rintro e w' ⟨rfl, rfl⟩)
    go_ret
    refine ⟨ret_i ?_, rfl⟩
    rw [HS.out]
  | false =>
    have hc := Lib.hid (fun w => rgoodw_c x w)
    rw [h] at hc
    have HS := Lib.hid (tickV_no h)
    clear h
    go_enter Tryz.func48, Tryz.ntmps48
    go_wp2_with (go_at_call 40; refine (hc.out _).mono ?_; rintro e w' ⟨rfl, rfl⟩)
    go_ret
    exact ⟨ret_i HS.out.symm, rfl⟩
set_option maxHeartbeats 400000 in
theorem rday_c (x : Int) (w : World) :
    Calls Tryz.prog 43 #[.int .i64 x] w fun e w' => e = .returned (.int .i64 (4 * tickV x)) ∧ w = w' := by
  have hc := Lib.hid (rstep_c x w)
  obtain ⟨h1, h2⟩ := tickV_bd x
  generalize tickV x = z at *
  go_enter Tryz.func43, Tryz.ntmps43
  go_wp2_with fail
  refine hc.out.mono ?_
  rintro e w' ⟨rfl, rfl⟩
  go_wp2_with fail
  go_ret
  exact ⟨rfl, rfl⟩
end Go.Proofs.YtandmngfajoinaaGreat

namespace Go.Proofs.YtandmngfajoinaaGreat
open Go.RowKit

/-- The base, grown. -/
def growT (base : Int) (l : List TI) : Int := if l = [] then base else max base (minP l)
theorem growT_of {base : Int} {l : List TI} {x : TI} (hx : x ∈ l) (hl : ∀ y ∈ l, x.2.2.1 ≤ y.2.2.1) : growT base l = max base x.2.2.1 := by
  have hn : l ≠ [] := List.ne_nil_of_mem hx
  unfold growT
  rw [if_neg hn]
  obtain ⟨z, hz, he⟩ := minP_mem hn
  have h1 := minP_le hx
  have h2 := hl z hz
  omega
/-- So far: k tasks have been looked at, the base is b. -/
def GrowAt (base : Int) (l : List TI) (k : Nat) (b : Int) : Prop :=
  (b = base ∨ b = growT base l) ∧ ∀ j x, j < k → l[j]? = some x → (∀ y ∈ l, x.2.2.1 ≤ y.2.2.1) → b = growT base l
theorem GrowAt.skip {base b : Int} {l : List TI} {k : Nat} {x : TI} (h : GrowAt base l k b) (hx : l[k]? = some x) (hn : ¬ ∀ y ∈ l, x.2.2.1 ≤ y.2.2.1) : GrowAt base l (k + 1) b :=
  ⟨h.1, fun j z hj hz hl => by
    by_cases he : j = k
    · subst he
      rw [hx] at hz
      obtain rfl := Option.some.inj hz
      exact absurd hl hn
    · exact h.2 j z (by omega) hz hl⟩
theorem GrowAt.take {base b : Int} {l : List TI} {k : Nat} {x : TI} (h : GrowAt base l k b) (hx : l[k]? = some x) (hl : ∀ y ∈ l, x.2.2.1 ≤ y.2.2.1) : GrowAt base l (k + 1) (if b < x.2.2.1 then x.2.2.1 else b) := by
  have hg := growT_of (base := base) (List.mem_of_getElem? hx) hl
  have e : (if b < x.2.2.1 then x.2.2.1 else b) = growT base l := by
    rcases h.1 with h1 | h1 <;> split <;> omega
  exact ⟨.inr e, fun _ _ _ _ _ => e⟩
theorem GrowAt.done {base b : Int} {l : List TI} (h : GrowAt base l l.length b) : b = growT base l := by
  by_cases hn : l = []
  · subst hn
    rcases h.1 with h1 | h1
    · rw [h1]; rfl
    · exact h1
  · obtain ⟨x, hx, he⟩ := minP_mem hn
    obtain ⟨j, hj⟩ := List.getElem?_of_mem hx
    exact h.2 j x (List.getElem?_eq_some_iff.1 hj).1 hj (fun y hy => by rw [he]; exact minP_le hy)
/-- Is the point least among the first j? -/
def leastTo (l : List TI) (z : Int) (j : Nat) : Bool := (l.take j).all (fun y => decide (z ≤ y.2.2.1))
theorem leastTo_next {l : List TI} {z : Int} {j : Nat} {y : TI} (h : l[j]? = some y) : leastTo l z (j + 1) = (leastTo l z j && decide (z ≤ y.2.2.1)) := by
  unfold leastTo
  rw [List.take_add_one, h, List.all_append]
  simp
theorem leastTo_all {l : List TI} {z : Int} : leastTo l z l.length = true ↔ ∀ y ∈ l, z ≤ y.2.2.1 := by
  unfold leastTo
  rw [List.take_length]
  simp

set_option maxRecDepth 100000 in
set_option maxHeartbeats 4000000 in
theorem rgrow_c (p : Nat) (tag base cur : Int) (v : Value) (l : List TI) (w : World) (h : IsT w p tag base cur v l) (hl : l.length ≤ 1000000) :
    Calls Tryz.prog 44 #[.pointer (some ⟨p, 0, none⟩)] w fun e w' => e = .returned (.tuple #[]) ∧ IsT w' p tag (growT base l) cur v l ∧ Trip (TOf p v) w (TOf p v) w' := by
  obtain ⟨A, c, rfl⟩ := h.2.1.form
  obtain ⟨n, hn⟩ : ∃ n, l.length = n := ⟨_, rfl⟩
  rw [hn] at h hl
  have HN := Lib.hid hn
  have HI : Hid (IsT w p tag base cur (.slice A n c) l ∧ Trip (TOf p (.slice A n c)) w (TOf p (.slice A n c)) w ∧ GrowAt base l 0 base) := Lib.hid ⟨h, h.self, .inl rfl, fun j x hj => by omega⟩
  rw [hn]
  clear h hn
  go_enter Tryz.func44, Tryz.ntmps44
  go_wp2_with fail
  go_loopw [2] (fun i wr => ∃ (k : Nat) (b : Int), i = .int .i64 k ∧ k ≤ n ∧ Hid (IsT wr p tag b cur (.slice A n c) l ∧ Trip (TOf p (.slice A n c)) w (TOf p (.slice A n c)) wr ∧ GrowAt base l k b)) (fun i _ => n - (intOf i).toNat)
  case atStart => exact ⟨0, base, rfl, Nat.zero_le _, HI⟩
  case round =>
    clear HI
    obtain ⟨k, b, rfl, hk, HK⟩ := hrel
    obtain ⟨-, c1, -, c3⟩ := HK.out.1.cells
    have f1 := HK.out.1.free 1
    by_cases hlt : k < n
    · have hkl : k < l.length := by rw [HN.out]; exact hlt
      obtain ⟨x, hx⟩ : ∃ x, l[k]? = some x := ⟨_, List.getElem?_eq_getElem hkl⟩
      obtain ⟨g, cc, hv, _, _, d0, d1, d2, d3⟩ := HK.out.1.2.1.get hx
      rw [HN.out] at hv
      injection hv with hv1 hv2 hv3
      subst hv1 hv3
      have HX := Lib.hid hx
      obtain ⟨x0, x1, x2, x3⟩ := x
      simp only at d0 d1 d2 d3
      have hkm : (k : Int) < (n : Int) := by omega
      clear hx hv2 d0 d1 d3
      go_wp2_with fail
      go_loopw [3, 4] (fun lv jv wr2 => ∃ (j q : Nat), jv = .int .i64 j ∧ lv = .bool (leastTo l x2 j) ∧ j ≤ n ∧ wr2 = wr.drewN q) (fun _ jv _ => n - (intOf jv).toNat)
      case atStart => exact ⟨0, 0, rfl, rfl, by omega, rfl⟩
      case round =>
        obtain ⟨j, q, rfl, rfl, hj, rfl⟩ := hrel
        by_cases hltj : j < n
        · obtain ⟨y, hy⟩ : ∃ y, l[j]? = some y := ⟨_, List.getElem?_eq_getElem (by rw [HN.out]; exact hltj)⟩
          obtain ⟨g', cc', hv, _, _, t0, t1, t2, t3⟩ := HK.out.1.2.1.get hy
          rw [HN.out] at hv
          injection hv with hv1 hv2 hv3
          obtain rfl : g = g' := by injection hv1 with hv1; injection hv1
          have HNX := Lib.hid (leastTo_next (z := x2) hy)
          obtain ⟨y0, y1, y2, y3⟩ := y
          simp only at t0 t1 t2 t3 HNX
          clear hv1 hv2 hv3 hy t0 t1 t3
          generalize leastTo l x2 j = lb at *
          cases lb
          · simp only [Bool.false_and] at HNX
            go_wp2_with fail
            go_big_quiet (fail)
            go_wp2_with fail
            go_roundw
            case rel => exact ⟨j + 1, _, by go_num, by rw [HNX.out], by omega, rfl⟩
            case measure => simp [intOf]; omega
          · simp only [Bool.true_and] at HNX
            go_wp2_with fail
            go_big_quiet (fail)
            go_wp2_with fail
            go_roundw
            case rel => exact ⟨j + 1, _, by go_num, by rw [HNX.out], by omega, rfl⟩
            case measure => simp [intOf]; omega
        · obtain rfl : j = n := by omega
          cases hlb : leastTo l x2 j with
          | false =>
            have hs := HK.out.2.2.skip HX.out (fun hh => by rw [← HN.out, leastTo_all.2 hh] at hlb; cases hlb)
            have HS := Lib.hid hs
            clear hs
            go_wp2_with fail
            go_big_quiet (fail)
            go_wp2_with fail
            go_roundw
            case rel => exact ⟨k + 1, b, by go_num, by omega, Lib.hid ⟨HK.out.1, tripN HK.out.2.1 _, HS.out⟩⟩
            case measure => simp [intOf]; omega
          | true =>
            have hs := HK.out.2.2.take HX.out (leastTo_all.1 (by rw [HN.out]; exact hlb))
            simp only at hs
            by_cases hgt : b < x2
            · rw [if_pos hgt] at hs
              have HS := Lib.hid hs
              clear hs
              go_wp2_with fail
              go_big_quiet (fail)
              go_wp2_with fail
              go_roundw
              case rel =>
                rename_i nq
                have h1 : IsT (wr.drewN (q + nq)) p tag b cur _ l := HK.out.1
                obtain ⟨h2, h3⟩ := h1.setB x2
                exact ⟨k + 1, x2, by go_num, by omega, Lib.hid ⟨h2, (tripN HK.out.2.1 _).trans h3, HS.out⟩⟩
              case measure => simp [intOf]; omega
            · rw [if_neg hgt] at hs
              have HS := Lib.hid hs
              clear hs
              go_wp2_with fail
              go_big_quiet (fail)
              go_wp2_with fail
              go_roundw
              case rel => exact ⟨k + 1, b, by go_num, by omega, Lib.hid ⟨HK.out.1, tripN HK.out.2.1 _, HS.out⟩⟩
              case measure => simp [intOf]; omega
    · obtain rfl : k = n := by omega
      have hd := HK.out.2.2
      rw [← HN.out] at hd
      have HD := Lib.hid hd.done
      clear hd
      go_wp2_with fail
      go_end0
      rw [← HD.out]
      exact ⟨rfl, HK.out.1, HK.out.2.1⟩
end Go.Proofs.YtandmngfajoinaaGreat

namespace Go.Proofs.YtandmngfajoinaaGreat
open Go.RowKit

def heldT (tag lag : Int) : Int :=
  if tag = 0 then (if 0 < lag then 0 else lag) else if 698377680 < lag then 698377680 else if tag = 2 ∧ lag < -698377680 then -698377680 else lag
set_option maxHeartbeats 1000000 in
theorem rheld_c (tag lag : Int) (w : World) (ht : tag = 0 ∨ tag = 1 ∨ tag = 2) (h1 : -1125899906842624 ≤ lag) :
    Calls Tryz.prog 42 #[.int .i64 tag, .int .i64 lag] w fun e w' => e = .returned (.int .i64 (heldT tag lag)) ∧ w = w' := by
  obtain ⟨r, hr⟩ : ∃ r, heldT tag lag = r := ⟨_, rfl⟩
  rw [hr]
  rcases ht with rfl | rfl | rfl
  · by_cases h2 : 0 < lag
    · have hv : r = 0 := by rw [← hr]; unfold heldT; rw [if_pos rfl, if_pos h2]
      subst hv
      clear hr
      go_enter Tryz.func42, Tryz.ntmps42
      go_wp2_with fail
      go_ret
      exact ⟨rfl, rfl⟩
    · have hv : r = lag := by rw [← hr]; unfold heldT; rw [if_pos rfl, if_neg h2]
      subst hv
      have h3 : ¬ r < -9223372036854775808 := by omega
      clear hr
      go_enter Tryz.func42, Tryz.ntmps42
      go_wp2_with fail
      go_ret
      exact ⟨rfl, rfl⟩
  · by_cases h2 : 698377680 < lag
    · have hv : r = 698377680 := by rw [← hr]; unfold heldT; simp [h2]
      subst hv
      clear hr
      go_enter Tryz.func42, Tryz.ntmps42
      go_wp2_with fail
      go_ret
      exact ⟨rfl, rfl⟩
    · have hv : r = lag := by rw [← hr]; unfold heldT; simp [h2]
      subst hv
      have h3 : ¬ r < -9223372036854775808 := by omega
      clear hr
      go_enter Tryz.func42, Tryz.ntmps42
      go_wp2_with fail
      go_ret
      exact ⟨rfl, rfl⟩
  · by_cases h2 : 698377680 < lag
    · have hv : r = 698377680 := by rw [← hr]; unfold heldT; simp [h2]
      subst hv
      clear hr
      go_enter Tryz.func42, Tryz.ntmps42
      go_wp2_with fail
      go_ret
      exact ⟨rfl, rfl⟩
    · by_cases h3 : lag < -698377680
      · have hv : r = -698377680 := by rw [← hr]; unfold heldT; simp [h2, h3]
        subst hv
        clear hr
        go_enter Tryz.func42, Tryz.ntmps42
        go_wp2_with fail
        go_ret
        exact ⟨rfl, rfl⟩
      · have hv : r = lag := by rw [← hr]; unfold heldT; simp [h2, h3]
        subst hv
        clear hr
        go_enter Tryz.func42, Tryz.ntmps42
        go_wp2_with fail
        go_ret
        exact ⟨rfl, rfl⟩

/-- What lag counts at Enter. -/
def lagE (tag : Int) (ex : Bool) (lag : Int) : Int := if ex = true then lag else heldT tag lag
def newT (tag base : Int) (x : RI) (ex : Bool) : TI := (x.1, x.2.1, base - lagE tag ex x.2.2, base - lagE tag ex x.2.2 + 4 * tickV x.2.1)
/-- Enter. -/
def entT (tag base : Int) (l : List TI) (x : RI) (ex : Bool) : Int × Int × List TI :=
  if itemB x = true then (if 0 ≤ atT x.1 l 0 then (4, base, l) else if 64 ≤ l.length then (3, base, l) else (0, growT base (insTT l (newT tag base x ex)), insTT l (newT tag base x ex))) else (1, base, l)
/-- What is left. -/
def RPost (p : Nat) (tag : Int) (v : Value) (base' cur' : Int) (l' : List TI) (w w' : World) : Prop := ∃ v', IsT w' p tag base' cur' v' l' ∧ Trip (TOf p v) w (TOf p v') w'
theorem RPost.same {w : World} {p : Nat} {tag base cur : Int} {v : Value} {l : List TI} (h : IsT w p tag base cur v l) : RPost p tag v base cur l w w := ⟨v, h, h.self⟩

set_option maxRecDepth 100000 in
set_option maxHeartbeats 4000000 in
theorem rent_bad (p : Nat) (_tag _base _cur : Int) (_v : Value) (_l : List TI) (x0 x1 x2 : Int) (ex : Bool) (w : World) (hI : itemB (x0, x1, x2) = false) :
    Calls Tryz.prog 12 #[.pointer (some ⟨p, 0, none⟩), .int .i64 x0, .int .i64 x1, .int .i64 x2, .bool ex] w fun e w' => e = .returned (.int .i64 1) ∧ w = w' := by
  have K1 := Lib.hid (fun w => rgoodw_c x1 w)
  have HD : Hid ((decide (0 ≤ x0) && decide (x0 ≤ 1073741824) && goodB x1 && decide (-1125899906842624 ≤ x2) && decide (x2 ≤ 1125899906842624)) = false) := Lib.hid hI
  generalize goodB x1 = b1 at *
  clear hI
  by_cases h1 : 0 ≤ x0
  · by_cases h2 : x0 ≤ 1073741824
    · cases b1
      · clear HD
        go_enter Tryz.func12, Tryz.ntmps12
        go_wp2_with fail
        refine (K1.out _).mono ?_; rintro e w' ⟨rfl, rfl⟩
        go_wp2_with fail
        go_ret
        exact ⟨rfl, rfl⟩
      · by_cases h3 : x2 < -1125899906842624
        · clear HD
          go_enter Tryz.func12, Tryz.ntmps12
          go_wp2_with fail
          refine (K1.out _).mono ?_; rintro e w' ⟨rfl, rfl⟩
          go_wp2_with fail
          go_ret
          exact ⟨rfl, rfl⟩
        · have h4 : 1125899906842624 < x2 := by
            have := HD.out
            simp at this
            have := this h1 h2
            omega
          clear HD
          go_enter Tryz.func12, Tryz.ntmps12
          go_wp2_with fail
          refine (K1.out _).mono ?_; rintro e w' ⟨rfl, rfl⟩
          go_wp2_with fail
          go_ret
          exact ⟨rfl, rfl⟩
    · clear HD
      go_enter Tryz.func12, Tryz.ntmps12
      go_wp2_with fail
      go_ret
      exact ⟨rfl, rfl⟩
  · clear HD
    go_enter Tryz.func12, Tryz.ntmps12
    go_wp2_with fail
    go_ret
    exact ⟨rfl, rfl⟩

/-- What a good item is. -/
theorem item_parts {x0 x1 x2 : Int} (h : itemB (x0, x1, x2) = true) : 0 ≤ x0 ∧ x0 ≤ 1073741824 ∧ goodB x1 = true ∧ -1125899906842624 ≤ x2 ∧ x2 ≤ 1125899906842624 := by
  have h1 := itemB_true.1 h
  exact ⟨h1.1, h1.2.1, goodB_true.2 h1.2.2.1, h1.2.2.2⟩
set_option maxRecDepth 100000 in
set_option maxHeartbeats 4000000 in
theorem rent_old (p : Nat) (tag base cur : Int) (v : Value) (l : List TI) (x0 x1 x2 : Int) (ex : Bool) (w : World) (h : IsT w p tag base cur v l) (hl : l.length ≤ 1000000) (hI : itemB (x0, x1, x2) = true) (hk : 0 ≤ atT x0 l 0 ∨ 64 ≤ l.length) :
    Calls Tryz.prog 12 #[.pointer (some ⟨p, 0, none⟩), .int .i64 x0, .int .i64 x1, .int .i64 x2, .bool ex] w fun e w' => e = .returned (.int .i64 (if 0 ≤ atT x0 l 0 then 4 else 3)) ∧ w = w' := by
  obtain ⟨h1, h2, h3, h4, h5⟩ := item_parts hI
  have k1 := fun w => rgoodw_c x1 w
  rw [h3] at k1
  have K1 := Lib.hid k1
  have KA := Lib.hid (rat_c p tag base cur x0 v l w h hl)
  obtain ⟨-, -, -, c3⟩ := h.cells
  obtain ⟨A, c, rfl⟩ := h.2.1.form
  generalize l.length = n at *
  generalize atT x0 l 0 = at0 at *
  clear h hI h3 k1
  by_cases hat : 0 ≤ at0
  · rw [if_pos hat]
    clear hk
    go_enter Tryz.func12, Tryz.ntmps12
    go_wp2_with fail
    refine (K1.out _).mono ?_; rintro e w' ⟨rfl, rfl⟩
    go_wp2_with fail
    refine KA.out.mono ?_; rintro e w' ⟨rfl, rfl⟩
    go_wp2_with fail
    go_ret
    exact ⟨rfl, rfl⟩
  · rw [if_neg hat]
    have hn : (64 : Int) ≤ (n : Int) := by omega
    clear hk
    go_enter Tryz.func12, Tryz.ntmps12
    go_wp2_with fail
    refine (K1.out _).mono ?_; rintro e w' ⟨rfl, rfl⟩
    go_wp2_with fail
    refine KA.out.mono ?_; rintro e w' ⟨rfl, rfl⟩
    go_wp2_with fail
    go_ret
    exact ⟨rfl, rfl⟩
end Go.Proofs.YtandmngfajoinaaGreat

namespace Go.Proofs.YtandmngfajoinaaGreat
open Go.RowKit

/-- The first of the least. -/
def FirstT (l : List TI) (b : Nat) (x : TI) : Prop := l[b]? = some x ∧ (∀ y ∈ l, x.2.2.1 ≤ y.2.2.1) ∧ ∀ j y, j < b → l[j]? = some y → x.2.2.1 < y.2.2.1
def BestAt (l : List TI) (i b : Nat) : Prop := ∃ x, l[b]? = some x ∧ (∀ j y, j < i → l[j]? = some y → x.2.2.1 ≤ y.2.2.1) ∧ (∀ j y, j < b → l[j]? = some y → x.2.2.1 < y.2.2.1) ∧ (b < i ∨ b = 0)
theorem BestAt.start {l : List TI} (h : 0 < l.length) : BestAt l 0 0 := ⟨l[0], List.getElem?_eq_getElem h, fun j y hj => by omega, fun j y hj => by omega, .inr rfl⟩
theorem BestAt.skip {l : List TI} {i b : Nat} {x y : TI} (h : BestAt l i b) (hx : l[b]? = some x) (hy : l[i]? = some y) (hn : ¬ y.2.2.1 < x.2.2.1) : BestAt l (i + 1) b := by
  obtain ⟨x', h1, h2, h3, h4⟩ := h
  rw [hx] at h1
  obtain rfl := Option.some.inj h1
  refine ⟨x, hx, fun j z hj hz => ?_, h3, by omega⟩
  by_cases he : j = i
  · subst he
    rw [hy] at hz
    obtain rfl := Option.some.inj hz
    omega
  · exact h2 j z (by omega) hz
theorem BestAt.take {l : List TI} {i b : Nat} {x y : TI} (h : BestAt l i b) (hx : l[b]? = some x) (hy : l[i]? = some y) (hl : y.2.2.1 < x.2.2.1) : BestAt l (i + 1) i := by
  obtain ⟨x', h1, h2, h3, h4⟩ := h
  rw [hx] at h1
  obtain rfl := Option.some.inj h1
  have key : ∀ j z, j < i → l[j]? = some z → y.2.2.1 < z.2.2.1 := fun j z hj hz => by have := h2 j z hj hz; omega
  refine ⟨y, hy, fun j z hj hz => ?_, key, .inl (by omega)⟩
  by_cases he : j = i
  · subst he
    rw [hy] at hz
    obtain rfl := Option.some.inj hz
    omega
  · exact Int.le_of_lt (key j z (by omega) hz)
theorem BestAt.done {l : List TI} {b : Nat} {x : TI} (h : BestAt l l.length b) (hx : l[b]? = some x) : FirstT l b x := by
  obtain ⟨x', h1, h2, h3, h4⟩ := h
  rw [hx] at h1
  obtain rfl := Option.some.inj h1
  refine ⟨hx, fun y hy => ?_, h3⟩
  obtain ⟨j, hj⟩ := List.getElem?_of_mem hy
  exact h2 j y (List.getElem?_eq_some_iff.1 hj).1 hj

set_option maxRecDepth 100000 in
set_option maxHeartbeats 4000000 in
theorem rpick_nil (p : Nat) (tag base cur : Int) (v : Value) (w : World) (h : IsT w p tag base cur v []) :
    Calls Tryz.prog 18 #[.pointer (some ⟨p, 0, none⟩)] w fun e w' => e = .returned (.tuple #[.int .i64 0, .bool false]) ∧ RPost p tag v base (-1) [] w w' := by
  obtain ⟨c0, c1, c2, c3⟩ := h.cells
  have f2 := h.free 2
  have POST := Lib.hid (h.setC (-1))
  obtain ⟨A, c, rfl⟩ := h.2.1.form
  simp only [List.length_nil] at *
  clear h
  go_enter Tryz.func18, Tryz.ntmps18
  go_wp2_with fail
  go_ret2
  exact ⟨rfl, _, POST.out.1, POST.out.2⟩

set_option maxRecDepth 100000 in
set_option maxHeartbeats 8000000 in
theorem rpick_some (p : Nat) (base cur : Int) (v : Value) (l : List TI) (w : World) (h : IsT w p 0 base cur v l) (hl : l.length ≤ 1000000) (hne : l ≠ []) :
    Calls Tryz.prog 18 #[.pointer (some ⟨p, 0, none⟩)] w fun e w' => ∃ b x, FirstT l b x ∧ e = .returned (.tuple #[.int .i64 x.1, .bool true]) ∧ RPost p 0 v base x.1 l w w' := by
  obtain ⟨n, hn⟩ : ∃ n, l.length = n := ⟨_, rfl⟩
  have hn0 : 0 < n := by rw [← hn]; exact List.length_pos_iff.2 hne
  obtain ⟨c0, c1, c2, c3⟩ := h.cells
  have f2 := h.free 2
  have HS := Lib.hid (BestAt.start (l := l) (by omega))
  have HN := Lib.hid hn
  have HH := Lib.hid h
  obtain ⟨A, c, rfl⟩ := h.2.1.form
  rw [hn] at c3 hl
  have hnz : ((n : Int) == 0) = false := by simp; omega
  clear h hne hn
  go_enter Tryz.func18, Tryz.ntmps18
  go_wp2_with fail
  go_loopw [4, 6, 7, 8] (fun fb sm al iv wr => ∃ (i b q : Nat) (s a : Int), iv = .int .i64 i ∧ fb = .int .i64 b ∧ sm = .int .i64 s ∧ al = .int .i64 a ∧ i ≤ n ∧ b < n ∧ Hid (BestAt l i b) ∧ wr = w.drewN q) (fun _ _ _ iv _ => n - (intOf iv).toNat)
  case atStart => exact ⟨0, 0, 0, 0, 0, rfl, rfl, rfl, rfl, by omega, hn0, HS, rfl⟩
  case round =>
    clear HS
    obtain ⟨i, b, q, s, a, rfl, rfl, rfl, rfl, hi, hb, HB, rfl⟩ := hrel
    obtain ⟨x, hx⟩ : ∃ x, l[b]? = some x := ⟨_, List.getElem?_eq_getElem (by rw [HN.out]; exact hb)⟩
    obtain ⟨g, cc, hv, _, _, d0, -, d2, -⟩ := HH.out.2.1.get hx
    rw [HN.out] at hv
    injection hv with hv1 hv2 hv3
    subst hv1 hv3
    have HX := Lib.hid hx
    clear hx hv2
    have hb0 : (0 : Int) ≤ (b : Int) := by omega
    have hbn : (b : Int) < (n : Int) := by omega
    by_cases hlt : i < n
    · obtain ⟨y, hy⟩ : ∃ y, l[i]? = some y := ⟨_, List.getElem?_eq_getElem (by rw [HN.out]; exact hlt)⟩
      obtain ⟨g', cc', hv, _, _, t0, t1, t2, t3⟩ := HH.out.2.1.get hy
      rw [HN.out] at hv
      injection hv with hv1 hv2 hv3
      obtain rfl : g = g' := by injection hv1 with hv1; injection hv1
      have HY := Lib.hid hy
      have hin : (i : Int) < (n : Int) := by omega
      clear hy hv1 hv2 hv3 t0 t3
      by_cases hc : y.2.2.1 < x.2.2.1
      · have HNX := Lib.hid (HB.out.take HX.out HY.out hc)
        obtain ⟨x0, x1, xv, x3⟩ := x
        obtain ⟨y0, y1, yv, y3⟩ := y
        simp only at d0 d2 t1 t2 hc
        go_wp2_with fail
        go_big_quiet (fail)
        go_wp2_with fail
        go_big_quiet (fail)
        go_wp2_with fail
        go_roundw
        case rel => exact ⟨i + 1, i, _, _, _, by go_num, rfl, rfl, rfl, by omega, hlt, HNX, rfl⟩
        case measure => simp [intOf]; omega
      · have HNX := Lib.hid (HB.out.skip HX.out HY.out hc)
        obtain ⟨x0, x1, xv, x3⟩ := x
        obtain ⟨y0, y1, yv, y3⟩ := y
        simp only at d0 d2 t1 t2 hc
        go_wp2_with fail
        go_big_quiet (fail)
        go_wp2_with fail
        go_big_quiet (fail)
        go_wp2_with fail
        go_roundw
        case rel => exact ⟨i + 1, b, _, _, _, by go_num, rfl, rfl, rfl, by omega, hb, HNX, rfl⟩
        case measure => simp [intOf]; omega
    · obtain rfl : i = n := by omega
      have hd := HB.out
      rw [← HN.out] at hd
      have HD := Lib.hid (hd.done HX.out)
      clear hd HB
      obtain ⟨w1, hw1⟩ : ∃ w1, w.drewN q = w1 := ⟨_, rfl⟩
      have hq1 : IsT w1 p 0 base cur (.slice (some ⟨g, 0, none⟩) l.length c) l := by rw [← hw1]; exact HH.out
      have HT1 : Hid (Trip (TOf p (.slice (some ⟨g, 0, none⟩) l.length c)) w (TOf p (.slice (some ⟨g, 0, none⟩) l.length c)) w1) := Lib.hid (by rw [← hw1]; exact tripN HH.out.self q)
      obtain ⟨u0, u1, u2, u3⟩ := hq1.cells
      rw [HN.out] at u3
      have g2 := hq1.free 2
      have ud : w1.cell? ⟨g, b * 4, none⟩ = some (.int .i64 x.1) := by rw [← hw1]; exact d0
      have pst := hq1.setC x.1
      have v2 := pst.1.cells.2.2.1
      have POST := Lib.hid pst
      rw [hw1]
      clear hw1 hq1 c0 c1 c2 c3 f2 d0 d2 pst
      obtain ⟨x0, x1, xv, x3⟩ := x
      simp only at ud v2 POST
      go_wp2_with fail
      go_ret2
      exact ⟨_, _, HD.out, rfl, _, POST.out.1, HT1.out.trans POST.out.2⟩
end Go.Proofs.YtandmngfajoinaaGreat
