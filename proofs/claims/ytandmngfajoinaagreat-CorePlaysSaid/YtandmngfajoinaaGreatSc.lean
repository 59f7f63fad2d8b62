/- The queue of points: what it is in; lag, point, GoodLag, mayEnter, Least, raise. -/
import Derived.Test.YtandmngfajoinaaGreatSb
namespace Go.Proofs.YtandmngfajoinaaGreat
open Go.RowKit Go.Maps

/-- Block s is a queue of points: its base, who runs, its queue, its map. -/
def SBox (w : World) (s : Nat) (base cur : Int) (b mw : Nat) : Prop :=
  w.heap[s]? = some (.cells #[.int .i64 base, .int .i64 cur, .pointer (some ⟨b, 0, none⟩), .map (some mw)] 128 (0, 0))
theorem SBox.lt {w : World} {s : Nat} {base cur : Int} {b mw : Nat} (h : SBox w s base cur b mw) : s < w.heap.size := (Array.getElem?_eq_some_iff.1 h).1
theorem SBox.cells {w : World} {s : Nat} {base cur : Int} {b mw : Nat} (h : SBox w s base cur b mw) :
    w.cell? ⟨s, 0, none⟩ = some (.int .i64 base) ∧ w.cell? ⟨s, 1, none⟩ = some (.int .i64 cur) ∧ w.cell? ⟨s, 2, none⟩ = some (.pointer (some ⟨b, 0, none⟩)) ∧ w.cell? ⟨s, 3, none⟩ = some (.map (some mw)) ∧ w.frozen? ⟨s, 0, none⟩ = false ∧ w.frozen? ⟨s, 1, none⟩ = false := by
  refine ⟨?_, ?_, ?_, ?_, ?_, ?_⟩ <;> simp [World.cell?, World.frozen?, show w.heap[s]? = _ from h]
theorem SBox.keep {w w' : World} {s : Nat} {base cur : Int} {b mw : Nat} (h : SBox w s base cur b mw) (hs : w'.heap[s]? = w.heap[s]?) : SBox w' s base cur b mw := hs.trans h
theorem SBox.set0 {w : World} {s : Nat} {base cur : Int} {b mw : Nat} (h : SBox w s base cur b mw) (z : Int) : SBox (w.setCell ⟨s, 0, none⟩ (.int .i64 z)) s z cur b mw := setCell_q (i := 0) _ h
theorem SBox.set1 {w : World} {s : Nat} {base cur : Int} {b mw : Nat} (h : SBox w s base cur b mw) (z : Int) : SBox (w.setCell ⟨s, 1, none⟩ (.int .i64 z)) s base z b mw := setCell_q (i := 1) _ h

structure IsS (w : World) (s b mp mw : Nat) (v : Value) (st base cur : Int) (L : List QI) (R : List RI) : Prop where
  box : SBox w s base cur b mw
  q : IsQ w b 64 st L v mp
  wm : WMap w mw (wL R)
  perm : L.Perm (pL R)
  wf : WfS base cur R
  n1 : s ≠ mw
  n2 : ¬ QOf b v mp s
  n3 : ¬ QOf b v mp mw
def SOf (s b mp mw : Nat) (v : Value) (k : Nat) : Prop := k = s ∨ k = mw ∨ QOf b v mp k
section
variable {w w' : World} {s b mp mw : Nat} {v : Value} {st base cur : Int} {L : List QI} {R : List RI}
theorem IsS.lt (h : IsS w s b mp mw v st base cur L R) : ∀ k, SOf s b mp mw v k → k < w.heap.size := by
  rintro k (rfl | rfl | hk)
  · exact h.box.lt
  · exact h.wm.lt
  · exact h.q.lt k hk
theorem IsS.keep (h : IsS w s b mp mw v st base cur L R) (hs : ∀ k, SOf s b mp mw v k → w'.heap[k]? = w.heap[k]?) : IsS w' s b mp mw v st base cur L R :=
  ⟨h.box.keep (hs s (.inl rfl)), h.q.keep (fun k hk => hs k (.inr (.inr hk))), h.wm.keep (hs mw (.inr (.inl rfl))), h.perm, h.wf, h.n1, h.n2, h.n3⟩
theorem IsS.below (h : IsS w s b mp mw v st base cur L R) (hb : Below w.heap.size w w') : IsS w' s b mp mw v st base cur L R := h.keep (fun k hk => hb.block k (h.lt k hk))
theorem IsS.len (h : IsS w s b mp mw v st base cur L R) : L.length ≤ 64 := by rw [perm_len h.perm]; exact h.wf.len
theorem IsS.id64 (h : IsS w s b mp mw v st base cur L R) {r : RI} (hr : r ∈ R) : wf64 r.1 ∧ wf64 r.2.1 ∧ wf64 r.2.2 := by
  have := h.wf.each r hr
  have e1 : IntKind.i64.min = -9223372036854775808 := by decide
  have e2 : IntKind.i64.max = 9223372036854775807 := by decide
  refine ⟨?_, ?_, ?_⟩ <;> simp only [wf64, Lit.wf, e1, e2, Bool.and_eq_true, decide_eq_true_eq] <;> omega
theorem wf64_of {a : Int} (h1 : -9223372036854775808 ≤ a) (h2 : a ≤ 9223372036854775807) : wf64 a := by
  have e1 : IntKind.i64.min = -9223372036854775808 := by decide
  have e2 : IntKind.i64.max = 9223372036854775807 := by decide
  simp only [wf64, Lit.wf, e1, e2, Bool.and_eq_true, decide_eq_true_eq]
  omega
/-- What is left behind a call. -/
def SPost (s b mp mw : Nat) (v : Value) (st base cur : Int) (R : List RI) (K : Nat) (w w' : World) : Prop :=
  ∃ v' L', ∃ k : Nat, k ≤ K ∧ IsS w' s b mp mw v' (st + (k : Int)) base cur L' R ∧ Trip (SOf s b mp mw v) w (SOf s b mp mw v') w'
theorem IsS.self (h : IsS w s b mp mw v st base cur L R) (hb : Below w.heap.size w w') : Trip (SOf s b mp mw v) w (SOf s b mp mw v) w' := below_trip hb h.lt
theorem SPost.same {K : Nat} (h : IsS w s b mp mw v st base cur L R) (hb : Below w.heap.size w w') : SPost s b mp mw v st base cur R K w w' :=
  ⟨v, L, 0, Nat.zero_le _, by simpa using h.below hb, h.self hb⟩
theorem IsS.set0 (h : IsS w s b mp mw v st base cur L R) {z : Int} (hw : WfS z cur R) : IsS (w.setCell ⟨s, 0, none⟩ (.int .i64 z)) s b mp mw v st z cur L R := by
  have ho : ∀ k, k ≠ s → (w.setCell ⟨s, 0, none⟩ (.int .i64 z)).heap[k]? = w.heap[k]? := fun k hk => Below.heap_setCell w _ _ k hk
  exact ⟨h.box.set0 z, h.q.keep (fun k hk => ho k (fun e => h.n2 (e ▸ hk))), h.wm.keep (ho mw (fun e => h.n1 e.symm)), h.perm, hw, h.n1, h.n2, h.n3⟩
theorem IsS.set1 (h : IsS w s b mp mw v st base cur L R) {z : Int} (hw : z = -1 ∨ hasI R z = true) : IsS (w.setCell ⟨s, 1, none⟩ (.int .i64 z)) s b mp mw v st base z L R := by
  have ho : ∀ k, k ≠ s → (w.setCell ⟨s, 1, none⟩ (.int .i64 z)).heap[k]? = w.heap[k]? := fun k hk => Below.heap_setCell w _ _ k hk
  exact ⟨h.box.set1 z, h.q.keep (fun k hk => ho k (fun e => h.n2 (e ▸ hk))), h.wm.keep (ho mw (fun e => h.n1 e.symm)), h.perm, h.wf.wf z hw, h.n1, h.n2, h.n3⟩
theorem Trip.setS {A : Nat → Prop} {W w : World} {s i : Nat} {u : Value} (h : Trip A W (SOf s b mp mw v) w) : Trip A W (SOf s b mp mw v) (w.setCell ⟨s, i, none⟩ u) :=
  ⟨h.os, h.tape, h.output, by simp [World.setCell]; exact h.size, fun k hk hn => (Below.heap_setCell w _ u k (fun e => by
      have e' : k = s := e
      rcases h.sub s (.inl rfl) with h1 | h1
      · exact hn (e' ▸ h1)
      · omega)).trans (h.block k hk hn), h.sub, fun k hk => by simp [World.setCell]; exact h.bd k hk⟩

set_option maxHeartbeats 1000000 in
theorem spoint_c (lag : Int) (w : World) (h : SBox w s base cur b mw) (h1 : -4000000000000000000 ≤ base) (h2 : base ≤ 4000000000000000000) (h3 : -1125899906842624 ≤ lag) (h4 : lag ≤ 1125899906842624) :
    Calls Tryz.prog 79 #[.pointer (some ⟨s, 0, none⟩), .int .i64 lag] w fun e w' => e = .returned (.int .i64 (base - lag)) ∧ w = w' := by
  obtain ⟨c0, -, -, -, -, -⟩ := h.cells
  have hw1 : IntKind.i64.wrap (base - lag) = base - lag := by rw [IntKind.wrap_i64]; omega
  have hw2 : IntKind.i64.wrap (9223372036854775807 + lag) = 9223372036854775807 + lag ∨ ¬ lag < 0 := by rw [IntKind.wrap_i64]; omega
  by_cases hl : lag < 0
  · have hw3 : IntKind.i64.wrap (9223372036854775807 + lag) = 9223372036854775807 + lag := by rcases hw2 with h | h; exact h; exact absurd hl h
    obtain ⟨t, ht⟩ : ∃ t, (9223372036854775807 : Int) + lag = t := ⟨_, rfl⟩
    have hd : decide (t < base) = false := by simp; omega
    rw [ht] at hw3
    clear h h1 h2 h3 h4 hw2
    go_enter Tryz.func79, Tryz.ntmps79
    go_wp2
    go_ret
    exact ⟨rfl, rfl⟩
  · clear h h1 h2 h3 h4 hw2
    go_enter Tryz.func79, Tryz.ntmps79
    go_wp2
    go_ret
    exact ⟨rfl, rfl⟩

set_option maxHeartbeats 1000000 in
theorem slag_c (key : Int) (w : World) (h : SBox w s base cur b mw) (h1 : -4000000000000000000 ≤ base) (h2 : base ≤ 4000000000000000000) (h3 : -4000000000000000000 ≤ key) (h4 : key ≤ 4000000000000000000) :
    Calls Tryz.prog 141 #[.pointer (some ⟨s, 0, none⟩), .int .i64 key] w fun e w' => e = .returned (.int .i64 (base - key)) ∧ w = w' := by
  obtain ⟨c0, -, -, -, -, -⟩ := h.cells
  have hw1 : IntKind.i64.wrap (base - key) = base - key := by rw [IntKind.wrap_i64]; omega
  clear h h1 h2 h3 h4
  go_enter Tryz.func141, Tryz.ntmps141
  go_wp2_with fail
  go_ret
  exact ⟨rfl, rfl⟩

/-- A cell of two that is to be written. -/
theorem two_cells {w : World} {r : Nat} {t : TypeId} {a b : Value} (h : w.heap[r]? = some (.cells #[a, b] t (0, 0))) (x : Value) :
    w.cell? ⟨r, 0, none⟩ = some a ∧ w.frozen? ⟨r, 0, none⟩ = false ∧ (w.setCell ⟨r, 0, none⟩ x).cell? ⟨r, 1, none⟩ = some b ∧ (w.setCell ⟨r, 0, none⟩ x).frozen? ⟨r, 1, none⟩ = false := by
  have h2 := setCell_q (i := 0) x h
  refine ⟨?_, ?_, ?_, ?_⟩ <;> simp [World.cell?, World.frozen?, h, h2]
/-- What GoodLag answers. -/
def lagB (lag : Int) : Bool := decide (-1125899906842624 ≤ lag) && decide (lag ≤ 1125899906842624)
set_option maxHeartbeats 1000000 in
theorem goodlag_c (lag : Int) (w : World) :
    Calls Tryz.prog 132 #[.int .i64 lag] w fun e w' => e = .returned (.bool (lagB lag)) ∧ w = w' := by
  have HD : Hid (lagB lag = (decide (-1125899906842624 ≤ lag) && decide (lag ≤ 1125899906842624))) := Lib.hid rfl
  generalize lagB lag = r at *
  by_cases h1 : -1125899906842624 ≤ lag
  · go_enter Tryz.func132, Tryz.ntmps132
    go_wp2_with fail
    all_goals
      go_ret
      exact ⟨ret_b (by rw [HD.out]; first | (simp [*]; done) | (simp; omega)), rfl⟩
  · go_enter Tryz.func132, Tryz.ntmps132
    go_wp2_with fail
    go_ret
    exact ⟨ret_b (by rw [HD.out]; simp; omega), rfl⟩

set_option maxRecDepth 100000 in
set_option maxHeartbeats 2000000 in
theorem smay_c (x0 x1 x2 : Int) (w : World) :
    Calls Tryz.prog 146 #[.agg #[.int .i64 x0, .int .i64 x1, .int .i64 x2]] w (Ret10 (.bool (itemB (x0, x1, x2))) w) := by
  have K1 := Lib.hid (fun w => wgood_c x1 w)
  have K2 := Lib.hid (fun w => goodlag_c x2 w)
  have HB := Lib.hid ((Below.refl _ w).alloc (Nat.le_refl _) (.cells #[.int .i64 x0, .int .i64 x1, .int .i64 x2] 69))
  have HD : Hid (itemB (x0, x1, x2) = (decide (0 ≤ x0) && decide (x0 ≤ 1073741824) && goodB x1 && lagB x2)) := Lib.hid (by unfold itemB lagB; simp only [Bool.and_assoc])
  generalize goodB x1 = b1 at *
  generalize lagB x2 = b2 at *
  generalize itemB (x0, x1, x2) = r at *
  by_cases h1 : 0 ≤ x0
  · by_cases h2 : x0 ≤ 1073741824
    · go_enter Tryz.func146, Tryz.ntmps146
      go_wp2_with fail
      refine (K1.out _).mono ?_; rintro e w' ⟨rfl, rfl⟩
      cases b1
      · go_wp2_with fail
        go_ret
        exact ⟨by rw [HD.out]; simp, HB.out⟩
      · go_wp2_with fail
        refine (K2.out _).mono ?_; rintro e w' ⟨rfl, rfl⟩
        go_wp2_with fail
        go_ret
        exact ⟨by rw [HD.out]; simp [h1, h2], HB.out⟩
    · go_enter Tryz.func146, Tryz.ntmps146
      go_wp2_with fail
      go_ret
      exact ⟨by rw [HD.out]; simp; omega, HB.out⟩
  · go_enter Tryz.func146, Tryz.ntmps146
    go_wp2_with fail
    go_ret
    exact ⟨by rw [HD.out]; simp; omega, HB.out⟩

set_option maxHeartbeats 1000000 in
/-- The least of all. -/
theorem sleast_c (w : World) (h : IsS w s b mp mw v st base cur L R) :
    Calls Tryz.prog 144 #[.pointer (some ⟨s, 0, none⟩)] w fun e w' => e = .returned (.tuple #[.agg (encQ (if R = [] then (((0, 0), false) : QI × Bool) else (minR R, true)).1).toArray, .bool (if R = [] then (((0, 0), false) : QI × Bool) else (minR R, true)).2]) ∧ Below w.heap.size w w' := by
  have hb1 : Below w.heap.size w (w.alloc (.cells #[.int .i64 0, .int .i64 0] 136)) := (Below.refl _ w).alloc (Nat.le_refl _) _
  have hnew := World.alloc_heap_new w (.cells #[.int .i64 0, .int .i64 0] 136)
  obtain ⟨w1, hw1⟩ : ∃ w1, w.alloc (.cells #[.int .i64 0, .int .i64 0] 136) = w1 := ⟨_, rfl⟩
  have hs1 : w1.heap.size = w.heap.size + 1 := by rw [← hw1]; simp
  rw [hw1] at hb1 hnew
  have h1 := h.below hb1
  obtain ⟨-, -, c2, -, -, -⟩ := h1.box.cells
  have KM := Lib.hid (qmin_c b mp 64 st v L w1 h1.q (by have := h.len; omega))
  rw [perm_min h.perm h.q.ord] at KM
  have FIN : Hid (∀ (w2 : World) (x y : Value), Below w1.heap.size w1 w2 → (set2 w2 w.heap.size x y).heap[w.heap.size]? = some (.cells #[x, y] 136 (0, 0)) ∧ Below w.heap.size w (set2 w2 w.heap.size x y)) := Lib.hid (fun w2 x y hb =>
    ⟨set2_same x y ((hb.block _ (by omega)).trans hnew), below_set2 x y (hb1.trans (hb.mono (by omega))) (Nat.le_refl _)⟩)
  generalize (if R = [] then (((0, 0), false) : QI × Bool) else (minR R, true)) = z at *
  obtain ⟨⟨z0, z1⟩, z2⟩ := z
  simp only [encQ] at KM ⊢
  have HN := Lib.hid hnew
  clear h h1 hb1 hnew
  go_enter Tryz.func144, Tryz.ntmps144
  go_wp2_with fail
  refine KM.out.mono ?_
  rintro e w2 ⟨rfl, hb⟩
  have HF := Lib.hid (FIN.out w2 (.int .i64 z0) (.int .i64 z1) hb)
  obtain ⟨t0, t1, t2, t3⟩ := two_cells ((hb.block _ (by omega)).trans HN.out) (.int .i64 z0)
  clear hb KM FIN
  go_wp2_with fail
  refine bodyPost_ret (item_results _ 2 3 rfl _ w.heap.size #[.int .i64 z0, .int .i64 z1] z2 _ rfl rfl rfl HF.out.1) rfl ?_
  exact ⟨rfl, HF.out.2⟩

set_option maxRecDepth 100000 in
set_option maxHeartbeats 2000000 in
theorem sraise_c (w : World) (h : IsS w s b mp mw v st base cur L R) :
    Calls Tryz.prog 140 #[.pointer (some ⟨s, 0, none⟩)] w fun e w' => e = .returned (.tuple #[]) ∧ IsS w' s b mp mw v st (raiseM base R) cur L R ∧ Trip (SOf s b mp mw v) w (SOf s b mp mw v) w' := by
  have KM := Lib.hid (sleast_c w h)
  have hwf := h.wf.raise
  have H := Lib.hid h
  by_cases hR : R = []
  · have hr : raiseM base R = base := by unfold raiseM; rw [if_pos hR]
    rw [if_pos hR] at KM
    rw [hr]
    clear h hwf hr hR
    go_enter Tryz.func140, Tryz.ntmps140
    go_wp2_with fail
    refine KM.out.mono ?_
    rintro e w1 ⟨rfl, hb⟩
    have HB := Lib.hid hb
    have hs := hb.size
    simp only [encQ]
    clear hb KM
    go_wp2_with fail
    go_end0
    have hb2 := HB.out.alloc hs (.cells #[.int .i64 0, .int .i64 0] 136)
    exact ⟨rfl, H.out.below hb2, H.out.self hb2⟩
  · have hr : raiseM base R = max base (minR R).1 := by unfold raiseM; rw [if_neg hR]
    rw [if_neg hR] at KM
    rw [hr] at hwf ⊢
    generalize minR R = m at *
    obtain ⟨k0, k1⟩ := m
    simp only at hwf ⊢
    have HW := Lib.hid hwf
    clear h hwf hr hR
    go_enter Tryz.func140, Tryz.ntmps140
    go_wp2_with fail
    refine KM.out.mono ?_
    rintro e w1 ⟨rfl, hb⟩
    have HB := Lib.hid hb
    have hs := hb.size
    simp only [encQ]
    clear hb KM
    go_wp2_with fail
    have HB2 := Lib.hid (HB.out.alloc hs (.cells #[.int .i64 k0, .int .i64 k1] 136))
    obtain ⟨w2, hw2⟩ : ∃ w2, w1.alloc (.cells #[.int .i64 k0, .int .i64 k1] 136) = w2 := ⟨_, rfl⟩
    have d0 : w2.cell? ⟨w1.heap.size, 0, none⟩ = some (.int .i64 k0) := by rw [← hw2]; simp
    rw [hw2] at HB2 ⊢
    have H2 := Lib.hid (H.out.below HB2.out)
    obtain ⟨c0, -, c2', -, f0, -⟩ := H2.out.box.cells
    clear hw2 HB
    go_still_tail 10, (by kernel_rfl)
    change wpList _ _ _ _ _ w2.drew
    go_wp2_with fail
    · go_end0
      have hm : max base k0 = k0 := by omega
      rw [hm] at HW ⊢
      exact ⟨rfl, (H2.out.set0 HW.out).below (Below.refl _ _).drew, (H.out.self HB2.out).setS.drew⟩
    · go_end0
      have hm : max base k0 = base := by omega
      rw [hm] at HW ⊢
      exact ⟨rfl, (H2.out.set0 HW.out).below (Below.refl _ _).drew, (H.out.self HB2.out).setS.drew⟩
end
end Go.Proofs.YtandmngfajoinaaGreat
