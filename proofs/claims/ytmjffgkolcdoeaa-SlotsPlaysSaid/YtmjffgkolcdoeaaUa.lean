/- The reference's Names: what they are in the heap; NewNames, Has, Free. -/
import Derived.Test.YtmjffgkolcdoeaaTh
namespace Go.Proofs.Ytmjffgkolcdoeaa
open Go.RowKit

/-- A place's turns so far, as the reference counts them. -/
def tnV (x : SL) : Nat := x.1 + if x.2 then 1 else 0
def turnsC (S : List SL) : List Value := S.map (fun x => Value.int .i64 (tnV x))
def outsC (S : List SL) : List Value := S.map (fun x => Value.bool x.2)
structure IsN (w : World) (p a o : Nat) (S : List SL) : Prop where
  box : w.heap[p]? = some (.cells #[.slice (some ⟨a, 0, none⟩) S.length S.length, .slice (some ⟨o, 0, none⟩) S.length S.length] 51 (0, 0))
  turns : w.heap[a]? = some (.cells (turnsC S).toArray 3 (0, 0))
  outs : w.heap[o]? = some (.cells (outsC S).toArray 4 (0, 0))
  pos : 1 ≤ S.length
  le : S.length ≤ 64
  n1 : p ≠ a
  n2 : p ≠ o
  n3 : a ≠ o
def NOf (p a o k : Nat) : Prop := k = p ∨ k = a ∨ k = o
theorem IsN.keep {w w' : World} {p a o : Nat} {S : List SL} (h : IsN w p a o S) (hk : ∀ k, NOf p a o k → w'.heap[k]? = w.heap[k]?) : IsN w' p a o S :=
  ⟨(hk p (.inl rfl)).trans h.box, (hk a (.inr (.inl rfl))).trans h.turns, (hk o (.inr (.inr rfl))).trans h.outs, h.pos, h.le, h.n1, h.n2, h.n3⟩
theorem IsN.lt {w : World} {p a o : Nat} {S : List SL} (h : IsN w p a o S) : ∀ k, NOf p a o k → k < w.heap.size := by
  rintro k (rfl | rfl | rfl)
  · exact (Array.getElem?_eq_some_iff.1 h.box).1
  · exact (Array.getElem?_eq_some_iff.1 h.turns).1
  · exact (Array.getElem?_eq_some_iff.1 h.outs).1
theorem IsN.below {w w' : World} {p a o : Nat} {S : List SL} (h : IsN w p a o S) (hb : Below w.heap.size w w') : IsN w' p a o S := h.keep fun k hk => hb.block k (h.lt k hk)
theorem IsN.c0 {w : World} {p a o : Nat} {S : List SL} (h : IsN w p a o S) : w.cell? ⟨p, 0, none⟩ = some (.slice (some ⟨a, 0, none⟩) S.length S.length) := by simp [World.cell?, h.box]
theorem IsN.c1 {w : World} {p a o : Nat} {S : List SL} (h : IsN w p a o S) : w.cell? ⟨p, 1, none⟩ = some (.slice (some ⟨o, 0, none⟩) S.length S.length) := by simp [World.cell?, h.box]
theorem IsN.ct {w : World} {p a o : Nat} {S : List SL} (h : IsN w p a o S) {k t : Nat} {c : Bool} (hx : S[k]? = some (t, c)) : w.cell? ⟨a, k, none⟩ = some (.int .i64 (tnV (t, c) : Nat)) := by
  simp [World.cell?, h.turns, turnsC, hx]
theorem IsN.co {w : World} {p a o : Nat} {S : List SL} (h : IsN w p a o S) {k t : Nat} {c : Bool} (hx : S[k]? = some (t, c)) : w.cell? ⟨o, k, none⟩ = some (.bool c) := by
  simp [World.cell?, h.outs, outsC, hx]
theorem IsN.ft {w : World} {p a o : Nat} {S : List SL} (h : IsN w p a o S) (k : Nat) : w.frozen? ⟨a, k, none⟩ = false := by simp [World.frozen?, h.turns]
theorem IsN.fo {w : World} {p a o : Nat} {S : List SL} (h : IsN w p a o S) (k : Nat) : w.frozen? ⟨o, k, none⟩ = false := by simp [World.frozen?, h.outs]

theorem info_boolN : (Try.prog.info? 4).map (fun i => (i.zero, i.size, i.bytes)) = some (some (.bool false), 1, 1) := by kernel_rfl
theorem made_rep (z : Value) (hz : z.cells = #[z]) (n : Nat) : madeCells z.cells (n * 1) = (List.replicate n z).toArray := by
  rw [hz, Nat.mul_one]
  have := toList_madeCells_one z n
  rw [← this]
def NewN (S : List SL) (W0 : World) (e : Ending) (w' : World) : Prop := ∃ p a o, e = .returned (.pointer (some ⟨p, 0, none⟩)) ∧ IsN w' p a o S ∧ (∀ k, NOf p a o k → W0.heap.size ≤ k) ∧ Below W0.heap.size W0 w'

theorem newN_fin {w : World} {n : Nat} (h1 : 1 ≤ n) (h2 : n ≤ 64) : NewN (List.replicate n (0, false)) w (.returned (.pointer (some ⟨w.heap.size + 2, 0, none⟩))) (((w.alloc (.cells (List.replicate n (Value.int .i64 0)).toArray 3)).alloc (.cells (List.replicate n (Value.bool false)).toArray 4)).alloc (.cells #[.slice (some ⟨w.heap.size, 0, none⟩) n n, .slice (some ⟨w.heap.size + 1, 0, none⟩) n n] 51)) := by
  obtain ⟨q0, q1, q2, q3⟩ := take_three w (.cells (List.replicate n (Value.int .i64 0)).toArray 3) (.cells (List.replicate n (Value.bool false)).toArray 4) (.cells #[.slice (some ⟨w.heap.size, 0, none⟩) n n, .slice (some ⟨w.heap.size + 1, 0, none⟩) n n] 51)
  refine ⟨w.heap.size + 2, w.heap.size, w.heap.size + 1, rfl, ⟨?_, ?_, ?_, by simpa using h1, by simpa using h2, by omega, by omega, by omega⟩, fun k hk => by unfold NOf at hk; omega, q0⟩
  · rw [q3]; simp
  · rw [q1]; simp [turnsC, tnV]
  · rw [q2]; simp [outsC]
theorem newN_fin' {w : World} {n : Nat} (h1 : 1 ≤ n) (h2 : n ≤ 64) : NewN (List.replicate n (0, false)) w (.returned (.pointer (some ⟨w.heap.size + 2, 0, none⟩))) (((w.alloc (.cells (List.replicate n (Value.bool false)).toArray 4)).alloc (.cells (List.replicate n (Value.int .i64 0)).toArray 3)).alloc (.cells #[.slice (some ⟨w.heap.size + 1, 0, none⟩) n n, .slice (some ⟨w.heap.size, 0, none⟩) n n] 51)) := by
  obtain ⟨q0, q1, q2, q3⟩ := take_three w (.cells (List.replicate n (Value.bool false)).toArray 4) (.cells (List.replicate n (Value.int .i64 0)).toArray 3) (.cells #[.slice (some ⟨w.heap.size + 1, 0, none⟩) n n, .slice (some ⟨w.heap.size, 0, none⟩) n n] 51)
  refine ⟨w.heap.size + 2, w.heap.size + 1, w.heap.size, rfl, ⟨?_, ?_, ?_, by simpa using h1, by simpa using h2, by omega, by omega, by omega⟩, fun k hk => by unfold NOf at hk; omega, q0⟩
  · rw [q3]; simp
  · rw [q2]; simp [turnsC, tnV]
  · rw [q1]; simp [outsC]
theorem NewN.drew {S : List SL} {w : World} {e : Ending} {w' : World} (h : NewN S w.drew e w') : NewN S w e w' := by
  obtain ⟨p, a, o, h1, h2, h3, h4⟩ := h
  exact ⟨p, a, o, h1, h2, h3, ((Below.refl _ w).drew).trans h4⟩

set_option maxRecDepth 100000 in
set_option maxHeartbeats 4000000 in
theorem newNames_c (most : Int) (w : World) :
    Calls Try.prog 15 #[.int .i64 most] w (NewN (List.replicate (clampS most) (0, false)) w) := by
  obtain ⟨i0, hi, hz0, hz1, hz2⟩ := info_parts info_intS
  obtain ⟨i1, ji, jz0, jz1, jz2⟩ := info_parts info_boolN
  obtain ⟨n, hn⟩ : ∃ n, clampS most = n := ⟨_, rfl⟩
  have hp := clampS_pos most
  rw [hn] at hp ⊢
  obtain ⟨hp1, hp2⟩ := hp
  have hm1 : ∀ w : World, (Instr.makeSlice 33 (.int .i64 (n : Int)) (.int .i64 (n : Int))).run Try.prog w = .ok (.slice (some ⟨w.heap.size, 0, none⟩) n n) (w.alloc (.cells (List.replicate n (Value.int .i64 0)).toArray 3)) := fun w => by
    have := run_make w 33 3 i0 (.int .i64 0) Try.underlying33 hi hz0 .i64 .i64 (n : Int) (n : Int) (by omega) (Int.le_refl _) (by rw [hz2]; omega) (by omega)
    rw [hz1, Int.toNat_natCast, made_rep _ rfl] at this
    exact this
  have hm2 : ∀ w : World, (Instr.makeSlice 49 (.int .i64 (n : Int)) (.int .i64 (n : Int))).run Try.prog w = .ok (.slice (some ⟨w.heap.size, 0, none⟩) n n) (w.alloc (.cells (List.replicate n (Value.bool false)).toArray 4)) := fun w => by
    have := run_make w 49 4 i1 (.bool false) Try.underlying49 ji jz0 .i64 .i64 (n : Int) (n : Int) (by omega) (Int.le_refl _) (by rw [jz2]; omega) (by omega)
    rw [jz1, Int.toNat_natCast, made_rep _ rfl] at this
    exact this
  have F1 := Lib.hid (newN_fin (w := w.drew) hp1 hp2)
  have F2 := Lib.hid (newN_fin' (w := w.drew) hp1 hp2)
  clear hi hz0 hz1 hz2 ji jz0 jz1 jz2
  by_cases h1 : most < 1
  · obtain rfl : n = 1 := by rw [← hn]; unfold clampS; rw [if_pos h1]
    clear hn
    replace hm1 : ∀ w : World, (Instr.makeSlice 33 (.int .i64 1) (.int .i64 1)).run Try.prog w = .ok (.slice (some ⟨w.heap.size, 0, none⟩) 1 1) (w.alloc (.cells (List.replicate 1 (Value.int .i64 0)).toArray 3)) := hm1
    replace hm2 : ∀ w : World, (Instr.makeSlice 49 (.int .i64 1) (.int .i64 1)).run Try.prog w = .ok (.slice (some ⟨w.heap.size, 0, none⟩) 1 1) (w.alloc (.cells (List.replicate 1 (Value.bool false)).toArray 4)) := hm2
    go_enter Try.func15, Try.ntmps15
    go_wp2_with fail
    go_region
    all_goals
      go_wp2_with fail
      go_ret
      first | exact F1.out.drew | exact F2.out.drew
  · by_cases h2 : 64 < most
    · obtain rfl : n = 64 := by rw [← hn]; unfold clampS; rw [if_neg h1, if_pos h2]
      clear hn
      replace hm1 : ∀ w : World, (Instr.makeSlice 33 (.int .i64 64) (.int .i64 64)).run Try.prog w = .ok (.slice (some ⟨w.heap.size, 0, none⟩) 64 64) (w.alloc (.cells (List.replicate 64 (Value.int .i64 0)).toArray 3)) := hm1
      replace hm2 : ∀ w : World, (Instr.makeSlice 49 (.int .i64 64) (.int .i64 64)).run Try.prog w = .ok (.slice (some ⟨w.heap.size, 0, none⟩) 64 64) (w.alloc (.cells (List.replicate 64 (Value.bool false)).toArray 4)) := hm2
      go_enter Try.func15, Try.ntmps15
      go_wp2_with fail
      go_region
      all_goals
        go_wp2_with fail
        go_ret
        first | exact F1.out.drew | exact F2.out.drew
    · obtain rfl : most = n := by rw [← hn]; unfold clampS; rw [if_neg h1, if_neg h2]; omega
      clear hn
      go_enter Try.func15, Try.ntmps15
      go_wp2_with fail
      go_region
      all_goals
        go_wp2_with fail
        go_ret
        first | exact F1.out.drew | exact F2.out.drew
end Go.Proofs.Ytmjffgkolcdoeaa
