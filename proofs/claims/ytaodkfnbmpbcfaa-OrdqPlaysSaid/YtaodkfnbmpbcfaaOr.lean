/- Queues: keys put in by their places; those above a key are the last. -/
import Derived.Test.YtaodkfnbmpbcfaaOq
namespace Go.Proofs.Ytaodkfnbmpbcfaa
open Go.RowKit

/-- The first k keys, put in by their places. -/
def qsTo (l : List Int) : Nat → List QI
  | 0 => []
  | k + 1 => insL (qsTo l k) (l.getD k 0, (k : Int))
theorem qsTo_mem {l : List Int} : ∀ {k : Nat} {z : QI}, z ∈ qsTo l k ↔ ∃ j : Nat, j < k ∧ z = (l.getD j 0, (j : Int))
  | 0, z => by simp [qsTo]
  | k + 1, z => by
    rw [qsTo, mem_insL, qsTo_mem]
    constructor
    · rintro (rfl | ⟨j, h, rfl⟩)
      · exact ⟨k, by omega, rfl⟩
      · exact ⟨j, by omega, rfl⟩
    · rintro ⟨j, h, rfl⟩
      rcases Nat.lt_or_ge j k with h1 | h1
      · exact .inr ⟨j, h1, rfl⟩
      · obtain rfl : j = k := by omega
        exact .inl rfl
theorem qsTo_length (l : List Int) : ∀ k, (qsTo l k).length = k
  | 0 => rfl
  | k + 1 => by rw [qsTo, length_insL, qsTo_length l k]
theorem qsTo_new {l : List Int} {k : Nat} : ∀ z ∈ qsTo l k, z.2 ≠ (k : Int) := by
  intro z hz
  obtain ⟨j, h, rfl⟩ := qsTo_mem.1 hz
  show (j : Int) ≠ k
  omega
theorem putV_qs {l : List Int} {k : Nat} {most : Int} (hm : (k : Int) < most) : putV most (qsTo l k) (l.getD k 0, (k : Int)) = (0, qsTo l (k + 1)) := by
  unfold putV
  rw [keyV_no (id := ((l.getD k 0, (k : Int)) : QI).2) qsTo_new, if_neg (by simp), qsTo_length, if_neg (by omega)]
  rfl
theorem wf64_nat {k : Nat} (h : k ≤ 1000000) : wf64 (k : Int) := by unfold wf64; simp [Lit.wf, IntKind.min, IntKind.max, IntKind.signed, IntKind.bits]; omega
theorem getD_at {l : List Int} {k : Nat} (h : k < l.length) : l.getD k 0 = l[k] := by simp [h]

theorem overL_ins (L : List QI) (x : QI) (key : Int) : (overL (insL L x) key).length = (overL L key).length + (if key < x.1 then 1 else 0) := by
  induction L with
  | nil => by_cases h : key < x.1 <;> simp [insL, overL, h]
  | cons y ys ih =>
    unfold insL
    split
    · unfold overL at *
      by_cases h : key < y.1
      · simp only [List.filter_cons, h, decide_true, if_true, List.length_cons]
        omega
      · simp only [List.filter_cons, h, decide_false, Bool.false_eq_true, if_false]
        exact ih
    · unfold overL
      by_cases h : key < x.1
      · simp only [List.filter_cons, h, decide_true, if_true, List.length_cons]
      · simp only [List.filter_cons, h, decide_false, Bool.false_eq_true, if_false]; simp
theorem overL_all {L : List QI} {key : Int} (h : ∀ z ∈ L, key < z.1) : overL L key = L := by
  unfold overL
  exact List.filter_eq_self.2 (fun z hz => by simpa using h z hz)
theorem overL_last {L : List QI} (ho : Ord L) (key : Int) : overL L key = L.drop (L.length - (overL L key).length) := by
  induction L with
  | nil => rfl
  | cons y ys ih =>
    obtain ⟨h1, h2⟩ := List.pairwise_cons.1 ho
    by_cases h : key < y.1
    · have he : overL (y :: ys) key = y :: ys := overL_all (fun z hz => by
        rcases List.mem_cons.1 hz with rfl | hz
        · exact h
        · have := h1 z hz
          unfold befQ at this
          simp at this
          omega)
      rw [he, Nat.sub_self, List.drop_zero]
    · have he : overL (y :: ys) key = overL ys key := by unfold overL; simp [h]
      have hl := overL_length ys key
      rw [he, List.length_cons, show ys.length + 1 - (overL ys key).length = (ys.length - (overL ys key).length) + 1 by omega, List.drop_succ_cons]
      exact ih h2
theorem overL_mem {L : List QI} {key : Int} {i : Nat} {x : QI} (h : (overL L key)[i]? = some x) : key < x.1 := by
  have := List.mem_of_getElem? h
  unfold overL at this
  simpa using (List.mem_filter.1 this).2

/-- Two queues that were made since W. -/
def Q2In (W w : World) (b1 b2 : Nat) (most : Int) (S : Nat) (L1 L2 : List QI) : Prop :=
  ∃ v1 m1 s1 v2 m2 s2, IsQ w b1 most s1 L1 v1 m1 ∧ IsQ w b2 most s2 L2 v2 m2 ∧ 0 ≤ s1 ∧ s1 ≤ (S : Int) ∧ 0 ≤ s2 ∧ s2 ≤ (S : Int) ∧ (∀ k, QOf b1 v1 m1 k → W.heap.size ≤ k) ∧ (∀ k, QOf b2 v2 m2 k → W.heap.size ≤ k) ∧ (∀ k, QOf b1 v1 m1 k → ¬ QOf b2 v2 m2 k) ∧ Below W.heap.size W w
theorem Q2In.swap {W w : World} {b1 b2 : Nat} {most : Int} {S : Nat} {L1 L2 : List QI} (h : Q2In W w b1 b2 most S L1 L2) : Q2In W w b2 b1 most S L2 L1 := by
  obtain ⟨v1, m1, s1, v2, m2, s2, h1, h2, h3, h4, h5, h6, h7, h8, h9, h10⟩ := h
  exact ⟨v2, m2, s2, v1, m1, s1, h2, h1, h5, h6, h3, h4, h8, h7, fun k hk hk' => h9 k hk' hk, h10⟩
theorem Q2In.below {W w w' : World} {b1 b2 : Nat} {most : Int} {S : Nat} {L1 L2 : List QI} (h : Q2In W w b1 b2 most S L1 L2) (hb : Below w.heap.size w w') : Q2In W w' b1 b2 most S L1 L2 := by
  obtain ⟨v1, m1, s1, v2, m2, s2, h1, h2, h3, h4, h5, h6, h7, h8, h9, h10⟩ := h
  exact ⟨v1, m1, s1, v2, m2, s2, isQ_below h1 hb, isQ_below h2 hb, h3, h4, h5, h6, h7, h8, h9, h10.trans (hb.mono h10.size)⟩
theorem Q2In.frame {W w : World} {b1 b2 : Nat} {most : Int} {S : Nat} {L1 L2 : List QI} (h : Q2In W w b1 b2 most S L1 L2) : Below W.heap.size W w := by
  obtain ⟨v1, m1, s1, v2, m2, s2, h1, h2, h3, h4, h5, h6, h7, h8, h9, h10⟩ := h
  exact h10
/-- Of one of two. -/
theorem q2_of {W w : World} {b1 b2 : Nat} {most : Int} {S : Nat} {L1 L2 : List QI} (h : Q2In W w b1 b2 most S L1 L2) :
    ∃ F, QIn W w b1 most S L1 F ∧ (∀ w' S' L', QIn W w' b1 most S' L' F → (∀ k, F k → w'.heap[k]? = w.heap[k]?) → S ≤ S' → Q2In W w' b1 b2 most S' L' L2) := by
  obtain ⟨v1, m1, s1, v2, m2, s2, h1, h2, h3, h4, h5, h6, h7, h8, h9, h10⟩ := h
  refine ⟨QOf b2 v2 m2, ⟨v1, m1, s1, h1, h3, h4, h7, h10, fun k hk => ⟨h2.lt k hk, fun hq => h9 k hq hk⟩⟩, fun w' S' L' hq hk hS => ?_⟩
  obtain ⟨v, mp, s, g1, g2, g3, g4, g5, g6⟩ := hq
  exact ⟨v, mp, s, v2, m2, s2, g1, h2.keep hk, g2, g3, h5, by omega, g4, h8, fun k hq hk' => (g6 k hk').2 hq, g5⟩
theorem q2put {W w : World} {b1 b2 : Nat} {most : Int} {S : Nat} {L1 L2 : List QI} (x : QI) (h : Q2In W w b1 b2 most S L1 L2) (hk : wf64 x.1) (hi : wf64 x.2) (hL : L1.length ≤ 1000000) (hS : S ≤ 1000000000) :
    Calls Try.prog 8 #[.pointer (some ⟨b1, 0, none⟩), .int .i64 x.1, .int .i64 x.2] w fun e w' => e = .returned (.int .i64 (putV most L1 x).1) ∧ Q2In W w' b1 b2 most (S + 21) (putV most L1 x).2 L2 := by
  obtain ⟨F, hq, hb⟩ := q2_of h
  refine (qput_in x hq hk hi hL hS).mono ?_
  rintro e w' ⟨rfl, h1, h2⟩
  exact ⟨rfl, hb _ _ _ h1 h2 (by omega)⟩
theorem q2drop {W w : World} {b1 b2 : Nat} {most : Int} {S : Nat} {L1 L2 : List QI} {x : QI} {i : Nat} (h : Q2In W w b1 b2 most S L1 L2) (hx : L1[i]? = some x) (hL : L1.length ≤ 1000000) (hS : S ≤ 1000000000) :
    Calls Try.prog 10 #[.pointer (some ⟨b1, 0, none⟩), .int .i64 x.2] w fun e w' => e = .returned (.tuple #[.agg #[.int .i64 x.1, .int .i64 x.2], .bool true]) ∧ Q2In W w' b1 b2 most (S + 21) (L1.eraseIdx i) L2 := by
  obtain ⟨F, hq, hb⟩ := q2_of h
  refine (qdrop_in hq hx hL hS).mono ?_
  rintro e w' ⟨rfl, h1, h2⟩
  exact ⟨rfl, hb _ _ _ h1 h2 (by omega)⟩
theorem q2list {W w : World} {b1 b2 : Nat} {most : Int} {S : Nat} {L1 L2 : List QI} (h : Q2In W w b1 b2 most S L1 L2) (hL : L1.length ≤ 1000000) :
    Calls Try.prog 18 #[.pointer (some ⟨b1, 0, none⟩)] w fun e w' => ∃ v', e = .returned v' ∧ MadeQ w' w.heap.size v' L1 ∧ Q2In W w' b1 b2 most S L1 L2 ∧ Below w.heap.size w w' := by
  obtain ⟨F, hq, _⟩ := q2_of h
  refine (qlist_in hq hL).mono ?_
  rintro e w' ⟨v', rfl, hM, _, hP⟩
  exact ⟨v', rfl, hM, h.below hP, hP⟩
theorem q2new {W w w' : World} {b1 : Nat} {most : Int} (h : QIn W w b1 (clampQ most) 0 [] (fun _ => False)) :
    Calls Try.prog 6 #[.int .i64 most] w fun e w' => e = .returned (.pointer (some ⟨w.heap.size + 1, 0, none⟩)) ∧ Q2In W w' b1 (w.heap.size + 1) (clampQ most) 0 [] [] := by
  obtain ⟨v, mp, s, h1, h2, h3, h4, h5, h6⟩ := h
  refine (qnew_c most w).mono ?_
  rintro e w' ⟨rfl, g1, g2⟩
  have := h5.size
  refine ⟨rfl, v, mp, s, _, _, 0, isQ_below h1 g2, g1, h2, h3, by omega, by omega, h4, fun k hk => ?_, fun k hk hk' => ?_, h5.trans (g2.mono this)⟩
  · rcases hk with rfl | rfl | hk
    · omega
    · omega
    · simp [Value.ownBlock] at hk
  · have := h1.lt k hk
    rcases hk' with rfl | rfl | hk'
    · omega
    · omega
    · simp [Value.ownBlock] at hk'
end Go.Proofs.Ytaodkfnbmpbcfaa
