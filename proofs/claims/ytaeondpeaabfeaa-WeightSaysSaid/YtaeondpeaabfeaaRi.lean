/- The contract of the reference's Div: the first loop's state. -/
import Derived.Test.YtaeondpeaabfeaaRh
import Derived.Deep.LoopGhost
namespace Go.Proofs.Ytaeondpeaabfeaa
open Go.RowKit

theorem info_row : (Try.prog.info? 30).map (fun i => (i.zero, i.size, i.bytes)) = some (some (.slice none 0 0), 1, 24) := by kernel_rfl

/-- The rows' values: the i-th is D times 2^i. -/
def Pows (D : Int) (ls : List (List Int)) : Prop := ∀ i l, ls[i]? = some l → val l = D * 2 ^ i ∧ Dig l ∧ l.length ≤ 15 ∧ Norm 14 l
theorem Pows.nil (D : Int) : Pows D [] := fun i l h => by simp at h
theorem Pows.snoc {D : Int} {ls : List (List Int)} {l : List Int} (h : Pows D ls) (h1 : val l = D * 2 ^ ls.length) (h2 : Dig l) (h3 : l.length ≤ 15) (h5 : Norm 14 l) : Pows D (ls ++ [l]) := by
  intro i m hm
  by_cases hi : i < ls.length
  · rw [List.getElem?_append_left hi] at hm; exact h i m hm
  · rw [List.getElem?_append_right (by omega)] at hm
    have h4 : i - ls.length = 0 := by
      rcases Nat.eq_zero_or_pos (i - ls.length) with h | h
      · exact h
      · rw [List.getElem?_eq_none (by simp; omega)] at hm; cases hm
    rw [h4] at hm
    simp at hm
    subst hm
    rw [show i = ls.length by omega]
    exact ⟨h1, h2, h3, h5⟩

theorem two_pow_pos (n : Nat) : (0 : Int) < 2 ^ n := Int.pow_pos (by omega)
theorem two_mono {m n : Nat} (h : m ≤ n) : (2 : Int) ^ m ≤ 2 ^ n := by
  obtain ⟨k, rfl⟩ : ∃ k, n = m + k := ⟨n - m, by omega⟩
  clear h
  induction k with
  | zero => exact Int.le_refl _
  | succ k ih => rw [← Nat.add_assoc, Int.pow_succ]; have := two_pow_pos (m + k); omega

/-- The first loop: after n doublings. -/
structure DSum (Pv D : Int) (n : Nat) (ls ms : List (List Int)) (d one : List Int) : Prop where
  nl : ls.length = n
  nm : ms.length = n
  pl : Pows D ls
  pm : Pows 1 ms
  vd : val d = D * 2 ^ n
  vo : val one = 2 ^ n
  dd : Dig d
  dn : Dig one
  sd : Norm 14 d
  so : Norm 14 one
  ld : d.length ≤ 15
  lo : one.length ≤ 15
  nn : n ≤ 240
theorem DSum.start {Pv D : Int} {d : List Int} (hd : Dig d) (hv : val d = D) (hl : d.length ≤ 14) : DSum Pv D 0 [] [] d [1] :=
  ⟨rfl, rfl, Pows.nil _, Pows.nil _, by simp [hv], by simp [val, V, dg], hd, by intro x hx; simp at hx; omega, .inl hl, .inl (by simp), by omega, by simp, by omega⟩
theorem DSum.next {Pv D : Int} {n : Nat} {ls ms : List (List Int)} {d one d' one' : List Int} (h : DSum Pv D n ls ms d one) (hD : 1 ≤ D) (hP : Pv < 65536 ^ 14) (hle : val d ≤ Pv)
    (h1 : Dig d') (h2 : val d' = val d + val d) (h3 : d'.length ≤ max d.length d.length ∨ d'.length = max d.length d.length + 1 ∧ 65536 ^ (max d.length d.length) ≤ val d')
    (g1 : Dig one') (g2 : val one' = val one + val one) (g3 : one'.length ≤ max one.length one.length ∨ one'.length = max one.length one.length + 1 ∧ 65536 ^ (max one.length one.length) ≤ val one') :
    DSum Pv D (n + 1) (ls ++ [d]) (ms ++ [one]) d' one' := by
  have vd := h.vd
  have vo := h.vo
  have hp := two_pow_pos n
  have hvd : val one ≤ val d := by
    rw [vd, vo]
    have : 1 * 2 ^ n ≤ D * 2 ^ n := Int.mul_le_mul_of_nonneg_right hD (by omega)
    omega
  have h0 : 0 < val one := by rw [vo]; exact hp
  have s1 := Norm.put h.sd h.sd (by omega) (by omega) h3
  have s2 := Norm.put h.so h.so (by omega) (by omega) g3
  have e15 : (65536 : Int) ^ 15 = 65536 ^ 14 * 65536 := Int.pow_succ _ _
  have l1 := s1.len (K := 15) (by omega)
  have l2 := s2.len (K := 15) (by omega)
  refine ⟨by simp [h.nl], by simp [h.nm], h.pl.snoc (by rw [h.nl]; exact vd) h.dd h.ld h.sd, h.pm.snoc (by rw [h.nm, vo]; omega) h.dn h.lo h.so, ?_, ?_, h1, g1, s1, s2, by omega, by omega, ?_⟩
  · rw [h2, vd, Int.pow_succ, ← Int.mul_assoc]; omega
  · rw [g2, vo, Int.pow_succ]; omega
  · rcases Nat.lt_or_ge n 240 with hn | hn
    · omega
    · exfalso
      have := two_mono hn
      omega

/-- The second loop: k rows are still to come. -/
structure DDiv (Pv D : Int) (k : Nat) (s q : List Int) : Prop where
  sum : val s + val q * D = Pv
  lt : val s < D * 2 ^ k
  ds : Dig s
  dq : Dig q
  ls : s.length ≤ 15
  nq : Norm 14 q
  lq : q.length ≤ 15
theorem DDiv.yes {Pv D : Int} {m : Nat} {s q s' q' l o : List Int} (h : DDiv Pv D (m + 1) s q) (hD : 1 ≤ D) (hP : Pv < 65536 ^ 14) (hl : val l = D * 2 ^ m ∧ Dig l ∧ l.length ≤ 15 ∧ Norm 14 l) (ho : val o = 1 * 2 ^ m ∧ Dig o ∧ o.length ≤ 15 ∧ Norm 14 o)
    (_hle : val l ≤ val s) (h1 : Dig s') (h2 : val s' = val s - val l) (h3 : s'.length ≤ max s.length l.length)
    (g1 : Dig q') (g2 : val q' = val q + val o) (g3 : q'.length ≤ max q.length o.length ∨ q'.length = max q.length o.length + 1 ∧ 65536 ^ (max q.length o.length) ≤ val q') : DDiv Pv D m s' q' := by
  have hq0 := (val_bound h.dq).1
  have ho0 := (val_bound ho.2.1).1
  have hs0 := (val_bound h1).1
  have nq := Norm.put h.nq ho.2.2.2 (by omega) (by omega) g3
  have hsum : val s' + val q' * D = Pv := by
    rw [h2, g2, hl.1, ho.1, Int.add_mul, ← h.sum, Int.one_mul, Int.mul_comm (2 ^ m) D]; omega
  have hqD : val q' * 1 ≤ val q' * D := Int.mul_le_mul_of_nonneg_left hD (by omega)
  have lq := nq.len (K := 14) (by omega)
  refine ⟨hsum, ?_, h1, g1, by have := h.ls; have := hl.2.2.1; omega, nq, by omega⟩
  have := h.lt
  rw [Int.pow_succ, ← Int.mul_assoc] at this
  rw [h2, hl.1]
  generalize D * 2 ^ m = z at *
  omega
theorem DDiv.no {Pv D : Int} {m : Nat} {s q l : List Int} (h : DDiv Pv D (m + 1) s q) (hl : val l = D * 2 ^ m) (hlt : val s < val l) : DDiv Pv D m s q :=
  ⟨h.sum, by rw [← hl]; exact hlt, h.ds, h.dq, h.ls, h.nq, h.lq⟩
theorem DDiv.done {Pv D : Int} {s q : List Int} (h : DDiv Pv D 0 s q) (hD : 1 ≤ D) : val q = Pv / D ∧ val s = Pv % D := by
  have h1 := h.lt
  have h2 := (val_bound h.ds).1
  have h3 := h.sum
  simp at h1
  have e : Pv = val s + D * val q := by rw [Int.mul_comm]; exact h3.symm
  constructor
  · rw [e, Int.add_mul_ediv_left _ _ (by omega), Int.ediv_eq_zero_of_lt h2 h1]; omega
  · rw [e, Int.add_mul_emod_self_left, Int.emod_eq_of_lt h2 h1]
end Go.Proofs.Ytaeondpeaabfeaa
