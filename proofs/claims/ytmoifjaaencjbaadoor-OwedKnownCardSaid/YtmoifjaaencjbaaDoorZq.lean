/- Forms: Sum, of small numbers. -/
import Derived.Test.YtmoifjaaencjbaaDoorZc
namespace Go.Proofs.YtmoifjaaencjbaaDoor
open Go.RowKit

def sumL : List RI → Int
  | [] => 0
  | x :: xs => x.2.2 * x.2.1 + sumL xs
theorem sumL_app (l : List RI) (x : RI) : sumL (l ++ [x]) = sumL l + x.2.2 * x.2.1 := by
  induction l with
  | nil => simp [sumL]
  | cons y ys ih => rw [List.cons_append, sumL, sumL, ih]; omega
theorem sumL_next {l : List RI} {k : Nat} {r : RI} (h : l[k]? = some r) : sumL (l.take (k + 1)) = sumL (l.take k) + r.2.2 * r.2.1 := by
  obtain ⟨a1, a2⟩ := List.getElem?_eq_some_iff.1 h
  rw [List.take_succ_eq_append_getElem a1, a2, sumL_app]
theorem sumL_small : ∀ {l : List RI}, (∀ r ∈ l, -1000 ≤ r.2.2 * r.2.1 ∧ r.2.2 * r.2.1 ≤ 1000) → -1000 * (l.length : Int) ≤ sumL l ∧ sumL l ≤ 1000 * (l.length : Int)
  | [], _ => by simp [sumL]
  | x :: xs, h => by
    have h1 := h x (by simp)
    have h2 := sumL_small (l := xs) (fun r hr => h r (by simp [hr]))
    rw [sumL, List.length_cons]
    omega

set_option maxRecDepth 100000 in
set_option maxHeartbeats 4000000 in
theorem sum_c (f0 : Int) (A : Option Addr) (n c : Nat) (l : List RI) (w : World) (hn : l.length = n) (h64 : n ≤ 64) (hr : TRow w A l) (hs : ∀ r ∈ l, -1000 ≤ r.2.2 * r.2.1 ∧ r.2.2 * r.2.1 ≤ 1000) :
    Calls Tryd.prog 15 #[.agg #[.int .i64 f0, .slice A n c]] w (Ret10 (.int .i64 (sumL l)) w) := by
  obtain ⟨W0, hW0⟩ : ∃ W0, w.alloc (.cells #[.int .i64 f0, .slice A n c] 25) = W0 := ⟨_, rfl⟩
  have hb0 : Below w.heap.size w W0 := by rw [← hW0]; exact (Below.refl _ w).alloc (Nat.le_refl _) _
  have HW0 := Lib.hid hW0
  have HB0 := Lib.hid hb0
  have HR := Lib.hid (hr.below hb0 (Nat.le_refl _))
  have HN := Lib.hid hn
  have HS := Lib.hid hs
  obtain ⟨R, hR⟩ : ∃ R, sumL l = R := ⟨_, rfl⟩
  have HRR := Lib.hid hR
  rw [hR]
  clear hW0 hb0 hr hn hs hR
  go_enter Tryd.func15, Tryd.ntmps15
  go_wp2_with fail
  rw [HW0.out]
  go_loopw [3, 9] (fun s i wr => ∃ (k : Nat) (z : Int), i = .int .i64 k ∧ s = .int .i64 z ∧ k ≤ n ∧ sumL (l.take k) = z ∧ Below W0.heap.size W0 wr) (fun _ i _ => n - (intOf i).toNat)
  case atStart => exact ⟨0, 0, rfl, rfl, Nat.zero_le _, rfl, Below.refl _ _⟩
  case round =>
    obtain ⟨k, z, rfl, rfl, hk, hz, hb⟩ := hrel
    have HZ := Lib.hid hz
    have HB := Lib.hid hb
    have hsm := sumL_small (l := l.take k) (fun r hr => HS.out r (List.mem_of_mem_take hr))
    have htl : (l.take k).length ≤ 64 := by have := List.length_take_le k l; omega
    rw [hz] at hsm
    have hz1 : -64000 ≤ z := by omega
    have hz2 : z ≤ 64000 := by omega
    clear hz hb hsm htl
    by_cases hlt : k < n
    · obtain ⟨y, hx⟩ : ∃ y, l[k]? = some y := ⟨_, List.getElem?_eq_getElem (by rw [HN.out]; exact hlt)⟩
      obtain ⟨ad, rfl, c0, c1, c2⟩ := (HR.out.below HB.out (Nat.le_refl _)).at hx
      have HX := Lib.hid (sumL_next hx)
      have hp := HS.out y (List.mem_of_getElem? hx)
      have HB1 := Lib.hid (HB.out.alloc HB.out.size (.cells #[.int .i64 y.1, .int .i64 y.2.1, .int .i64 y.2.2] 27))
      clear hx
      obtain ⟨y0, y1, y2⟩ := y
      simp only at c0 c1 c2 hp
      obtain ⟨p, hpp⟩ : ∃ p, y2 * y1 = p := ⟨_, rfl⟩
      rw [hpp] at hp
      obtain ⟨hp1, hp2⟩ := hp
      have HPP := Lib.hid hpp
      have hw1 : IntKind.i64.wrap (y2 * y1) = p := by rw [hpp, IntKind.wrap_i64]; omega
      clear hpp
      go_wp2_with fail
      go_roundw
      case rel => exact ⟨k + 1, z + p, by go_num, rfl, by omega, by rw [HX.out, HZ.out]; simp only; rw [HPP.out], HB1.out⟩
      case measure => simp [intOf]; omega
    · obtain rfl : k = n := by omega
      have HF : Hid (z = R) := Lib.hid (by rw [← HRR.out, ← HZ.out, ← HN.out, List.take_length])
      have HB2 := Lib.hid (HB0.out.trans (HB.out.mono HB0.out.size))
      go_wp2_with fail
      go_ret
      exact ⟨ret_i HF.out, HB2.out⟩
end Go.Proofs.YtmoifjaaencjbaaDoor
