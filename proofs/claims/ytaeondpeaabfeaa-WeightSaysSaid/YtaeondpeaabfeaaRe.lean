/- The contract of the reference's Mul. -/
import Derived.Test.YtaeondpeaabfeaaRc
import Derived.Deep.LoopGhost
namespace Go.Proofs.Ytaeondpeaabfeaa
open Go.RowKit

/-- The product's digits after i rows and k steps of the next one; cy is the carry. -/
structure MSt (la lb : List Int) (i k : Nat) (cy : Int) (r : List Int) : Prop where
  len : r.length = la.length + lb.length + 2
  dig : Dig r
  c0 : 0 ≤ cy
  c1 : cy < 65536
  sum : val r + cy * 65536 ^ (i + k) = V (dg la) i * val lb + dg la i * V (dg lb) k * 65536 ^ i

theorem V_zeros (n m : Nat) : V (dg (List.replicate n 0)) m = 0 := by
  induction m with
  | zero => rfl
  | succ m ih => simp [V, ih, dg, List.getElem?_replicate]; split <;> simp
theorem MSt.start (la lb : List Int) : MSt la lb 0 0 0 (List.replicate (la.length + lb.length + 2) 0) :=
  ⟨by simp, by intro d hd; rw [List.eq_of_mem_replicate hd]; omega, by omega, by omega, by unfold val; rw [V_zeros]; simp [V]⟩
/-- k is no further than one step beyond b's end where there is a carry. -/
theorem MSt.bound {la lb r : List Int} {i k : Nat} {cy : Int} (h : MSt la lb i k cy r) (ha : Dig la) (hb : Dig lb) (hc : 0 < cy) : k ≤ lb.length := by
  rcases Nat.lt_or_ge lb.length k with hk | hk
  · exfalso
    have hs := h.sum
    have h1 := (val_bound h.dig).1
    rw [V_ge (l := lb) (by omega)] at hs
    have e : V (dg la) i * val lb + dg la i * val lb * 65536 ^ i = V (dg la) (i + 1) * val lb := by
      simp only [V, Int.add_mul]
      rw [Int.mul_right_comm (dg la i) (val lb)]
    rw [e] at hs
    have h2 := V_bound ha.at (i + 1)
    have h3 := val_bound hb
    have h4 : V (dg la) (i + 1) * val lb < 65536 ^ (i + 1) * 65536 ^ lb.length := by
      have p1 := pow_pos' (i + 1)
      have q1 : V (dg la) (i + 1) * val lb ≤ 65536 ^ (i + 1) * val lb := Int.mul_le_mul_of_nonneg_right (by omega) h3.1
      have q2 : 65536 ^ (i + 1) * val lb < 65536 ^ (i + 1) * 65536 ^ lb.length := Int.mul_lt_mul_of_pos_left h3.2 p1
      omega
    have h5 : (65536 : Int) ^ (i + 1) * 65536 ^ lb.length = 65536 ^ (i + 1 + lb.length) := (Int.pow_add _ _ _).symm
    have h6 : (65536 : Int) ^ (i + 1 + lb.length) ≤ 65536 ^ (i + k) := pow_mono (by omega)
    have h7 : 1 * 65536 ^ (i + k) ≤ cy * 65536 ^ (i + k) := Int.mul_le_mul_of_nonneg_right (by omega) (by have := pow_pos' (i + k); omega)
    omega
  · exact hk
theorem MSt.step {la lb r : List Int} {i k : Nat} {cy x : Int} (h : MSt la lb i k cy r) (ha : Dig la) (hb : Dig lb) (hi : i + k < r.length) (hx : x = dg r (i + k) + dg la i * dg lb k + cy) :
    MSt la lb i (k + 1) (x / 65536) (r.set (i + k) (x % 65536)) ∧ 0 ≤ x ∧ x ≤ 4294967295 ∧ dg la i * dg lb k ≤ 4294836225 ∧ 0 ≤ dg la i * dg lb k := by
  have h1 := h.dig.at (i + k)
  have h2 := ha.at i
  have h3 := hb.at k
  have h4 : dg la i * dg lb k ≤ 65535 * 65535 := Int.mul_le_mul (by omega) (by omega) h3.1 (by omega)
  have h5 : 0 ≤ dg la i * dg lb k := Int.mul_nonneg h2.1 h3.1
  have h6 := h.c0
  have h7 := h.c1
  refine ⟨⟨by simp [h.len], h.dig.set (by omega) (by omega), by omega, by omega, ?_⟩, by omega, by omega, by omega, h5⟩
  have hv : val (r.set (i + k) (x % 65536)) = val r + (x % 65536 - dg r (i + k)) * 65536 ^ (i + k) := by
    unfold val
    rw [List.length_set, V_set r (i + k) _ hi, if_pos hi]
  have hs := h.sum
  rw [hv, ← Nat.add_assoc, Int.pow_succ]
  simp only [V, Int.mul_add, Int.add_mul]
  have e1 : dg la i * (dg lb k * 65536 ^ k) * 65536 ^ i = dg la i * dg lb k * 65536 ^ (i + k) := by
    rw [Int.pow_add, ← Int.mul_assoc, Int.mul_assoc (dg la i * dg lb k), Int.mul_comm (65536 ^ k)]
  have e2 : x / 65536 * (65536 ^ (i + k) * 65536) = (x / 65536 * 65536) * 65536 ^ (i + k) := by
    rw [Int.mul_comm (65536 ^ (i + k)) 65536, ← Int.mul_assoc]
  rw [e1, e2]
  have e3 : (x % 65536 - dg r (i + k)) * 65536 ^ (i + k) + x / 65536 * 65536 * 65536 ^ (i + k) = (dg la i * dg lb k + cy) * 65536 ^ (i + k) := by
    rw [← Int.add_mul]
    congr 1
    omega
  rw [Int.add_mul] at e3
  generalize (65536 : Int) ^ (i + k) = p at *
  omega
theorem MSt.row {la lb r : List Int} {i k : Nat} (h : MSt la lb i k 0 r) (hk : lb.length ≤ k) : MSt la lb (i + 1) 0 0 r := by
  refine ⟨h.len, h.dig, by omega, by omega, ?_⟩
  have hs := h.sum
  rw [V_ge hk] at hs
  simp only [V, Int.add_mul, Int.mul_zero, Int.zero_mul, Int.add_zero] at hs ⊢
  rw [hs, Int.mul_right_comm (dg la i) (val lb)]
theorem MSt.done {la lb r : List Int} (h : MSt la lb la.length 0 0 r) : val r = val la * val lb := by
  have hs := h.sum
  simp only [V, Int.mul_zero, Int.zero_mul, Int.add_zero] at hs
  exact hs

/-- What holds while Mul runs: the boxes are as they were made, the row is the call's own. -/
structure MInv (w wr : World) (p0 p1 q0 q1 : Value) (N : Nat) (r : List Int) : Prop where
  own : OwnI .i64 wr (w.heap.size + 3) 2 (.slice (some ⟨w.heap.size + 1 + 1 + 1, 0, none⟩) N N) r
  a0 : wr.cell? ⟨w.heap.size, 0, none⟩ = some p0
  a1 : wr.cell? ⟨w.heap.size, 1, none⟩ = some p1
  b0 : wr.cell? ⟨w.heap.size + 1, 0, none⟩ = some q0
  b1 : wr.cell? ⟨w.heap.size + 1, 1, none⟩ = some q1
  c0 : wr.cell? ⟨w.heap.size + 1 + 1, 0, none⟩ = some (.bool false)
  c1 : wr.cell? ⟨w.heap.size + 1 + 1, 1, none⟩ = some (.slice none 0 0)
  f0 : ∀ i, wr.frozen? ⟨w.heap.size + 1 + 1, i, none⟩ = false
  bel : Below w.heap.size w wr
theorem MInv.start {w w1 : World} {p0 p1 q0 q1 : Value} {t : TypeId} {N : Nat}
    (hown : w1.ownsRow (w.heap.size + 3) 2 1 (.slice (some ⟨(((w.alloc (.cells #[p0, p1] t)).alloc (.cells #[q0, q1] t)).alloc (.cells #[.bool false, .slice none 0 0] t)).heap.size, 0, none⟩) N N) N (madeCells (Value.int .i64 0).cells (N * 1)).toList)
    (hg : (((w.alloc (.cells #[p0, p1] t)).alloc (.cells #[q0, q1] t)).alloc (.cells #[.bool false, .slice none 0 0] t)).grownBy w1 none) : MInv w w1 p0 p1 q0 q1 N (List.replicate N 0) := by
  have hb : Below (((w.alloc (.cells #[p0, p1] t)).alloc (.cells #[q0, q1] t)).alloc (.cells #[.bool false, .slice none 0 0] t)).heap.size (((w.alloc (.cells #[p0, p1] t)).alloc (.cells #[q0, q1] t)).alloc (.cells #[.bool false, .slice none 0 0] t)) w1 :=
    (Below.refl _ _).grown hg (Nat.le_refl _) (by simp)
  obtain ⟨k1, k2, k3, k4⟩ := three_cells hb
  refine ⟨?_, k1 0, k1 1, k2 0, k2 1, k3 0, k3 1, k4, (three_below w _ _ _ t).trans (hb.mono (by simp; omega))⟩
  have := made_zeros hown
  simpa using this
theorem MInv.stored {w wr : World} {p0 p1 q0 q1 : Value} {N : Nat} {r : List Int} (h : MInv w wr p0 p1 q0 q1 N r) (hN : r.length = N) (j : Nat) (x : Int) :
    MInv w (wr.setCell ⟨w.heap.size + 1 + 1 + 1, j, none⟩ (.int .i64 x)) p0 p1 q0 q1 N (r.set j x) := by
  have ne : ∀ (b o : Nat), b < w.heap.size + 3 → (wr.setCell ⟨w.heap.size + 1 + 1 + 1, j, none⟩ (.int .i64 x)).cell? ⟨b, o, none⟩ = wr.cell? ⟨b, o, none⟩ := fun b o hb =>
    World.cell?_setCell_other _ _ _ _ (fun e => by have := congrArg Addr.block e; simp at this; omega)
  have hown := h.own
  subst hN
  refine ⟨by simpa using hown.stored j x, (ne _ _ (by omega)).trans h.a0, (ne _ _ (by omega)).trans h.a1, (ne _ _ (by omega)).trans h.b0, (ne _ _ (by omega)).trans h.b1, (ne _ _ (by omega)).trans h.c0, (ne _ _ (by omega)).trans h.c1, ?_, h.bel.setCell (by simp; omega) _⟩
  intro i
  have hb : Below (w.heap.size + 3) wr (wr.setCell ⟨w.heap.size + 1 + 1 + 1, j, none⟩ (.int .i64 x)) := (Below.refl _ _).setCell (by simp) _
  rw [hb.frozen (by simp)]; exact h.f0 i
theorem MInv.drewN {w wr : World} {p0 p1 q0 q1 : Value} {N : Nat} {r : List Int} (h : MInv w wr p0 p1 q0 q1 N r) (n : Nat) : MInv w (wr.drewN n) p0 p1 q0 q1 N r :=
  ⟨h.own, h.a0, h.a1, h.b0, h.b1, h.c0, h.c1, h.f0, below_drewN h.bel n⟩

set_option maxHeartbeats 4000000 in
theorem mul_ref (va vb : Value) (na nb : Bool) (la lb : List Int) (w : World) (ha : BigV w va na la) (hb : BigV w vb nb lb) (h1 : la.length ≤ 30) (h2 : lb.length ≤ 30) :
    Calls Try.prog 37 #[va, vb] w (RetBig w (sval na la * sval nb lb) (la.length + lb.length + 2)) := by
  obtain ⟨A, c, rfl, hr, hd⟩ := ha
  obtain ⟨A', c', rfl, hr', hd'⟩ := hb
  obtain ⟨i0, hi0, hz0, hz1, hz2⟩ := info_parts info_i64
  have HR := Lib.hid hr
  have HR' := Lib.hid hr'
  have HD := Lib.hid hd
  have HD' := Lib.hid hd'
  clear hr hr' hd hd'
  have hBW := three_below w #[.bool na, .slice A la.length c] #[.bool nb, .slice A' lb.length c'] #[.bool false, .slice none 0 0] 53
  go_enter Try.func37, Try.ntmps37
  go_wp2_with (refine wpList_make_full _ rfl _ _ 30 rfl (w.heap.size + 3) 2 i0 (.int .i64 0) 1 Try.underlying30 hi0 hz0 hz1 .i64 .i64 _ _ (la.length + lb.length + 2) rfl rfl (by omega) (by omega) (by rw [hz2]; omega) (by unfold maxLen; omega) (by simp) ?_; intro w1 hown1 hgrow1)
  have hinv := MInv.start hown1 hgrow1
  have hst := MSt.start la lb
  clear hown1 hgrow1
  go_loopw [6] (fun i wr => ∃ (k : Nat) (r : List Int), i = .int .i64 k ∧ k ≤ la.length ∧ MSt la lb k 0 0 r ∧ MInv w wr (.bool na) (.slice A la.length c) (.bool nb) (.slice A' lb.length c') (la.length + lb.length + 2) r) (fun i _ => la.length - (intOf i).toNat)
  case atStart => exact ⟨0, _, rfl, Nat.zero_le _, hst, hinv⟩
  case round =>
    clear hinv hst
    obtain ⟨i, r, rfl, hi, hst, hinv⟩ := hrel
    have a1 := hinv.a1
    have b1 := hinv.b1
    by_cases hlt : i < la.length
    · have ila := HR.out
      obtain ⟨ad, rfl, _, _⟩ := ila.at hlt
      go_wp2_with fail
      go_loopw [7, 8] (fun s t wq => ∃ (k : Nat) (cy : Int) (r : List Int), s = .int .i64 cy ∧ t = .int .i64 k ∧ k ≤ lb.length + 1 ∧ MSt la lb i k cy r ∧ MInv w wq (.bool na) (.slice (some ad) la.length c) (.bool nb) (.slice A' lb.length c') (la.length + lb.length + 2) r) (fun _ t _ => lb.length + 2 - (intOf t).toNat)
      case atStart => exact ⟨0, 0, r, rfl, rfl, Nat.zero_le _, hst, hinv⟩
      case round =>
        clear hst hinv a1 b1
        obtain ⟨k, cy, q, rfl, rfl, hk, hst, hinv⟩ := hrel
        have a1 := hinv.a1
        have b1 := hinv.b1
        have hc0 := hst.c0
        have hc1 := hst.c1
        have HK := Lib.hid (fun hc => hst.bound HD.out HD'.out hc)
        by_cases hgo : k < lb.length ∨ 0 < cy
        · have hkb : k ≤ lb.length := by
            rcases hgo with h | h
            · omega
            · exact HK.out h
          have hlen := hst.len
          have hik : i + k < q.length := by omega
          obtain ⟨ad', hade, _, hca⟩ := (ila.below hinv.bel).at hlt
          obtain rfl : ad = ad' := by injection hade
          rw [← dg_lt hlt] at hca
          have hown := hinv.own
          rw [← hlen] at hown
          have hrow := hown.cellAt (i + k) hik
          rw [← dg_lt hik] at hrow
          have hfz := hown.frozenAt (i + k)
          obtain ⟨x, hx⟩ : ∃ x, x = dg q (i + k) + dg la i * dg lb k + cy := ⟨_, rfl⟩
          obtain ⟨hst2, hx0, hx1, hp1, hp0⟩ := hst.step HD.out HD'.out hik hx
          have hq := hst.dig.at (i + k)
          obtain ⟨hq0, hq1⟩ := hq
          have HST := Lib.hid hst2
          have HINV := Lib.hid hinv
          have HX := Lib.hid hx
          have HLEN := Lib.hid hlen
          have hb9 : ((i : Int) + (k : Int)) < ((la.length + lb.length + 2 : Nat) : Int) := by omega
          clear hst hst2 hinv hown hlen hx hik hade
          rcases (show k < lb.length ∨ (¬ k < lb.length ∧ 0 < cy) by omega) with h | ⟨h, h'⟩
          · go_wp2_with fail
            go_quiet ((go_at_call 43; exact quiet_eq (at_c A' c' w.heap.size lb _ k _ rfl (HR'.out.below (below_drewN HINV.out.bel _)))))
            rw [← HX.out]
            go_wp2_with fail
            go_roundw
            case rel => exact ⟨k + 1, x / 65536, _, rfl, by go_num, by omega, HST.out, (HINV.out.drewN _).stored HLEN.out (i + k) (x % 65536)⟩
            case measure => simp [intOf]; omega
          · go_wp2_with fail
            go_quiet ((go_at_call 43; exact quiet_eq (at_c A' c' w.heap.size lb _ k _ rfl (HR'.out.below (below_drewN HINV.out.bel _)))))
            rw [← HX.out]
            go_wp2_with fail
            go_roundw
            case rel => exact ⟨k + 1, x / 65536, _, rfl, by go_num, by omega, HST.out, (HINV.out.drewN _).stored HLEN.out (i + k) (x % 65536)⟩
            case measure => simp [intOf]; omega
        · have hcy : cy = 0 := by omega
          have hkl : lb.length ≤ k := by omega
          subst hcy
          have hrow := hst.row hkl
          have hdk : ¬ (k < lb.length) := by omega
          clear hgo HK
          go_wp2_with fail
          go_roundw
          case rel => exact ⟨i + 1, q, by go_num, by omega, hrow, hinv⟩
          case measure => simp [intOf]; omega
    · have hie : i = la.length := by omega
      subst hie
      have hv := Lib.hid hst.done
      have HL := Lib.hid hst.len
      have HDG := Lib.hid hst.dig
      have HINV := Lib.hid hinv
      have a0 := hinv.a0
      have b0 := hinv.b0
      have c0 := hinv.c0
      have c1 := hinv.c1
      have f0 := hinv.f0
      clear hst hinv
      go_wp2_with fail
      refine bodyPost_ret (v := .agg #[.bool (!(na == nb)), .slice (some ⟨w.heap.size + 1 + 1 + 1, 0, none⟩) (la.length + lb.length + 2) (la.length + lb.length + 2)]) ?_ rfl ?_
      · simp [results, Try.results37, go_sem, c0, c1]
      · have hz : w.heap.size + 1 + 1 < w.heap.size + 3 := by omega
        have hown := HINV.out.own
        refine ⟨_, !(na == nb), r, rfl, ⟨some ⟨w.heap.size + 1 + 1 + 1, 0, none⟩, la.length + lb.length + 2, by rw [HL.out], ?_, HDG.out⟩, ?_, by rw [HL.out]; exact Nat.le_refl _, (HINV.out.bel.setCell (by simp; omega) _).setCell (by simp; omega) _⟩
        · exact OwnI.row (OwnI.setCell (OwnI.setCell hown hz _) hz _)
        · have := hv.out
          cases na <;> cases nb <;> simp [sval, this, Int.mul_neg, Int.neg_mul]
end Go.Proofs.Ytaeondpeaabfeaa
