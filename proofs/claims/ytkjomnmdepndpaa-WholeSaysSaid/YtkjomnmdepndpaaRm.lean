/- The contract of the reference's Sum. -/
import Derived.Test.YtkjomnmdepndpaaRl
namespace Go.Proofs.Ytkjomnmdepndpaa
open Go.RowKit

/-- Block B is a box that holds some number. -/
structure PB (B : Nat) (n : Bool) (A : Option Addr) (k c : Nat) (w : World) : Prop where
  c0 : w.cell? ⟨B, 0, none⟩ = some (.bool n)
  c1 : w.cell? ⟨B, 1, none⟩ = some (.slice A k c)
  f : ∀ i, w.frozen? ⟨B, i, none⟩ = false
theorem PB.next {B : Nat} {n : Bool} {A : Option Addr} {k c : Nat} {W x' : World} (h : PB B n A k c W) (b : Below W.heap.size W x') : PB B n A k c x' :=
  ⟨(b.cell (cellLt h.c0)).trans h.c0, (b.cell (cellLt h.c1)).trans h.c1, fun i => (b.frozen (p := ⟨B, i, none⟩) (show B < W.heap.size from cellLt h.c0)).trans (h.f i)⟩
theorem PB.start (x : World) (n : Bool) (A : Option Addr) (k c : Nat) (t : TypeId) : PB x.heap.size n A k c (x.alloc (.cells #[.bool n, .slice A k c] t)) :=
  ⟨by simp [go_sem], by simp [go_sem], fun i => by simp [go_sem]⟩
theorem PB.set {B : Nat} {n n' : Bool} {A A' : Option Addr} {k c k' c' : Nat} {w : World} (h : PB B n A k c w) : PB B n' A' k' c' ((w.setCell ⟨B, 0, none⟩ (.bool n')).setCell ⟨B, 1, none⟩ (.slice A' k' c')) := by
  have e : (⟨B, 1, none⟩ : Addr) ≠ ⟨B, 0, none⟩ := by simp
  refine ⟨?_, ?_, ?_⟩
  · rw [World.cell?_setCell_other _ _ _ _ e]; exact World.cell?_setCell_same _ _ _ h.c0
  · have h2 : (w.setCell ⟨B, 0, none⟩ (.bool n')).cell? ⟨B, 1, none⟩ = some (.slice A k c) := by rw [World.cell?_setCell_other _ _ _ _ e.symm]; exact h.c1
    exact World.cell?_setCell_same _ _ _ h2
  · intro i; have := h.f i; simp [go_sem, this]
theorem BigV.put {B : Nat} {n : Bool} {A : Option Addr} {k c : Nat} {w : World} {v u0 u1 : Value} {neg : Bool} {l : List Int} (h : BigV w v neg l) (hp : PB B n A k c w) : BigV ((w.setCell ⟨B, 0, none⟩ u0).setCell ⟨B, 1, none⟩ u1) v neg l := by
  obtain ⟨A, c, rfl, hr, hd⟩ := h
  refine ⟨A, c, rfl, ?_, hd⟩
  intro j z hj
  obtain ⟨ad, e, hb, hc⟩ := hr j z hj
  refine ⟨ad, e, by simpa [World.setCell] using hb, ?_⟩
  rw [World.cell?_setCell_other, World.cell?_setCell_other]
  · exact hc
  · intro e2; rw [← e2, hp.c0] at hc; simp at hc
  · intro e2; rw [← e2, hp.c1] at hc; simp at hc

theorem six_room {l : List Int} {k : Nat} {x : Int} {n n2 : Bool} {r r2 : List Int} (hl : l.length ≤ 100) (hw : ∀ x ∈ l, -9223372036854775808 ≤ x ∧ x ≤ 9223372036854775807) (hx : -9223372036854775808 ≤ x ∧ x ≤ 9223372036854775807)
    (h0 : 0 ≤ val r) (h2 : 0 ≤ val r2) (e : sval n r = (l.take k).sum) (e2 : sval n2 r2 = x) : val r + val r2 < 65536 ^ 6 := by
  have hs := sum_le (l.take k) (fun x hx => hw x (List.mem_of_mem_take hx))
  have hlen : (l.take k).length ≤ 100 := by rw [List.length_take]; omega
  have h3 := sval_abs h0 e
  have h4 := sval_abs h2 e2
  rw [h3, h4]
  omega

set_option maxHeartbeats 2000000 in
theorem sum_ref (A : Option Addr) (c : Nat) (l : List Int) (w : World) (hl : l.length ≤ 100) (hr : IRow .i64 w w.heap.size A l) (hw : ∀ x ∈ l, -9223372036854775808 ≤ x ∧ x ≤ 9223372036854775807) :
    Calls Try.prog 25 #[.slice A l.length c] w (Ret w (.tuple #[.int .i64 (fitV l.sum), .bool (fitB l.sum)])) := by
  have HR := Lib.hid hr
  have HW := Lib.hid hw
  clear hr hw
  go_enter Try.func25, Try.ntmps25
  go_wp2_with fail
  refine (of_c _ _ (by omega) (by omega)).mono ?_
  rintro e x1 ⟨v1, n1, r1, rfl, b1, s1, m1, d1⟩
  obtain ⟨A1, k1, rfl⟩ := b1.agg
  go_wp2_with fail
  have hz := d1.size
  have H0 := Lib.hid (show ∃ n r A c, PB x1.heap.size n A r.length c (x1.alloc (.cells #[.bool n1, .slice A1 r1.length k1] 34)) ∧ BigV (x1.alloc (.cells #[.bool n1, .slice A1 r1.length k1] 34)) (.agg #[.bool n, .slice A r.length c]) n r ∧ sval n r = (l.take 0).sum ∧ r.length ≤ 6 ∧ Below w.heap.size w (x1.alloc (.cells #[.bool n1, .slice A1 r1.length k1] 34)) from
    ⟨n1, r1, A1, k1, PB.start _ _ _ _ _ _, b1.alloc _, by rw [s1]; simp, m1, d1.alloc hz _⟩)
  clear b1 s1 d1
  generalize x1.heap.size = B at *
  go_loopw [5] (fun i wr => ∃ k : Nat, k ≤ l.length ∧ i = .int .i64 k ∧ ∃ n r A c, PB B n A r.length c wr ∧ BigV wr (.agg #[.bool n, .slice A r.length c]) n r ∧ sval n r = (l.take k).sum ∧ r.length ≤ 6 ∧ Below w.heap.size w wr) (fun i _ => l.length - (intOf i).toNat)
  case atStart => exact ⟨0, Nat.zero_le _, rfl, H0.out⟩
  case round =>
    clear H0
    obtain ⟨k, hk, rfl, n, r, A', c', hp, hb, hs, hm, hB⟩ := hrel
    obtain ⟨q0, q1, qf⟩ := hp
    have HP := Lib.hid (PB.mk q0 q1 qf)
    by_cases hlt : k < l.length
    · obtain ⟨ad, rfl, _, hc⟩ := (HR.out.below hB).at hlt
      have hx := HW.out l[k] (List.getElem_mem _)
      have HN := Lib.hid (sum_snoc l k hlt)
      obtain ⟨x, hxe⟩ : ∃ x, x = l[k] := ⟨_, rfl⟩
      rw [← hxe] at hc hx HN
      have HS := Lib.hid (fun n2 r2 h2 e2 => six_room (n2 := n2) (r2 := r2) hl HW.out hx hb.nonneg h2 hs e2)
      have HSV := Lib.hid hs
      obtain ⟨hx1, hx2⟩ := hx
      clear hxe hs
      go_wp2_with fail
      go_region_with
        (first
          | (go_at_call 21; refine (add_six _ _ _ _ _ _ _ g1 b1 hm m1 HA.out).mono ?_; rintro e y2 ⟨v2, n2, r2, rfl, b2, s2, m2, c2⟩; have S2 := Lib.hid s2; clear s2; have d2 := d1.trans (c2.mono d1.size); have HP2 := Lib.hid (HP1.out.next c2); obtain ⟨A2, k2, rfl⟩ := b2.agg; have z0 := HP2.out.c0; have z1 := HP2.out.c1; have zf := HP2.out.f)
          | (go_at_call 19; refine (of_c _ _ hx1 hx2).mono ?_; rintro e y1 ⟨v1, n1, r1, rfl, b1, s1, m1, c1⟩; have c1 := below_of_drew c1; have HA := Lib.hid (HS.out n1 r1 b1.nonneg s1); have S1 := Lib.hid s1; clear s1; have g1 := hb.below c1; have d1 := hB.trans (c1.mono hB.size); have HP1 := Lib.hid (HP.out.next c1); have y0 := HP1.out.c0; have y1 := HP1.out.c1))
      all_goals
       go_wp2_with fail
       go_roundw
       case rel => exact ⟨k + 1, by omega, by go_num, n2, r2, A2, k2, HP2.out.set, b2.put HP2.out, by rw [S2.out, S1.out, HSV.out, HN.out], m2, (d2.setCell (by simp; omega) _).setCell (by simp; omega) _⟩
       case measure => simp [intOf]; omega
    · have hke : k = l.length := by omega
      rw [hke, List.take_length] at hs
      have HF := Lib.hid (fits_ref _ _ _ _ hb (by omega))
      rw [hs] at HF
      clear hs hke hb
      go_wp2_with fail
      refine HF.out.mono ?_
      rintro e y1 ⟨rfl, c1⟩
      go_wp2_with fail
      go_ret2
      exact ⟨rfl, hB.trans (c1.mono hB.size)⟩
end Go.Proofs.Ytkjomnmdepndpaa
