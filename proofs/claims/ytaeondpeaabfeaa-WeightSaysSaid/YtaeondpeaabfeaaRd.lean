/- Contracts of the reference's signed numbers: Cmp. -/
import Derived.Test.YtaeondpeaabfeaaRc
import Derived.Deep.RegionWith
namespace Go.Proofs.Ytaeondpeaabfeaa
open Go.RowKit

theorem two_below (w : World) (x y : Array Value) (t : TypeId) : Below w.heap.size w ((w.alloc (.cells x t)).alloc (.cells y t)) :=
  ((Below.refl w.heap.size w).alloc (Nat.le_refl _) _).alloc (by simp) _

/-- Is it below 0? -/
def belowB (neg : Bool) (l : List Int) : Bool := neg && !decide (val l = 0)

theorem belowB_true {neg : Bool} {l : List Int} (h : belowB neg l = true) : sval neg l = -val l ∧ val l ≠ 0 := by
  unfold belowB at h
  cases neg
  · simp at h
  · simp at h; exact ⟨rfl, h⟩
theorem belowB_false {neg : Bool} {l : List Int} (h : belowB neg l = false) : sval neg l = val l := by
  unfold belowB at h
  cases neg
  · rfl
  · simp at h; rw [sval_neg, h]; rfl
theorem cmpV_neg {x y : Int} : cmpV y x = cmpV (-x) (-y) := by
  unfold cmpV; repeat' split
  all_goals omega
/-- It has returned this; nothing that was there has turned. -/
def Ret (w : World) (v : Value) (e : Ending) (w' : World) : Prop := e = .returned v ∧ Below w.heap.size w w'

theorem cellLt {w : World} {a : Addr} {v : Value} (h : w.cell? a = some v) : a.block < w.heap.size := by
  rcases Nat.lt_or_ge a.block w.heap.size with h1 | h1
  · exact h1
  · unfold World.cell? at h
    rw [Array.getElem?_eq_none h1] at h
    simp at h
theorem S_start (w : World) (p0 p1 q0 q1 : Value) (t : TypeId) :
    ((w.alloc (.cells #[p0, p1] t)).alloc (.cells #[q0, q1] t)).drew.cell? ⟨w.heap.size, 0, none⟩ = some p0 ∧ ((w.alloc (.cells #[p0, p1] t)).alloc (.cells #[q0, q1] t)).drew.cell? ⟨w.heap.size, 1, none⟩ = some p1 ∧
    ((w.alloc (.cells #[p0, p1] t)).alloc (.cells #[q0, q1] t)).drew.cell? ⟨w.heap.size + 1, 0, none⟩ = some q0 ∧ ((w.alloc (.cells #[p0, p1] t)).alloc (.cells #[q0, q1] t)).drew.cell? ⟨w.heap.size + 1, 1, none⟩ = some q1 ∧
    Below w.heap.size w ((w.alloc (.cells #[p0, p1] t)).alloc (.cells #[q0, q1] t)).drew :=
  ⟨by simp [go_sem], by simp [go_sem], by simp [go_sem], by simp [go_sem], (two_below w _ _ t).drew⟩
theorem S_next {w W w2 : World} {p0 p1 q0 q1 : Value}
    (h : W.cell? ⟨w.heap.size, 0, none⟩ = some p0 ∧ W.cell? ⟨w.heap.size, 1, none⟩ = some p1 ∧ W.cell? ⟨w.heap.size + 1, 0, none⟩ = some q0 ∧ W.cell? ⟨w.heap.size + 1, 1, none⟩ = some q1 ∧ Below w.heap.size w W) (hb : Below W.heap.size W w2) :
    w2.cell? ⟨w.heap.size, 0, none⟩ = some p0 ∧ w2.cell? ⟨w.heap.size, 1, none⟩ = some p1 ∧ w2.cell? ⟨w.heap.size + 1, 0, none⟩ = some q0 ∧ w2.cell? ⟨w.heap.size + 1, 1, none⟩ = some q1 ∧ Below w.heap.size w w2 :=
  ⟨(hb.cell (cellLt h.1)).trans h.1, (hb.cell (cellLt h.2.1)).trans h.2.1, (hb.cell (cellLt h.2.2.1)).trans h.2.2.1, (hb.cell (cellLt h.2.2.2.1)).trans h.2.2.2.1, h.2.2.2.2.trans (hb.mono h.2.2.2.2.size)⟩

set_option maxHeartbeats 2000000 in
theorem cmp_ref (va vb : Value) (na nb : Bool) (la lb : List Int) (w : World) (ha : BigV w va na la) (hb : BigV w vb nb lb) (h1 : la.length ≤ 38) (h2 : lb.length ≤ 38) :
    Calls Try.prog 42 #[va, vb] w (Ret w (.int .i64 (cmpV (sval na la) (sval nb lb)))) := by
  obtain ⟨A, c, rfl, hr, hd⟩ := ha
  obtain ⟨A', c', rfl, hr', hd'⟩ := hb
  have HZ := Lib.hid (fun W (hb : Below w.heap.size w W) => zero_c (.agg #[.bool na, .slice A la.length c]) na la W ⟨A, c, rfl, (hr.below hb).more hb.size, hd⟩ (by omega))
  have HZ' := Lib.hid (fun W (hb : Below w.heap.size w W) => zero_c (.agg #[.bool nb, .slice A' lb.length c']) nb lb W ⟨A', c', rfl, (hr'.below hb).more hb.size, hd'⟩ (by omega))
  have HC := Lib.hid (cmpSize_in (c := c) (c' := c') hr hr' hd hd' (by omega) (by omega))
  have HC' := Lib.hid (cmpSize_in (c := c') (c' := c) hr' hr hd' hd (by omega) (by omega))
  have hva := (val_bound hd).1
  have hvb := (val_bound hd').1
  clear hr hr' hd hd'
  have hBW := two_below w #[.bool na, .slice A la.length c] #[.bool nb, .slice A' lb.length c'] 53
  have hS0 := S_start w (.bool na) (.slice A la.length c) (.bool nb) (.slice A' lb.length c') 53
  have HS0 := Lib.hid hS0
  clear hS0
  go_enter Try.func42, Try.ntmps42
  go_upto_region 1 with fail
  go_cut [5, 6] (fun s t wx => s = .bool (belowB na la) ∧ t = .bool (belowB nb lb) ∧ wx.cell? ⟨w.heap.size, 1, none⟩ = some (.slice A la.length c) ∧ wx.cell? ⟨w.heap.size + 1, 1, none⟩ = some (.slice A' lb.length c') ∧ Below w.heap.size w wx)
  case first =>
    cases na <;> cases nb
    · go_quiet (fail)
      go_wp2_with fail
      go_meet
      exact ⟨rfl, rfl, HS0.out.2.1, HS0.out.2.2.2.1, below_drewN hBW _⟩
    · go_region_with (go_at_call_of 51 (Value.slice A' lb.length c'); refine (HZ'.out _ (by exact hBW.drew)).mono ?_; rintro e w2 ⟨rfl, hbel⟩; obtain ⟨s1, s2, s3, s4, s5⟩ := S_next HS0.out hbel)
      all_goals (go_wp2_with fail; go_meet; exact ⟨rfl, rfl, s2, s4, s5⟩)
    · go_region_with (go_at_call_of 51 (Value.slice A la.length c); refine (HZ.out _ (by exact hBW.drew)).mono ?_; rintro e w2 ⟨rfl, hbel⟩; obtain ⟨s1, s2, s3, s4, s5⟩ := S_next HS0.out hbel)
      all_goals (go_wp2_with fail; go_meet; exact ⟨rfl, rfl, s2, s4, s5⟩)
    · go_region_held3 (fun w' => w'.cell? ⟨w.heap.size, 0, none⟩ = some (.bool true) ∧ w'.cell? ⟨w.heap.size, 1, none⟩ = some (.slice A la.length c) ∧ w'.cell? ⟨w.heap.size + 1, 0, none⟩ = some (.bool true) ∧ w'.cell? ⟨w.heap.size + 1, 1, none⟩ = some (.slice A' lb.length c') ∧ Below w.heap.size w w') (first | exact S_start w _ _ _ _ _ | exact S_next (by assumption) (by assumption) | assumption)
        (first
          | (go_at_call_of 51 (Value.slice A la.length c); refine (HZ.out _ (by first | exact hB2 | exact hBW.drew)).mono ?_; rintro e w2 ⟨rfl, hbel⟩; have hB2 : Below w.heap.size w w2 := (by first | exact hB2.trans (hbel.mono hB2.size) | exact hBW.drew.trans (hbel.mono hBW.drew.size)))
          | (go_at_call_of 51 (Value.slice A' lb.length c'); refine (HZ'.out _ (by first | exact hB2 | exact hBW.drew)).mono ?_; rintro e w2 ⟨rfl, hbel⟩; have hB2 : Below w.heap.size w w2 := (by first | exact hB2.trans (hbel.mono hB2.size) | exact hBW.drew.trans (hbel.mono hBW.drew.size))))
      go_wp2_with fail
      go_meet
      rename_i hh
      exact ⟨rfl, rfl, hh.2.1, hh.2.2.2.1, hB2⟩
  case rest =>
    obtain ⟨rfl, rfl, k1, k2, hB⟩ := hcut
    have HX := Lib.hid (belowB_true (neg := na) (l := la))
    have HY := Lib.hid (belowB_true (neg := nb) (l := lb))
    have HX' := Lib.hid (belowB_false (neg := na) (l := la))
    have HY' := Lib.hid (belowB_false (neg := nb) (l := lb))
    cases hx : belowB na la <;> cases hy : belowB nb lb
    · go_wp2_with (go_at_call 44; refine (HC.out _ (by exact hB)).mono ?_; rintro e w2 ⟨rfl, rfl⟩)
      go_ret
      exact ⟨ret_i (by rw [HX'.out hx, HY'.out hy]), hB⟩
    · go_wp2_with fail
      go_ret
      have h3 := HY.out hy
      exact ⟨ret_i (by rw [HX'.out hx, h3.1, cmpV_gt (by omega)]), hB⟩
    · go_wp2_with fail
      go_ret
      have h3 := HX.out hx
      exact ⟨ret_i (by rw [HY'.out hy, h3.1, cmpV_lt (by omega)]), hB⟩
    · go_wp2_with (go_at_call 44; refine (HC'.out _ (by exact hB)).mono ?_; rintro e w2 ⟨rfl, rfl⟩)
      go_ret
      exact ⟨ret_i (by rw [(HX.out hx).1, (HY.out hy).1, cmpV_neg]), hB⟩
end Go.Proofs.Ytaeondpeaabfeaa
