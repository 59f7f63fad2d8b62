/- Contracts of the reference's signed numbers: Of, Turn, zero, Cmp, Add. -/
import Derived.Test.YtaeondpeaabfeaaRb
import Derived.RegionTactic
import Derived.Deep.QuietTactic
import Derived.BigQuiet
import Derived.Deep.RegionHeld3
import Derived.Deep.DeepCutAuto
import Derived.StillTailTactics
namespace Go.Proofs.Ytaeondpeaabfeaa
open Go.RowKit

/-- v is a signed number: its sign, its digits. -/
def BigV (w : World) (v : Value) (neg : Bool) (l : List Int) : Prop := ∃ A c, v = .agg #[.bool neg, .slice A l.length c] ∧ IRow .i64 w w.heap.size A l ∧ Dig l
theorem BigV.below {w w' : World} {v : Value} {neg : Bool} {l : List Int} (h : BigV w v neg l) (hb : Below w.heap.size w w') : BigV w' v neg l := by
  obtain ⟨A, c, rfl, hr, hd⟩ := h
  exact ⟨A, c, rfl, (hr.below hb).more hb.size, hd⟩
theorem BigV.drewN {w : World} {v : Value} {neg : Bool} {l : List Int} (h : BigV w v neg l) (n : Nat) : BigV (w.drewN n) v neg l := h
/-- It has returned a signed number: S, of at most m digits. -/
def RetBig (w : World) (S : Int) (m : Nat) (e : Ending) (w' : World) : Prop := ∃ v neg l, e = .returned v ∧ BigV w' v neg l ∧ sval neg l = S ∧ l.length ≤ m ∧ Below w.heap.size w w'

theorem bcell {W w1 : World} {B : Nat} (hb : Below B W w1) : (∀ b o, b < B → w1.cell? ⟨b, o, none⟩ = W.cell? ⟨b, o, none⟩) ∧ (∀ b o, b < B → w1.frozen? ⟨b, o, none⟩ = W.frozen? ⟨b, o, none⟩) :=
  ⟨fun b o h => hb.cell (p := ⟨b, o, none⟩) h, fun b o h => hb.frozen (p := ⟨b, o, none⟩) h⟩

set_option maxHeartbeats 1000000 in
theorem of_c (a : Int) (w : World) (h1 : -9223372036854775808 ≤ a) (h2 : a ≤ 9223372036854775807) : Calls Try.prog 38 #[.int .i64 a] w (RetBig w a 6) := by
  go_enter Try.func38, Try.ntmps38
  go_wp2_with fail
  refine (digits_c a _ h1 h2).mono ?_
  rintro e w2 ⟨v, r, rfl, hown, hlen, hdig, hval, hbel⟩
  obtain ⟨A, c, rfl, hc1, hc2, hrow⟩ := hown.form
  have HL := Lib.hid hlen
  have HV := Lib.hid hval
  clear hlen hval hrow
  obtain ⟨hc, hf⟩ := bcell hbel
  have hz : w.heap.size < w2.heap.size := by have := hbel.size; simp at this; omega
  go_wp2_with fail
  have hs : sval (decide (a < 0)) r = a := by
    unfold sval
    rw [HV.out]
    split
    · rename_i h; simp at h; omega
    · rename_i h; simp at h; omega
  have hbw : Below w.heap.size w w2 := ((Below.refl w.heap.size w).alloc (Nat.le_refl _) _).trans (hbel.mono (by simp))
  refine bodyPost_ret (v := .agg #[.bool (decide (a < 0)), .slice A r.length c]) (by simp [results, Try.results38, go_sem, hc]) rfl ⟨_, _, r, rfl, ⟨A, c, rfl, ?_, hdig⟩, hs, by rw [HL.out]; exact Nat.le_refl _, (hbw.setCell (Nat.le_refl _) _).setCell (Nat.le_refl _) _⟩
  exact OwnI.row (OwnI.setCell (OwnI.setCell hown (by simp) _) (by simp) _)


set_option maxHeartbeats 1000000 in
theorem zero_c (v : Value) (neg : Bool) (l : List Int) (w : World) (h : BigV w v neg l) (hl : l.length ≤ 1000) : Calls Try.prog 51 #[v] w fun e w' => e = .returned (.bool (decide (val l = 0))) ∧ Below w.heap.size w w' := by
  obtain ⟨A, c, rfl, hr, hd⟩ := h
  have hcz := Lib.hid (fun W (hb : Below w.heap.size w W) => cmpSize_c A none c 0 w.heap.size l [] W (hr.below hb) IRow.nil hd Dig.nil (by omega) (by simp))
  have hv := (val_bound hd).1
  have HE : Hid ((cmpV (val l) (val []) == 0) = decide (val l = 0)) := Lib.hid (by
    rw [val_nil]
    by_cases h : val l = 0
    · rw [cmpV_eq h, decide_eq_true h]; rfl
    · rw [cmpV_gt (by omega), decide_eq_false h]; rfl)
  clear hr
  go_enter Try.func51, Try.ntmps51
  go_wp2_with fail
  refine (hcz.out _ ((Below.refl w.heap.size w).alloc (Nat.le_refl _) _)).mono ?_
  rintro e w' ⟨rfl, rfl⟩
  go_wp2_with fail
  go_ret
  exact ⟨ret_b HE.out, (Below.refl w.heap.size w).alloc (Nat.le_refl _) _⟩

/-- put, in whatever world the two rows lie. -/
theorem put_add_in {w : World} {A A' : Option Addr} {c c' : Nat} {la lb : List Int} (hr : IRow .i64 w w.heap.size A la) (hr' : IRow .i64 w w.heap.size A' lb) (hd : Dig la) (hd' : Dig lb) (h1 : la.length ≤ 38) (h2 : lb.length ≤ 38) (W : World) (hb : Below w.heap.size w W) :
    Calls Try.prog 45 #[.slice A la.length c, .slice A' lb.length c', .int .i64 1] W (RetI W (val la + val lb) (max la.length lb.length + 1)) :=
  put_add A A' c c' la lb W ((hr.below hb).more hb.size) ((hr'.below hb).more hb.size) hd hd' h1 h2
theorem put_sub_in {w : World} {A A' : Option Addr} {c c' : Nat} {la lb : List Int} (hr : IRow .i64 w w.heap.size A la) (hr' : IRow .i64 w w.heap.size A' lb) (hd : Dig la) (hd' : Dig lb) (h1 : la.length ≤ 38) (h2 : lb.length ≤ 38) (hle : val lb ≤ val la) (W : World) (hb : Below w.heap.size w W) :
    Calls Try.prog 45 #[.slice A la.length c, .slice A' lb.length c', .int .i64 (-1)] W (RetI W (val la - val lb) (max la.length lb.length + 1)) :=
  put_sub A A' c c' la lb W ((hr.below hb).more hb.size) ((hr'.below hb).more hb.size) hd hd' h1 h2 hle

theorem three_below (w : World) (x y z : Array Value) (t : TypeId) : Below w.heap.size w (((w.alloc (.cells x t)).alloc (.cells y t)).alloc (.cells z t)) :=
  (((Below.refl w.heap.size w).alloc (Nat.le_refl _) _).alloc (by simp) _).alloc (by simp; omega) _

theorem below_of_drew {W w2 : World} (h : Below W.drew.heap.size W.drew w2) : Below W.heap.size W w2 := ⟨h.os, h.tape, h.output, h.size, h.block⟩
theorem three_cells {w w2 : World} {x y z : Array Value} {t : TypeId} (hb : Below (((w.alloc (.cells x t)).alloc (.cells y t)).alloc (.cells z t)).heap.size (((w.alloc (.cells x t)).alloc (.cells y t)).alloc (.cells z t)) w2) :
    (∀ i, w2.cell? ⟨w.heap.size, i, none⟩ = x[i]?) ∧ (∀ i, w2.cell? ⟨w.heap.size + 1, i, none⟩ = y[i]?) ∧ (∀ i, w2.cell? ⟨w.heap.size + 2, i, none⟩ = z[i]?) ∧ (∀ i, w2.frozen? ⟨w.heap.size + 2, i, none⟩ = false) := by
  obtain ⟨hc, hf⟩ := bcell hb
  refine ⟨fun i => ?_, fun i => ?_, fun i => ?_, fun i => ?_⟩
  · rw [hc _ _ (by simp; omega)]; simp [go_sem]
  · rw [hc _ _ (by simp)]; simp [go_sem]
  · rw [hc _ _ (by simp)]; simp [go_sem]
  · rw [hf _ _ (by simp)]; simp [go_sem]

theorem keep3 {w w2 : World} {p0 p1 q0 q1 u0 u1 : Value} (k1 : ∀ i, w2.cell? ⟨w.heap.size, i, none⟩ = #[p0, p1][i]?) (k2 : ∀ i, w2.cell? ⟨w.heap.size + 1, i, none⟩ = #[q0, q1][i]?) :
    ((w2.setCell ⟨w.heap.size + 1 + 1, 0, none⟩ u0).setCell ⟨w.heap.size + 1 + 1, 1, none⟩ u1).cell? ⟨w.heap.size, 0, none⟩ = some p0 ∧
    ((w2.setCell ⟨w.heap.size + 1 + 1, 0, none⟩ u0).setCell ⟨w.heap.size + 1 + 1, 1, none⟩ u1).cell? ⟨w.heap.size, 1, none⟩ = some p1 ∧
    ((w2.setCell ⟨w.heap.size + 1 + 1, 0, none⟩ u0).setCell ⟨w.heap.size + 1 + 1, 1, none⟩ u1).cell? ⟨w.heap.size + 1, 1, none⟩ = some q1 := by
  have e1 : w.heap.size + 1 + 1 ≠ w.heap.size := by omega
  have e2 : w.heap.size + 1 + 1 ≠ w.heap.size + 1 := by omega
  refine ⟨?_, ?_, ?_⟩
  · rw [World.cell?_setCell_other _ _ _ _ (fun h => e1 (congrArg Addr.block h)), World.cell?_setCell_other _ _ _ _ (fun h => e1 (congrArg Addr.block h)), k1]; rfl
  · rw [World.cell?_setCell_other _ _ _ _ (fun h => e1 (congrArg Addr.block h)), World.cell?_setCell_other _ _ _ _ (fun h => e1 (congrArg Addr.block h)), k1]; rfl
  · rw [World.cell?_setCell_other _ _ _ _ (fun h => e2 (congrArg Addr.block h)), World.cell?_setCell_other _ _ _ _ (fun h => e2 (congrArg Addr.block h)), k2]; rfl

/-- The end of Add, on each of its ways. -/
theorem big_end {w w2 : World} {x y z : Array Value} {t : TypeId} {neg : Bool} {r : List Int} {Ar : Option Addr} {cr m : Nat} {S : Int} {u0 u1 : Value}
    (hb : Below (((w.alloc (.cells x t)).alloc (.cells y t)).alloc (.cells z t)).drew.heap.size (((w.alloc (.cells x t)).alloc (.cells y t)).alloc (.cells z t)).drew w2)
    (hown : OwnI .i64 w2 (((w.alloc (.cells x t)).alloc (.cells y t)).alloc (.cells z t)).drew.heap.size 2 (.slice Ar r.length cr) r) (hdig : Dig r) (hs : sval neg r = S) (hl : r.length ≤ m) :
    RetBig w S m (.returned (.agg #[.bool neg, .slice Ar r.length cr])) ((w2.setCell ⟨w.heap.size + 1 + 1, 0, none⟩ u0).setCell ⟨w.heap.size + 1 + 1, 1, none⟩ u1) := by
  have h1 := below_of_drew hb
  have h2 : Below w.heap.size w w2 := (three_below w x y z t).trans (h1.mono (by simp; omega))
  have h3 : (((w.alloc (.cells x t)).alloc (.cells y t)).alloc (.cells z t)).drew.heap.size = w.heap.size + 3 := by simp
  rw [h3] at hown
  have hz : w.heap.size + 1 + 1 < w.heap.size + 3 := by omega
  refine ⟨_, neg, r, rfl, ⟨Ar, cr, rfl, ?_, hdig⟩, hs, hl, (h2.setCell (by simp; omega) _).setCell (by simp; omega) _⟩
  exact OwnI.row (OwnI.setCell (OwnI.setCell hown hz _) hz _)

set_option maxHeartbeats 2000000 in
theorem addr_same (va vb : Value) (na : Bool) (la lb : List Int) (w : World) (ha : BigV w va na la) (hb : BigV w vb na lb) (h1 : la.length ≤ 38) (h2 : lb.length ≤ 38) :
    Calls Try.prog 46 #[va, vb] w (RetBig w (sval na la + sval na lb) (max la.length lb.length + 1)) := by
  obtain ⟨A, c, rfl, hr, hd⟩ := ha
  obtain ⟨A', c', rfl, hr', hd'⟩ := hb
  have HP := Lib.hid (put_add_in (c := c) (c' := c') hr hr' hd hd' h1 h2)
  clear hr hr' hd hd'
  have hBW := three_below w #[.bool na, .slice A la.length c] #[.bool na, .slice A' lb.length c'] #[.bool false, .slice none 0 0] 53
  go_enter Try.func46, Try.ntmps46
  go_wp2_with fail
  go_region_held3 (fun w' => w'.cell? ⟨w.heap.size, 0, none⟩ = some (.bool na) ∧ w'.cell? ⟨w.heap.size, 1, none⟩ = some (.slice A la.length c) ∧ w'.cell? ⟨w.heap.size + 1, 1, none⟩ = some (.slice A' lb.length c')) (first | exact keep3 (by assumption) (by assumption) | go_keep)
    (first
      | (go_at_call 45; refine (HP.out _ (by first | exact hBW | exact hBW.drew)).mono ?_; rintro e w2 ⟨v, r, rfl, hown, hdig, hval, hlen, hbel⟩; have HH := Lib.hid (And.intro hval hlen); clear hval hlen; obtain ⟨Ar, cr, rfl, _, _, _⟩ := hown.form; obtain ⟨k1, k2, k3, k4⟩ := three_cells (below_of_drew hbel)))
  go_wp2_with fail
  have hs : sval na r = sval na la + sval na lb := by
    have := HH.out.1
    cases na <;> simp [sval] <;> omega
  refine bodyPost_ret (v := .agg #[.bool na, .slice Ar r.length cr]) ?_ rfl (big_end hbel hown hdig hs HH.out.2)
  simp [results, Try.results46, go_sem, k3]

theorem cmpSize_in {w : World} {A A' : Option Addr} {c c' : Nat} {la lb : List Int} (hr : IRow .i64 w w.heap.size A la) (hr' : IRow .i64 w w.heap.size A' lb) (hd : Dig la) (hd' : Dig lb) (h1 : la.length ≤ 1000) (h2 : lb.length ≤ 1000) (W : World) (hb : Below w.heap.size w W) :
    Calls Try.prog 44 #[.slice A la.length c, .slice A' lb.length c'] W fun e w' => e = .returned (.int .i64 (cmpV (val la) (val lb))) ∧ W = w' :=
  cmpSize_c A A' c c' w.heap.size la lb W (hr.below hb) (hr'.below hb) hd hd' (by omega) (by omega)

theorem keep3' {w w2 : World} {p0 p1 q0 q1 u0 u1 : Value} (k1 : ∀ i, w2.cell? ⟨w.heap.size, i, none⟩ = #[p0, p1][i]?) (k2 : ∀ i, w2.cell? ⟨w.heap.size + 1, i, none⟩ = #[q0, q1][i]?) :
    ((w2.setCell ⟨w.heap.size + 1 + 1, 0, none⟩ u0).setCell ⟨w.heap.size + 1 + 1, 1, none⟩ u1).cell? ⟨w.heap.size + 1, 0, none⟩ = some q0 ∧
    ((w2.setCell ⟨w.heap.size + 1 + 1, 0, none⟩ u0).setCell ⟨w.heap.size + 1 + 1, 1, none⟩ u1).cell? ⟨w.heap.size, 1, none⟩ = some p1 ∧
    ((w2.setCell ⟨w.heap.size + 1 + 1, 0, none⟩ u0).setCell ⟨w.heap.size + 1 + 1, 1, none⟩ u1).cell? ⟨w.heap.size + 1, 1, none⟩ = some q1 := by
  refine ⟨?_, (keep3 k1 k2).2⟩
  have e2 : w.heap.size + 1 + 1 ≠ w.heap.size + 1 := by omega
  rw [World.cell?_setCell_other _ _ _ _ (fun h => e2 (congrArg Addr.block h)), World.cell?_setCell_other _ _ _ _ (fun h => e2 (congrArg Addr.block h)), k2]; rfl
theorem cmpV_nonneg {x y : Int} (h : y ≤ x) : 0 ≤ cmpV x y := by
  unfold cmpV; rw [if_neg (by omega)]; split <;> omega

set_option maxHeartbeats 2000000 in
theorem addr_ge (va vb : Value) (na : Bool) (la lb : List Int) (w : World) (ha : BigV w va na la) (hb : BigV w vb (!na) lb) (h1 : la.length ≤ 38) (h2 : lb.length ≤ 38) (hv : val lb ≤ val la) :
    Calls Try.prog 46 #[va, vb] w (RetBig w (sval na la + sval (!na) lb) (max la.length lb.length + 1)) := by
  obtain ⟨A, c, rfl, hr, hd⟩ := ha
  obtain ⟨A', c', rfl, hr', hd'⟩ := hb
  have HP := Lib.hid (put_sub_in (c := c) (c' := c') hr hr' hd hd' h1 h2 hv)
  have HC := Lib.hid (cmpSize_in (c := c) (c' := c') hr hr' hd hd' (by omega) (by omega))
  have hx : 0 ≤ cmpV (val la) (val lb) := cmpV_nonneg hv
  have hb : (na == !na) = false := by cases na <;> rfl
  clear hr hr' hd hd' hv
  have hBW := three_below w #[.bool na, .slice A la.length c] #[.bool (!na), .slice A' lb.length c'] #[.bool false, .slice none 0 0] 53
  go_enter Try.func46, Try.ntmps46
  go_wp2_with (go_at_call 44; refine (HC.out _ (by exact hBW)).mono ?_; rintro e w2 ⟨rfl, rfl⟩)
  go_region_held3 (fun w' => w'.cell? ⟨w.heap.size, 0, none⟩ = some (.bool na) ∧ w'.cell? ⟨w.heap.size, 1, none⟩ = some (.slice A la.length c) ∧ w'.cell? ⟨w.heap.size + 1, 1, none⟩ = some (.slice A' lb.length c')) (first | exact keep3 (by assumption) (by assumption) | go_keep)
    (first
      | (go_at_call 45; refine (HP.out _ (by first | exact hBW | exact hBW.drew)).mono ?_; rintro e w2 ⟨v, r, rfl, hown, hdig, hval, hlen, hbel⟩; have HH := Lib.hid (And.intro hval hlen); clear hval hlen; obtain ⟨Ar, cr, rfl, _, _, _⟩ := hown.form; obtain ⟨k1, k2, k3, k4⟩ := three_cells (below_of_drew hbel)))
  go_wp2_with fail
  have hs : sval na r = sval na la + sval (!na) lb := by
    have := HH.out.1
    cases na <;> simp [sval] <;> omega
  have hm : r.length ≤ max la.length lb.length + 1 := by have := HH.out.2; omega
  refine bodyPost_ret (v := .agg #[.bool na, .slice Ar r.length cr]) ?_ rfl (big_end hbel hown hdig hs hm)
  simp [results, Try.results46, go_sem, k3]

set_option maxHeartbeats 2000000 in
theorem addr_lt (va vb : Value) (na : Bool) (la lb : List Int) (w : World) (ha : BigV w va na la) (hb : BigV w vb (!na) lb) (h1 : la.length ≤ 38) (h2 : lb.length ≤ 38) (hv : val la < val lb) :
    Calls Try.prog 46 #[va, vb] w (RetBig w (sval na la + sval (!na) lb) (max la.length lb.length + 1)) := by
  obtain ⟨A, c, rfl, hr, hd⟩ := ha
  obtain ⟨A', c', rfl, hr', hd'⟩ := hb
  have HP := Lib.hid (put_sub_in (c := c') (c' := c) hr' hr hd' hd h2 h1 (Int.le_of_lt hv))
  have HC := Lib.hid (cmpSize_in (c := c) (c' := c') hr hr' hd hd' (by omega) (by omega))
  have hx : cmpV (val la) (val lb) < 0 := by rw [cmpV_lt hv]; decide
  have hb : (na == !na) = false := by cases na <;> rfl
  clear hr hr' hd hd' hv
  have hBW := three_below w #[.bool na, .slice A la.length c] #[.bool (!na), .slice A' lb.length c'] #[.bool false, .slice none 0 0] 53
  go_enter Try.func46, Try.ntmps46
  go_wp2_with (go_at_call 44; refine (HC.out _ (by exact hBW)).mono ?_; rintro e w2 ⟨rfl, rfl⟩)
  go_region_held3 (fun w' => w'.cell? ⟨w.heap.size + 1, 0, none⟩ = some (.bool (!na)) ∧ w'.cell? ⟨w.heap.size, 1, none⟩ = some (.slice A la.length c) ∧ w'.cell? ⟨w.heap.size + 1, 1, none⟩ = some (.slice A' lb.length c')) (first | exact keep3' (by assumption) (by assumption) | go_keep)
    (first
      | (go_at_call 45; refine (HP.out _ (by first | exact hBW | exact hBW.drew)).mono ?_; rintro e w2 ⟨v, r, rfl, hown, hdig, hval, hlen, hbel⟩; have HH := Lib.hid (And.intro hval hlen); clear hval hlen; obtain ⟨Ar, cr, rfl, _, _, _⟩ := hown.form; obtain ⟨k1, k2, k3, k4⟩ := three_cells (below_of_drew hbel)))
  go_wp2_with fail
  have hs : sval (!na) r = sval na la + sval (!na) lb := by
    have := HH.out.1
    cases na <;> simp [sval] <;> omega
  have hm : r.length ≤ max la.length lb.length + 1 := by have := HH.out.2; omega
  refine bodyPost_ret (v := .agg #[.bool (!na), .slice Ar r.length cr]) ?_ rfl (big_end hbel hown hdig hs hm)
  simp [results, Try.results46, go_sem, k3]

/-- Add, whatever the signs. -/
theorem add_ref (va vb : Value) (na nb : Bool) (la lb : List Int) (w : World) (ha : BigV w va na la) (hb : BigV w vb nb lb) (h1 : la.length ≤ 38) (h2 : lb.length ≤ 38) :
    Calls Try.prog 46 #[va, vb] w (RetBig w (sval na la + sval nb lb) (max la.length lb.length + 1)) := by
  by_cases h : na = nb
  · subst h; exact addr_same va vb na la lb w ha hb h1 h2
  · obtain rfl : nb = !na := by cases na <;> cases nb <;> simp_all
    by_cases hv : val lb ≤ val la
    · exact addr_ge va vb na la lb w ha hb h1 h2 hv
    · exact addr_lt va vb na la lb w ha hb h1 h2 (by omega)
end Go.Proofs.Ytaeondpeaabfeaa
