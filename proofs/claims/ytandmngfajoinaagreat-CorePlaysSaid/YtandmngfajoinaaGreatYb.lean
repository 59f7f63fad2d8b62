/- Forms: slices.IndexFunc with its two closures; place, has. -/
import Derived.Test.YtandmngfajoinaaGreatYa
namespace Go.Proofs.YtandmngfajoinaaGreat
open Go.RowKit

/-- The place of the first item of which p holds; -1. -/
def idxL (p : RI → Bool) : List RI → Nat → Int
  | [], _ => -1
  | x :: xs, k => if p x then (k : Int) else idxL p xs (k + 1)
theorem idxL_step {p : RI → Bool} {l : List RI} {k : Nat} {r : RI} (h : l[k]? = some r) : idxL p (l.drop k) k = if p r then (k : Int) else idxL p (l.drop (k + 1)) (k + 1) := by
  obtain ⟨hlt, he⟩ := List.getElem?_eq_some_iff.1 h
  rw [List.drop_eq_getElem_cons hlt, he, idxL]
theorem idxL_end {p : RI → Bool} (l : List RI) (k : Nat) : idxL p (l.drop l.length) k = -1 := by rw [List.drop_length]; rfl
def idIs (id : Int) (r : RI) : Bool := decide (r.1 = id)
def idOver (id : Int) (r : RI) : Bool := decide (id < r.1)

set_option maxHeartbeats 1000000 in
theorem place1_c (x0 x1 x2 id : Int) (b : Nat) (w : World) (h : w.cell? ⟨b, 0, none⟩ = some (.int .i64 id)) :
    Calls Tryz.prog 61 #[.agg #[.int .i64 x0, .int .i64 x1, .int .i64 x2], .pointer (some ⟨b, 0, none⟩)] w (Ret10 (.bool (idIs id (x0, x1, x2))) w) := by
  have hb := cell_lt0 h
  have HB := Lib.hid ((Below.refl _ w).alloc (Nat.le_refl _) (.cells #[.int .i64 x0, .int .i64 x1, .int .i64 x2] 69))
  have h' : (w.alloc (.cells #[.int .i64 x0, .int .i64 x1, .int .i64 x2] 69)).cell? ⟨b, 0, none⟩ = some (.int .i64 id) := (HB.out.cell (p := ⟨b, 0, none⟩) hb).trans h
  by_cases he : x0 = id
  · subst he
    go_enter Tryz.func61, Tryz.ntmps61
    go_wp2_with fail
    go_ret
    exact ⟨ret_b (by simp [idIs]), HB.out⟩
  · have he' : (x0 == id) = false := by simp [he]
    go_enter Tryz.func61, Tryz.ntmps61
    go_wp2_with fail
    go_ret
    exact ⟨ret_b (by simp [idIs, he]), HB.out⟩
set_option maxRecDepth 100000 in
set_option maxHeartbeats 2000000 in
theorem indexId_c (A : Option Addr) (n c b : Nat) (id : Int) (l : List RI) (w : World) (hn : l.length = n) (hl : n ≤ 9223372036854775807) (hr : TRow w A l) (hc : w.cell? ⟨b, 0, none⟩ = some (.int .i64 id)) :
    Calls Tryz.prog 60 #[.slice A n c, .func (.func 61) #[] #[.pointer (some ⟨b, 0, none⟩)]] w (Ret10 (.int .i64 (idxL (idIs id) l 0)) w) := by
  have HR := Lib.hid hr
  have HN := Lib.hid hn
  have HC := Lib.hid hc
  have hbl := cell_lt0 hc
  clear hr hn hc
  go_enter Tryz.func60, Tryz.ntmps60
  go_wp2_with fail
  go_loopw [8] (fun i wr => ∃ k : Nat, i = .int .i64 k ∧ k ≤ n ∧ Below w.heap.size w wr ∧ idxL (idIs id) l 0 = idxL (idIs id) (l.drop k) k) (fun i _ => n - (intOf i).toNat)
  case atStart => exact ⟨0, rfl, Nat.zero_le _, Below.refl _ _, by simp⟩
  case round =>
    obtain ⟨k, rfl, hk, hb, hat⟩ := hrel
    have HAT := Lib.hid hat
    clear hat
    by_cases hlt : k < n
    · obtain ⟨r, hx⟩ : ∃ r, l[k]? = some r := ⟨_, List.getElem?_eq_getElem (by rw [HN.out]; exact hlt)⟩
      obtain ⟨ad, rfl, c0, c1, c2⟩ := (HR.out.below hb (Nat.le_refl _)).at hx
      have HS := Lib.hid (idxL_step (p := idIs id) hx)
      have HK := Lib.hid (place1_c r.1 r.2.1 r.2.2 id b wr ((hb.cell (p := ⟨b, 0, none⟩) hbl).trans HC.out))
      have HB := Lib.hid hb
      clear hx hb
      obtain ⟨x0, x1, x2⟩ := r
      go_wp2_with fail
      refine HK.out.mono ?_
      rintro e w1 ⟨rfl, hb1⟩
      have HB1 := Lib.hid (HB.out.trans (hb1.mono HB.out.size))
      clear hb1 HK c0 c1 c2
      cases hp : idIs id (x0, x1, x2)
      · have HP := Lib.hid hp
        clear hp
        go_wp2_with fail
        go_roundw
        case rel => exact ⟨k + 1, by go_num, by omega, HB1.out, by rw [HAT.out, HS.out, HP.out]; rfl⟩
        case measure => simp [intOf]; omega
      · have HP := Lib.hid hp
        clear hp
        go_wp2_with fail
        go_ret
        exact ⟨ret_i (by rw [HAT.out, HS.out, HP.out]; rfl), HB1.out⟩
    · have HB := Lib.hid hb
      clear hb
      obtain rfl : k = n := by omega
      go_wp2_with fail
      go_ret
      exact ⟨ret_i (by rw [HAT.out, ← HN.out]; exact (idxL_end l _).symm), HB.out⟩
set_option maxRecDepth 100000 in
set_option maxHeartbeats 1000000 in
theorem oplace_c (A : Option Addr) (n c : Nat) (id : Int) (l : List RI) (w : World) (hn : l.length = n) (hl : n ≤ 9223372036854775807) (hr : TRow w A l) :
    Calls Tryz.prog 53 #[.slice A n c, .int .i64 id] w (Ret10 (.int .i64 (idxL (idIs id) l 0)) w) := by
  have HB := Lib.hid ((Below.refl _ w).alloc (Nat.le_refl _) (.cells #[.int .i64 id] 3))
  have K1 := Lib.hid (indexId_c A n c w.heap.size id l (w.alloc (.cells #[.int .i64 id] 3)) hn hl (hr.below HB.out (Nat.le_refl _)) (by rw [World.cell?_alloc_new]; rfl))
  clear hn hr
  go_enter Tryz.func53, Tryz.ntmps53
  go_wp2_with fail
  refine K1.out.mono ?_
  rintro e w1 ⟨rfl, hb1⟩
  have HB1 := Lib.hid (HB.out.trans (hb1.mono HB.out.size))
  clear hb1
  go_wp2_with fail
  go_ret
  exact ⟨rfl, HB1.out⟩

def hasL (id : Int) (l : List RI) : Bool := decide (0 ≤ idxL (idIs id) l 0)
set_option maxRecDepth 100000 in
set_option maxHeartbeats 1000000 in
theorem has_c (f0 : Int) (A : Option Addr) (n c : Nat) (id : Int) (l : List RI) (w : World) (hn : l.length = n) (hl : n ≤ 9223372036854775807) (hr : TRow w A l) :
    Calls Tryz.prog 76 #[.agg #[.int .i64 f0, .slice A n c], .int .i64 id] w (Ret10 (.bool (hasL id l)) w) := by
  have HB := Lib.hid ((Below.refl _ w).alloc (Nat.le_refl _) (.cells #[.int .i64 f0, .slice A n c] 47))
  have K1 := Lib.hid (oplace_c A n c id l (w.alloc (.cells #[.int .i64 f0, .slice A n c] 47)) hn hl (hr.below HB.out (Nat.le_refl _)))
  have HV : Hid (hasL id l = decide (0 ≤ idxL (idIs id) l 0)) := Lib.hid rfl
  generalize idxL (idIs id) l 0 = z at *
  generalize hasL id l = bb at *
  clear hn hr
  go_enter Tryz.func76, Tryz.ntmps76
  go_wp2_with fail
  refine K1.out.mono ?_
  rintro e w1 ⟨rfl, hb1⟩
  have HB1 := Lib.hid (HB.out.trans (hb1.mono HB.out.size))
  clear hb1
  go_wp2_with fail
  go_ret
  exact ⟨ret_b HV.out.symm, HB1.out⟩
end Go.Proofs.YtandmngfajoinaaGreat
