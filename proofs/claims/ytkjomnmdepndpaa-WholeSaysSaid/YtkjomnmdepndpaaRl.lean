/- The reference's Add where six digits are enough, and its Sum. -/
import Derived.Test.YtkjomnmdepndpaaRk
import Derived.Test.YtkjomnmdepndpaaWe
namespace Go.Proofs.Ytkjomnmdepndpaa
open Go.RowKit

theorem put_add_six {w : World} {A A' : Option Addr} {c c' : Nat} {la lb : List Int} (hr : IRow .i64 w w.heap.size A la) (hr' : IRow .i64 w w.heap.size A' lb) (hd : Dig la) (hd' : Dig lb) (h1 : la.length ≤ 6) (h2 : lb.length ≤ 6) (hv : val la + val lb < 65536 ^ 6) (W : World) (hb : Below w.heap.size w W) :
    Calls Try.prog 38 #[.slice A la.length c, .slice A' lb.length c', .int .i64 1] W (RetI W (val la + val lb) 6) :=
  (put_add_p A A' c c' la lb W ((hr.below hb).more hb.size) ((hr'.below hb).more hb.size) hd hd' (by omega) (by omega)).mono fun _ _ ⟨v, r, k1, k2, k3, k4, k5, k6⟩ =>
    ⟨v, r, k1, k2, k3, k4, by
      rcases k5 with k5 | ⟨k5, k7⟩
      · omega
      · rw [k4] at k7
        have hmx : max la.length lb.length ≤ 6 := by omega
        generalize max la.length lb.length = M at *
        by_cases hM : M ≤ 5
        · omega
        · obtain rfl : M = 6 := by omega
          omega, k6⟩
theorem put_sub_six {w : World} {A A' : Option Addr} {c c' : Nat} {la lb : List Int} (hr : IRow .i64 w w.heap.size A la) (hr' : IRow .i64 w w.heap.size A' lb) (hd : Dig la) (hd' : Dig lb) (h1 : la.length ≤ 6) (h2 : lb.length ≤ 6) (hle : val lb ≤ val la) (W : World) (hb : Below w.heap.size w W) :
    Calls Try.prog 38 #[.slice A la.length c, .slice A' lb.length c', .int .i64 (-1)] W (RetI W (val la - val lb) 6) :=
  (put_sub_p A A' c c' la lb W ((hr.below hb).more hb.size) ((hr'.below hb).more hb.size) hd hd' (by omega) (by omega) hle).mono fun _ _ ⟨v, r, k1, k2, k3, k4, k5, k6⟩ => ⟨v, r, k1, k2, k3, k4, by omega, k6⟩

set_option maxHeartbeats 2000000 in
theorem six_same (va vb : Value) (na : Bool) (la lb : List Int) (w : World) (ha : BigV w va na la) (hb : BigV w vb na lb) (h1 : la.length ≤ 6) (h2 : lb.length ≤ 6) (hv : val la + val lb < 65536 ^ 6) :
    Calls Try.prog 21 #[va, vb] w (RetBig w (sval na la + sval na lb) 6) := by
  obtain ⟨A, c, rfl, hr, hd⟩ := ha
  obtain ⟨A', c', rfl, hr', hd'⟩ := hb
  have HP := Lib.hid (put_add_six (c := c) (c' := c') hr hr' hd hd' h1 h2 hv)
  clear hr hr' hd hd' hv
  have hBW := three_below w #[.bool na, .slice A la.length c] #[.bool na, .slice A' lb.length c'] #[.bool false, .slice none 0 0] 34
  go_enter Try.func21, Try.ntmps21
  go_wp2_with fail
  go_region_held3 (fun w' => w'.cell? ⟨w.heap.size, 0, none⟩ = some (.bool na) ∧ w'.cell? ⟨w.heap.size, 1, none⟩ = some (.slice A la.length c) ∧ w'.cell? ⟨w.heap.size + 1, 1, none⟩ = some (.slice A' lb.length c')) (first | exact keep3 (by assumption) (by assumption) | go_keep)
    (first
      | (go_at_call 38; refine (HP.out _ (by first | exact hBW | exact hBW.drew)).mono ?_; rintro e w2 ⟨v, r, rfl, hown, hdig, hval, hlen, hbel⟩; have HH := Lib.hid (And.intro hval hlen); clear hval hlen; obtain ⟨Ar, cr, rfl, _, _, _⟩ := hown.form; obtain ⟨k1, k2, k3, k4⟩ := three_cells (below_of_drew hbel)))
  go_wp2_with fail
  have hs : sval na r = sval na la + sval na lb := by
    have := HH.out.1
    cases na <;> simp [sval] <;> omega
  refine bodyPost_ret (v := .agg #[.bool na, .slice Ar r.length cr]) ?_ rfl (big_end hbel hown hdig hs HH.out.2)
  simp [results, Try.results21, go_sem, k3]

set_option maxHeartbeats 2000000 in
theorem six_ge (va vb : Value) (na : Bool) (la lb : List Int) (w : World) (ha : BigV w va na la) (hb : BigV w vb (!na) lb) (h1 : la.length ≤ 6) (h2 : lb.length ≤ 6) (hv : val lb ≤ val la) :
    Calls Try.prog 21 #[va, vb] w (RetBig w (sval na la + sval (!na) lb) 6) := by
  obtain ⟨A, c, rfl, hr, hd⟩ := ha
  obtain ⟨A', c', rfl, hr', hd'⟩ := hb
  have HP := Lib.hid (put_sub_six (c := c) (c' := c') hr hr' hd hd' h1 h2 hv)
  have HC := Lib.hid (cmpSize_in (c := c) (c' := c') hr hr' hd hd' (by omega) (by omega))
  have hx : 0 ≤ cmpV (val la) (val lb) := cmpV_nonneg hv
  have hb : (na == !na) = false := by cases na <;> rfl
  clear hr hr' hd hd' hv
  have hBW := three_below w #[.bool na, .slice A la.length c] #[.bool (!na), .slice A' lb.length c'] #[.bool false, .slice none 0 0] 34
  go_enter Try.func21, Try.ntmps21
  go_wp2_with (go_at_call 39; refine (HC.out _ (by exact hBW)).mono ?_; rintro e w2 ⟨rfl, rfl⟩)
  go_region_held3 (fun w' => w'.cell? ⟨w.heap.size, 0, none⟩ = some (.bool na) ∧ w'.cell? ⟨w.heap.size, 1, none⟩ = some (.slice A la.length c) ∧ w'.cell? ⟨w.heap.size + 1, 1, none⟩ = some (.slice A' lb.length c')) (first | exact keep3 (by assumption) (by assumption) | go_keep)
    (first
      | (go_at_call 38; refine (HP.out _ (by first | exact hBW | exact hBW.drew)).mono ?_; rintro e w2 ⟨v, r, rfl, hown, hdig, hval, hlen, hbel⟩; have HH := Lib.hid (And.intro hval hlen); clear hval hlen; obtain ⟨Ar, cr, rfl, _, _, _⟩ := hown.form; obtain ⟨k1, k2, k3, k4⟩ := three_cells (below_of_drew hbel)))
  go_wp2_with fail
  have hs : sval na r = sval na la + sval (!na) lb := by
    have := HH.out.1
    cases na <;> simp [sval] <;> omega
  refine bodyPost_ret (v := .agg #[.bool na, .slice Ar r.length cr]) ?_ rfl (big_end hbel hown hdig hs HH.out.2)
  simp [results, Try.results21, go_sem, k3]

set_option maxHeartbeats 2000000 in
theorem six_lt (va vb : Value) (na : Bool) (la lb : List Int) (w : World) (ha : BigV w va na la) (hb : BigV w vb (!na) lb) (h1 : la.length ≤ 6) (h2 : lb.length ≤ 6) (hv : val la < val lb) :
    Calls Try.prog 21 #[va, vb] w (RetBig w (sval na la + sval (!na) lb) 6) := by
  obtain ⟨A, c, rfl, hr, hd⟩ := ha
  obtain ⟨A', c', rfl, hr', hd'⟩ := hb
  have HP := Lib.hid (put_sub_six (c := c') (c' := c) hr' hr hd' hd h2 h1 (Int.le_of_lt hv))
  have HC := Lib.hid (cmpSize_in (c := c) (c' := c') hr hr' hd hd' (by omega) (by omega))
  have hx : cmpV (val la) (val lb) < 0 := by rw [cmpV_lt hv]; decide
  have hb : (na == !na) = false := by cases na <;> rfl
  clear hr hr' hd hd' hv
  have hBW := three_below w #[.bool na, .slice A la.length c] #[.bool (!na), .slice A' lb.length c'] #[.bool false, .slice none 0 0] 34
  go_enter Try.func21, Try.ntmps21
  go_wp2_with (go_at_call 39; refine (HC.out _ (by exact hBW)).mono ?_; rintro e w2 ⟨rfl, rfl⟩)
  go_region_held3 (fun w' => w'.cell? ⟨w.heap.size + 1, 0, none⟩ = some (.bool (!na)) ∧ w'.cell? ⟨w.heap.size, 1, none⟩ = some (.slice A la.length c) ∧ w'.cell? ⟨w.heap.size + 1, 1, none⟩ = some (.slice A' lb.length c')) (first | exact keep3' (by assumption) (by assumption) | go_keep)
    (first
      | (go_at_call 38; refine (HP.out _ (by first | exact hBW | exact hBW.drew)).mono ?_; rintro e w2 ⟨v, r, rfl, hown, hdig, hval, hlen, hbel⟩; have HH := Lib.hid (And.intro hval hlen); clear hval hlen; obtain ⟨Ar, cr, rfl, _, _, _⟩ := hown.form; obtain ⟨k1, k2, k3, k4⟩ := three_cells (below_of_drew hbel)))
  go_wp2_with fail
  have hs : sval (!na) r = sval na la + sval (!na) lb := by
    have := HH.out.1
    cases na <;> simp [sval] <;> omega
  refine bodyPost_ret (v := .agg #[.bool (!na), .slice Ar r.length cr]) ?_ rfl (big_end hbel hown hdig hs HH.out.2)
  simp [results, Try.results21, go_sem, k3]

/-- Add, where six digits are enough. -/
theorem add_six (va vb : Value) (na nb : Bool) (la lb : List Int) (w : World) (ha : BigV w va na la) (hb : BigV w vb nb lb) (h1 : la.length ≤ 6) (h2 : lb.length ≤ 6) (hc : val la + val lb < 65536 ^ 6) :
    Calls Try.prog 21 #[va, vb] w (RetBig w (sval na la + sval nb lb) 6) := by
  by_cases h : na = nb
  · subst h; exact six_same va vb na la lb w ha hb h1 h2 hc
  · obtain rfl : nb = !na := by cases na <;> cases nb <;> simp_all
    by_cases hv : val lb ≤ val la
    · exact six_ge va vb na la lb w ha hb h1 h2 hv
    · exact six_lt va vb na la lb w ha hb h1 h2 (by omega)
end Go.Proofs.Ytkjomnmdepndpaa
