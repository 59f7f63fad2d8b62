/- Forms: the law's form of two, awake; the listed table. -/
import Derived.Test.YtmoifjaaencjbaaDoorZg
import Derived.Test.YtmoifjaaencjbaaDoorZe
import Derived.Test.YtmoifjaaencjbaaDoorRows
import Derived.MakeChecks
import Derived.Stop.Joined
import Derived.Lib.LaidU8
namespace Go.Proofs.YtmoifjaaencjbaaDoor
open Go.RowKit Go.Shelf

def twoL : List RI := [(1, 2, 0), (3, 1, -5)]
def TwoRet (w : World) (e : Ending) (w' : World) : Prop :=
  ∃ g : Nat, e = .returned (.agg #[.int .i64 3, .slice (some ⟨g, 0, none⟩) 2 2]) ∧ TRow w' (some ⟨g, 0, none⟩) twoL ∧ Below w.heap.size w w'
set_option maxHeartbeats 1000000 in
theorem two_c (w : World) : Calls Tryd.prog 11 #[] w (TwoRet w) := by
  go_enter Tryd.func11, Tryd.ntmps11
  go_wp2_with fail
  refine bodyPost_ret (res_box1 rfl _ w.heap.size #[.int .i64 3, .slice (some ⟨w.heap.size + 1, 0, none⟩) 2 2] _ rfl (heap_alloc2_old w _ _) Tryd.underlying25 rfl (by kernel_rfl)) rfl ?_
  exact ⟨_, rfl, TRow.of_box (show BoxAt _ _ 27 _ from heap_alloc2_new w _ _) rfl, ((Below.refl _ w).alloc (Nat.le_refl _) _).alloc (by simp) _⟩

theorem itoa_digit {n : Nat} (h : n < 10) : Lib.itoa (n : Int) = [UInt8.ofNat (48 + n)] := by rw [Lib.itoa_nonneg, Lib.decDigits_one h]
theorem itoa_minus {n : Nat} (h0 : 1 ≤ n) (h : n < 10) : Lib.itoa (-(n : Int)) = [45, UInt8.ofNat (48 + n)] := by rw [Lib.itoa_neg n h0, Lib.decDigits_one h]
theorem twoT : textL 3 twoL = [51, 58, 32, 49, 47, 50, 47, 48, 32, 51, 47, 49, 47, 45, 53] := by
  have e0 : Lib.itoa 0 = [48] := itoa_digit (n := 0) (by omega)
  have e1 : Lib.itoa 1 = [49] := itoa_digit (n := 1) (by omega)
  have e2 : Lib.itoa 2 = [50] := itoa_digit (n := 2) (by omega)
  have e3 : Lib.itoa 3 = [51] := itoa_digit (n := 3) (by omega)
  have e5 : Lib.itoa (-5) = [45, 53] := itoa_minus (n := 5) (by omega) (by omega)
  simp [textL, itemsT, twoL, itemT, e0, e1, e2, e3, e5]
theorem twoSm : ∀ r ∈ twoL, SmR r := by
  intro r hr
  simp [twoL] at hr
  rcases hr with rfl | rfl <;> (refine ⟨⟨?_, ?_⟩, ⟨?_, ?_⟩, ⟨?_, ?_⟩⟩ <;> decide)
theorem twoG : goodV 3 twoL = true := by decide +kernel

set_option maxRecDepth 100000 in
set_option maxHeartbeats 2000000 in
theorem awake_c (w : World) (ht : Tab w) : Calls Tryd.prog 7 #[] w (Ret10 (.bool true) w) := by
  have HT := Lib.hid ht
  have E := Lib.hid twoT
  have G := Lib.hid twoG
  clear ht
  go_enter Tryd.func7, Tryd.ntmps7
  go_wp2_with fail
  refine (two_c w).mono ?_
  rintro e w1 ⟨g, rfl, hr, hb⟩
  have K1 := Lib.hid (text_c 3 (some ⟨g, 0, none⟩) 2 2 twoL w1 rfl (by omega) hr (HT.out.below hb (Nat.le_refl _)) ⟨by decide, by decide⟩ twoSm)
  rw [E.out] at K1
  have HB1 := Lib.hid hb
  clear hr hb
  go_wp2_with fail
  refine K1.out.mono ?_
  rintro e w2 ⟨rfl, hb⟩
  have HB2 := Lib.hid (HB1.out.trans (hb.mono HB1.out.size))
  clear hb K1
  go_wp2_with fail
  refine (two_c w2).mono ?_
  rintro e w3 ⟨g', rfl, hr, hb⟩
  have HB3 := Lib.hid (HB2.out.trans (hb.mono HB2.out.size))
  have K2 := Lib.hid (good_c 3 (some ⟨g', 0, none⟩) 2 2 twoL w3 rfl (by omega) hr)
  rw [G.out] at K2
  clear hr hb
  go_wp2_with fail
  refine K2.out.mono ?_
  rintro e w4 ⟨rfl, hb⟩
  have HB4 := Lib.hid (HB3.out.trans (hb.mono HB3.out.size))
  clear hb K2
  go_wp2_with fail
  go_ret
  exact ⟨rfl, HB4.out⟩

theorem laid_tab (W : World) (h : laidMetH Tryd.prog [("math/bits.deBruijn32tab", Rows.laid_math_bits_deBruijn32tab), ("math/bits.deBruijn64tab", Rows.laid_math_bits_deBruijn64tab), ("internal/strconv.uint64pow10", Rows.laid_internal_strconv_uint64pow10)] W) : Tab W := by
  rw [MakeChecks.laidMetH_plain _ _ _ (by rfl)] at h
  obtain ⟨g, t, cs, fuel, p, hg, hty, hvar, hd⟩ := Lib.laidMet.reads h (.tail _ (.tail _ (.head _)))
  have hg0 : Tryd.prog.globalNamed "internal/strconv.uint64pow10" = some 0 := by kernel_rfl
  have ht0 : (Tryd.prog.globals[0]?).map (·.type) = some 80 := by kernel_rfl
  obtain rfl := Option.some.inj (hg0.symm.trans hg)
  obtain rfl := Option.some.inj (ht0.symm.trans hty)
  have hc1 : Tryd.prog.cellsOf 73 = 1 := by kernel_rfl
  have hc20 : Tryd.prog.cellsOf 80 = 20 := by kernel_rfl
  have hdd : (Rows.laid_internal_strconv_uint64pow10 : DataW Unit) = Lib.tabData .u64 Lib.pow10Tab := by rfl
  rw [hdd] at hd
  have hcs := Lib.cells_of_tab Tryd.underlying80 Tryd.underlying73 hc1 hc20 hd
  unfold Tab Lib.TabIs
  rw [hvar, ← hcs]
end Go.Proofs.YtmoifjaaencjbaaDoor
