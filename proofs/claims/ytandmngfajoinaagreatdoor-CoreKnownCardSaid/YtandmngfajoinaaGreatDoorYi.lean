/- Forms: the listed table; an item's text. -/
import Derived.Test.YtandmngfajoinaaGreatDoorYg
import Derived.Test.YtandmngfajoinaaGreatDoorRows
import Derived.MakeChecks
import Derived.Stop.Joined
import Derived.Lib.LaidU8
namespace Go.Proofs.YtandmngfajoinaaGreatDoor
open Go.RowKit Go.Shelf

theorem itoa_digit {n : Nat} (h : n < 10) : Lib.itoa (n : Int) = [UInt8.ofNat (48 + n)] := by rw [Lib.itoa_nonneg, Lib.decDigits_one h]
theorem itoa_minus {n : Nat} (h0 : 1 ≤ n) (h : n < 10) : Lib.itoa (-(n : Int)) = [45, UInt8.ofNat (48 + n)] := by rw [Lib.itoa_neg n h0, Lib.decDigits_one h]
theorem laid_tab (W : World) (h : laidMetH Tryz.prog [("math/bits.deBruijn32tab", Rows.laid_math_bits_deBruijn32tab), ("math/bits.deBruijn64tab", Rows.laid_math_bits_deBruijn64tab), ("internal/strconv.uint64pow10", Rows.laid_internal_strconv_uint64pow10)] W) : Tab W := by
  rw [MakeChecks.laidMetH_plain _ _ _ (by rfl)] at h
  obtain ⟨g, t, cs, fuel, p, hg, hty, hvar, hd⟩ := Lib.laidMet.reads h (.tail _ (.tail _ (.head _)))
  have hg0 : Tryz.prog.globalNamed "internal/strconv.uint64pow10" = some 0 := by kernel_rfl
  have ht0 : (Tryz.prog.globals[0]?).map (·.type) = some 112 := by kernel_rfl
  obtain rfl := Option.some.inj (hg0.symm.trans hg)
  obtain rfl := Option.some.inj (ht0.symm.trans hty)
  have hc1 : Tryz.prog.cellsOf 89 = 1 := by kernel_rfl
  have hc20 : Tryz.prog.cellsOf 112 = 20 := by kernel_rfl
  have hdd : (Rows.laid_internal_strconv_uint64pow10 : DataW Unit) = Lib.tabData .u64 Lib.pow10Tab := by rfl
  rw [hdd] at hd
  have hcs := Lib.cells_of_tab Tryz.underlying112 Tryz.underlying89 hc1 hc20 hd
  unfold Tab Lib.TabIs
  rw [hvar, ← hcs]
end Go.Proofs.YtandmngfajoinaaGreatDoor
