/- The contract of math/bits.Div64, over this program. -/
import Derived.Test.YtaeondpeaabfeaaWm
import Derived.Test.YtaeondpeaabfeaaLen
import Derived.Test.YtaeondpeaabfeaaDiv
import Derived.RegionTactic
import Derived.Deep.QuietTactic
import Derived.BigQuiet
import Derived.LoopTactic
import Derived.Deep.CutBlock
import Derived.Deep.DeepCutAuto
import Derived.Deep.LoopGhost
namespace Go.Proofs.Ytaeondpeaabfeaa
open Go.RowKit

/-- An ending that is this one; the world has at most drawn. -/
def Drawn (v : Value) (w : World) (e : Ending) (w' : World) : Prop := e = .returned v ∧ ∃ n, w' = w.drewN n

set_option maxHeartbeats 400000 in
theorem div64_low (lo y : Nat) (w : World) (h1 : lo < 18446744073709551616) (h2 : y < 18446744073709551616) (h3 : 0 < y) :
    Calls Try.prog 30 #[.int .u64 0, .int .u64 lo, .int .u64 y] w (Drawn (.tuple #[.int .u64 (lo / y : Nat), .int .u64 (lo % y : Nat)]) w) := by
  have hy : ((y : Int) == 0) = false := beq_eq_false_iff_ne.2 (by omega)
  have hy2 : ¬ ((y : Int) ≤ 0) := by omega
  have hyn : ¬ (y = 0) := by omega
  go_enter Try.func30, Try.ntmps30
  go_wp2
  go_quiet (fail)
  go_wp2
  exact bodyPost_ret (v := .tuple #[.int .u64 (lo / y : Nat), .int .u64 (lo % y : Nat)]) (by rw [show IntKind.u64.wrap ((lo : Int) / (y : Int)) = ((lo / y : Nat) : Int) by have := Nat.div_le_self lo y; rw [← Int.natCast_ediv, wrapN _ (by omega)]]; simp [results, Try.results30, go_sem]) rfl ⟨rfl, nq, rfl⟩

/-- What holds at a round's head: q' is no less than the digit, q' * a + r' is what was to be divided. -/
def DRel (X a Q : Nat) (q r : Int) : Prop := ∃ q' r' : Nat, q = q' ∧ r = r' ∧ q' * a + r' = X ∧ r' < 4294967296 ∧ q' ≤ 4294967297 ∧ Q ≤ q'
/-- The loop's own test. -/
def DTest (b d : Nat) (q r : Int) : Prop := 4294967296 ≤ q ∨ IntKind.u64.wrap (IntKind.u64.wrap (4294967296 * r) + (d : Int)) < IntKind.u64.wrap (q * (b : Int))

theorem DTest.iff {X d Y a b Q R q r : Nat} (D : Digit X d Y a b Q R) (hr : r < 4294967296) (hq : q ≤ 4294967297) : DTest b d (q : Int) (r : Int) ↔ 4294967296 ≤ q ∨ 4294967296 * r + d < q * b := by
  have h := D.room hq
  have hd := D.d2
  unfold DTest
  rw [mulN, wrapN _ h, show (4294967296 : Int) * (r : Int) = ((4294967296 * r : Nat) : Int) by omega, wrapN (4294967296 * r) (by omega), addN, wrapN _ (by omega)]
  omega
theorem DRel.start {X d Y a b Q R : Nat} (D : Digit X d Y a b Q R) : DRel X a Q ((X / a : Nat) : Int) ((X % a : Nat) : Int) := by
  obtain ⟨s1, s2, s3, s4⟩ := D.start
  have := D.a2
  exact ⟨X / a, X % a, rfl, rfl, s1, by omega, s3, s4⟩
theorem DRel.more {X d Y a b Q R : Nat} {q r : Int} (D : Digit X d Y a b Q R) (h : DRel X a Q q r) (ht : DTest b d q r) :
    ∃ q' r' : Nat, IntKind.u64.wrap (q - 1) = q' ∧ IntKind.u64.wrap (r + (a : Int)) = r' ∧ q' * a + r' = X ∧ q' ≤ 4294967296 ∧ Q ≤ q' ∧ (q'  : Int) < q := by
  obtain ⟨q', r', rfl, rfl, h1, h2, h3, h4⟩ := h
  have hm := D.more h1 ((DTest.iff D h2 h3).1 ht)
  have := D.a2
  exact ⟨q' - 1, r' + a, by rw [IntKind.wrap_u64]; omega, by rw [IntKind.wrap_u64]; omega, Digit.step h1 (by omega), by omega, by omega, by omega⟩
theorem DRel.leave {X d Y a b Q R : Nat} {q r : Int} (D : Digit X d Y a b Q R) (h : DRel X a Q q r) (ht : DTest b d q r) (hl : 4294967296 ≤ IntKind.u64.wrap (r + (a : Int))) :
    IntKind.u64.wrap (q - 1) = Q := by
  obtain ⟨q', r', e1, e2, h1, h2, h3, h4⟩ := h.more D ht
  rw [e1, D.leave h1 (by omega) h2 h3]
theorem DRel.next {X d Y a b Q R : Nat} {q r : Int} (D : Digit X d Y a b Q R) (h : DRel X a Q q r) (ht : DTest b d q r) (hl : IntKind.u64.wrap (r + (a : Int)) < 4294967296) :
    DRel X a Q (IntKind.u64.wrap (q - 1)) (IntKind.u64.wrap (r + (a : Int))) ∧ (IntKind.u64.wrap (q - 1)).toNat < q.toNat := by
  obtain ⟨q', r', e1, e2, h1, h2, h3, h4⟩ := h.more D ht
  refine ⟨⟨q', r', e1, e2, h1, by omega, by omega, h3⟩, by omega⟩
theorem DRel.stop {X d Y a b Q R : Nat} {q r : Int} (D : Digit X d Y a b Q R) (h : DRel X a Q q r) (ht : ¬ DTest b d q r) : q = Q := by
  obtain ⟨q', r', rfl, rfl, h1, h2, h3, h4⟩ := h
  rw [DTest.iff D h2 h3] at ht
  rw [D.stop h1 (by omega) h4]

theorem Digit.rest {X d Y a b Q R : Nat} (D : Digit X d Y a b Q R) (hY : Y < 18446744073709551616) :
    IntKind.u64.wrap (IntKind.u64.wrap (IntKind.u64.wrap ((X : Int) * 4294967296) + (d : Int)) - IntKind.u64.wrap ((Q : Int) * (Y : Int))) = (R : Int) := by
  have h1 := D.qr
  have h2 := D.r
  rw [mulN]
  simp only [IntKind.wrap_u64]
  generalize Q * Y = p at *
  omega
/-- The first guess, as the program reckons it. -/
theorem Digit.guess {X d Y a b Q R : Nat} (D : Digit X d Y a b Q R) :
    IntKind.u64.wrap ((X : Int).tdiv (a : Int)) = ((X / a : Nat) : Int) ∧ IntKind.u64.wrap ((X : Int) - IntKind.u64.wrap (((X / a : Nat) : Int) * (a : Int))) = ((X % a : Nat) : Int) := by
  obtain ⟨s1, s2, s3, s4⟩ := D.start
  have hx := D.x
  have hy := D.y
  have ha := D.a2
  have hb := D.b2
  have g1 : (X : Int).tdiv (a : Int) = ((X / a : Nat) : Int) := rfl
  refine ⟨by rw [g1, wrapN _ (by omega)], ?_⟩
  rw [mulN, wrapN _ (by omega), IntKind.wrap_u64]
  omega

/-- x or y, where no bit is in both. -/
theorem or_apart {x y k : Nat} (hx : x * 2 ^ k < 18446744073709551616) (hy : y < 2 ^ k) (hy2 : y < 18446744073709551616) : bits .or .u64 ((x * 2 ^ k : Nat) : Int) (y : Int) = ((x * 2 ^ k + y : Nat) : Int) := by
  rw [bits_or_u64_nat _ _ hx hy2, Nat.mul_comm x, ← Nat.two_pow_add_eq_or_of_lt hy]

set_option maxHeartbeats 1000000 in
set_option maxRecDepth 100000 in
theorem div64_c (hi lo y : Nat) (w : World) (h1 : lo < 18446744073709551616) (h2 : y < 18446744073709551616) (h3 : hi < y) (h4 : 0 < hi) :
    Calls Try.prog 30 #[.int .u64 hi, .int .u64 lo, .int .u64 y] w fun e w' => e = .returned (.tuple #[.int .u64 ((hi * 18446744073709551616 + lo) / y : Nat), .int .u64 ((hi * 18446744073709551616 + lo) % y : Nat)]) ∧ w = w' := by
  have hy : ((y : Int) == 0) = false := beq_eq_false_iff_ne.2 (by omega)
  have hh : ((hi : Int) == 0) = false := beq_eq_false_iff_ne.2 (by omega)
  have hl := lead_fits y (by omega) h2
  have hlz := fun w => lead64_c y w h2
  obtain ⟨k, hk⟩ : ∃ k, k = lead y := ⟨_, rfl⟩
  rw [← hk] at hl
  simp only [← hk] at hlz
  clear hk
  obtain ⟨hk, hy1, hy2⟩ := hl
  obtain ⟨X, u1, u0, Y, a, b, Q1, R1, Q0, R0, eY, ea, eb, eX, eu1, eu0, d1, d2, eq, er, ht⟩ := div_two hk hy1 hy2 h1 h3
  have f1 : IntKind.u64.wrap (k : Int) = (k : Int) := wrapN _ (by omega)
  have f2 : min k 64 = k := by omega
  have f3 : IntKind.u64.wrap ((y : Int) * 2 ^ k) = (Y : Int) := by
    rw [eY, show ((y : Int) * 2 ^ k) = ((y * 2 ^ k : Nat) : Int) by simp, wrapN _ hy2]
  have f4 : (Y : Int) / 4294967296 = (a : Int) := by rw [ea]; omega
  have f5 : bits .and .u64 (Y : Int) 4294967295 = (b : Int) := by rw [maskN Y (by omega), eb]
  have f6 : IntKind.u64.wrap (64 - (k : Int)) = ((64 - k : Nat) : Int) := by rw [IntKind.wrap_u64]; omega
  have f7 : min (64 - k) 64 = 64 - k := by omega
  have hx1 := d1.x
  have hxk : hi * 2 ^ k < 18446744073709551616 := Nat.lt_of_le_of_lt (Nat.mul_le_mul_right _ (Nat.le_of_lt h3)) hy2
  have f8 : bits .or .u64 (IntKind.u64.wrap ((hi : Int) * 2 ^ k)) ((lo : Int) / 2 ^ (64 - k)) = (X : Int) := by
    rw [show ((hi : Int) * 2 ^ k) = ((hi * 2 ^ k : Nat) : Int) by simp, wrapN _ hxk, show (lo : Int) / 2 ^ (64 - k) = ((lo / 2 ^ (64 - k) : Nat) : Int) by simp, or_apart hxk ht (Nat.lt_of_le_of_lt (Nat.div_le_self _ _) h1), eX]
  have hu : lo * 2 ^ k % 18446744073709551616 < 18446744073709551616 := Nat.mod_lt _ (by omega)
  obtain ⟨u, eu⟩ : ∃ u, u = lo * 2 ^ k % 18446744073709551616 := ⟨_, rfl⟩
  rw [← eu] at eu1 eu0 hu
  have f9 : IntKind.u64.wrap ((lo : Int) * 2 ^ k) = (u : Int) := by
    rw [show ((lo : Int) * 2 ^ k) = ((lo * 2 ^ k : Nat) : Int) by simp, wrapM, eu]
  have f10 : (u : Int) / 4294967296 = (u1 : Int) := by rw [eu1]; omega
  have f11 : bits .and .u64 (u : Int) 4294967295 = (u0 : Int) := by rw [maskN _ hu, eu0]
  clear eu hu
  obtain ⟨h0, f12⟩ : ∃ h0 : Int, IntKind.u64.wrap ((hi : Int) * 2 ^ k) = h0 := ⟨_, rfl⟩
  obtain ⟨l0, f13⟩ : ∃ l0 : Int, (lo : Int) / 2 ^ (64 - k) = l0 := ⟨_, rfl⟩
  rw [f12, f13] at f8
  have F := And.intro f1 (And.intro f2 (And.intro f3 (And.intro f4 (And.intro f5 (And.intro f6 (And.intro f7 (And.intro f8 (And.intro f9 (And.intro f10 (And.intro f11 (And.intro f12 f13)))))))))))
  have HF := Lib.hid F
  have HE := Lib.hid (And.intro eq er)
  have HL := Lib.hid hlz
  have HY := Lib.hid eY
  clear F f1 f2 f3 f4 f5 f6 f7 f8 f9 f10 f11 f12 f13 eX eu1 eu0 eb ea eq er hlz eY
  go_enter Try.func30, Try.ntmps30
  go_upto_block 0 with (go_at_call 39; refine (HL.out _).mono ?_; rintro e w' ⟨rfl, rfl⟩)
  · exfalso
    rename_i hz
    rw [HF.out.2.2.1, HF.out.2.2.2.1] at hz
    have := d1.a1
    omega
  obtain ⟨f1, f2, f3, f4, f5, f6, f7, f8, f9, f10, f11, f12, f13⟩ := HF.out
  simp only [f3, f4, f5, f12, f13, f8, f9, f10, f11]
  clear f1 f2 f3 f4 f5 f6 f7 f8 f9 f10 f11 f12 f13 HF
  have hYb : Y < 18446744073709551616 := by rw [HY.out]; exact hy2
  obtain ⟨g1, g2⟩ := d1.guess
  simp only [g1, g2]
  clear g1 g2 ht hx1 hxk hy1 hy2 HL
  go_cut [15] (fun t wx => t = .int .u64 Q1 ∧ wx = w)
  case first =>
    go_wp2_with fail
    go_loop [15, 16] (fun t s => ∃ q r : Int, t = .int .u64 q ∧ s = .int .u64 r ∧ DRel X a Q1 q r) (fun t _ => (intOf t).toNat)
    case atStart => exact ⟨_, _, rfl, rfl, DRel.start d1⟩
    case round =>
      obtain ⟨q, r, rfl, rfl, hqr⟩ := hrel
      go_wp2
      all_goals first
        | (go_meet; have ht : DTest b u1 q r := (by unfold DTest; omega); exact ⟨congrArg (Value.int .u64) (hqr.leave d1 ht (by omega)), rfl⟩)
        | (go_meet; have ht : ¬ DTest b u1 q r := (by unfold DTest; omega); exact ⟨congrArg (Value.int .u64) (hqr.stop d1 ht), rfl⟩)
        | (go_round
           case rel => exact (hqr.next d1 (by unfold DTest; omega) (by omega)).1
           case measure => have hm := (hqr.next d1 (by unfold DTest; omega) (by omega)).2; simp only [intOf]; omega)
  case rest =>
    obtain ⟨rfl, rfl⟩ := hcut
    have haz : ((a : Int) == 0) = false := beq_eq_false_iff_ne.2 (by have := d1.a1; omega)
    have haz2 : ¬ (a = 0) := by have := d1.a1; omega
    go_upto_block 2 with fail
    have g3 := d1.rest hYb
    obtain ⟨g1, g2⟩ := d2.guess
    simp only [g3, g1, g2]
    clear g1 g2 g3
    go_cut [18] (fun t wx => t = .int .u64 Q0 ∧ wx = wc)
    case first =>
      go_wp2_with fail
      go_loop [18, 16] (fun t s => ∃ q r : Int, t = .int .u64 q ∧ s = .int .u64 r ∧ DRel R1 a Q0 q r) (fun t _ => (intOf t).toNat)
      case atStart => exact ⟨_, _, rfl, rfl, DRel.start d2⟩
      case round =>
        obtain ⟨q, r, rfl, rfl, hqr⟩ := hrel
        go_wp2
        all_goals first
          | (go_meet; have ht : DTest b u0 q r := (by unfold DTest; omega); exact ⟨congrArg (Value.int .u64) (hqr.leave d2 ht (by omega)), rfl⟩)
          | (go_meet; have ht : ¬ DTest b u0 q r := (by unfold DTest; omega); exact ⟨congrArg (Value.int .u64) (hqr.stop d2 ht), rfl⟩)
          | (go_round
             case rel => exact (hqr.next d2 (by unfold DTest; omega) (by omega)).1
             case measure => have hm := (hqr.next d2 (by unfold DTest; omega) (by omega)).2; simp only [intOf]; omega)
    case rest =>
      obtain ⟨rfl, rfl⟩ := hcut
      go_wp2_with fail
      go_ret2
      have g3 := d2.rest hYb
      have q1 := d1.small
      have q0 := d2.small
      refine ⟨ret_ii ?_ ?_, rfl⟩
      · rw [← HE.out.1, IntKind.wrap_u64, IntKind.wrap_u64]; omega
      · rw [g3, ← HE.out.2]; simp
end Go.Proofs.Ytaeondpeaabfeaa
