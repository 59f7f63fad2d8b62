/- The walk of the law WeightSays: it returns true. -/
import Derived.Test.YtaeondpeaabfeaaHc
import Derived.Test.YtaeondpeaabfeaaGc
namespace Go.Proofs.Ytaeondpeaabfeaa
open Go.RowKit Go.Sort

set_option maxHeartbeats 1000000 in
set_option maxRecDepth 100000 in
theorem lsay_no (x t n g : Int) (A : Option Addr) (m c : Nat) (w : World) (h : 70 < m) :
    Calls Try.prog 4 #[.int .i64 x, .int .i64 t, .int .i64 n, .int .i64 g, .slice A m c] w fun e w' => e = .returned (.bool true) ∧ Below w.heap.size w w' := by
  go_enter Try.func4, Try.ntmps4
  go_wp2_with fail
  refine (awake_c _).mono ?_
  rintro e w1 ⟨rfl, hbel⟩
  have HB := Lib.hid hbel
  clear hbel
  go_wp2_with fail
  go_ret
  exact ⟨rfl, HB.out⟩

/-- The two Parts, one behind the other: what each hands back, and that longs says yes. -/
def TwoParts (w : World) (A : Option Addr) (m c : Nat) (n : Int) : Prop :=
  ∀ W, Below w.heap.size w W → Calls Try.prog 15 #[.slice A m c, .int .i64 n] W fun e w1 => ∃ v1, e = .returned v1 ∧ Below w.heap.size w w1 ∧
    Calls Try.prog 22 #[.slice A m c, .int .i64 n] w1 fun e w2 => ∃ v2, e = .returned v2 ∧ Below w.heap.size w w2 ∧
      Calls Try.prog 16 #[v1, v2] w2 fun e w3 => e = .returned (.bool true) ∧ Below w.heap.size w w3
theorem twoParts (A : Option Addr) (c : Nat) (l : List Int) (n : Int) (w : World) (hr : IRow .i64 w w.heap.size A l) (hl : l.length ≤ 70) : TwoParts w A l.length c n := by
  intro W hb
  cases hp : partsB l n with
  | false =>
    refine (parts_none A c _ l n W (by omega) (hr.below hb) hp).mono ?_
    rintro e w1 ⟨rfl, rfl⟩
    refine ⟨_, rfl, hb, ?_⟩
    refine (parts_ref_none A c _ l n W hl (hr.below hb) hp).mono ?_
    rintro e w2 ⟨rfl, rfl⟩
    refine ⟨_, rfl, hb, ?_⟩
    refine (longs_eq none none 0 0 0 0 [] W rfl (by omega) IRow.nil IRow.nil).mono ?_
    rintro e w3 ⟨rfl, q, rfl⟩
    exact ⟨rfl, below_drewN hb q⟩
  | true =>
    have hrW := (hr.below hb).more hb.size
    refine (parts_v A l.length c l n W rfl hrW hp).mono ?_
    rintro e w1 ⟨g1, rfl, _, q2, q3, q4⟩
    have hb1 := hb.trans (q4.mono hb.size)
    refine ⟨_, rfl, hb1, ?_⟩
    refine (parts_ref A c l n w1 ((hr.below hb1).more hb1.size) hp).mono ?_
    rintro e w2 ⟨g2, cap, rfl, r2, r3, r4⟩
    have hb2 := hb1.trans (r4.mono hb1.size)
    refine ⟨_, rfl, hb2, ?_⟩
    have q5 := q3.below r4 q2
    have hsz := r4.size
    refine (longs_eq (some ⟨g1, 0, none⟩) (some ⟨g2, 0, none⟩) l.length l.length cap w2.heap.size (partsL l n) w2 (partsL_length l n) (by omega) (q5.irow (by omega)) (r3.irow r2)).mono ?_
    rintro e w3 ⟨rfl, q, rfl⟩
    exact ⟨rfl, below_drewN hb2 q⟩

set_option maxHeartbeats 4000000 in
set_option maxRecDepth 100000 in
theorem lsay_c (x t n g : Int) (A : Option Addr) (c : Nat) (l : List Int) (w : World) (hl : l.length ≤ 70) (hn : n ≤ 9223372036854775807) (hr : IRow .i64 w w.heap.size A l) :
    Calls Try.prog 4 #[.int .i64 x, .int .i64 t, .int .i64 n, .int .i64 g, .slice A l.length c] w fun e w' => e = .returned (.bool true) ∧ Below w.heap.size w w' := by
  have K1 := Lib.hid (fun W (hb : Below w.heap.size w W) => total_c A l.length c _ l W rfl (by omega) (hr.below hb))
  have K2 := Lib.hid (fun W (hb : Below w.heap.size w W) => total_ref A c _ l W hl (hr.below hb))
  have K3 := Lib.hid (fun W => good_c x W)
  have K4 := Lib.hid (fun W => good_ref x W)
  have K5 := Lib.hid (fun W => step_c x W)
  have K6 := Lib.hid (fun W => step_ref x W)
  have K7 := Lib.hid (fun W => share_c x t n W hn)
  have K8 := Lib.hid (fun W => share_ref x t n W hn)
  have K9 := Lib.hid (fun W => off_c x t n g W)
  have K10 := Lib.hid (fun W => off_ref x t n g W)
  have K11 := Lib.hid (twoParts A c l n w hr hl)
  generalize totV l = a1 at K1 K2
  generalize totB l = a2 at K1 K2
  generalize goodB x = a3 at K3 K4
  generalize stepV x = a4 at K5 K6
  generalize shareV x t n = a5 at K7 K8
  generalize offV x t n g = a6 at K9 K10
  obtain ⟨m, hm⟩ : ∃ m, m = l.length := ⟨_, rfl⟩
  rw [← hm] at K1 K2 K11 hl ⊢
  clear hm hr
  go_enter Try.func4, Try.ntmps4
  go_wp2_with fail
  refine (awake_c _).mono ?_
  rintro e w1 ⟨rfl, hbel⟩
  have HB := Lib.hid hbel
  clear hbel
  go_wp2_with fail
  refine (K1.out _ HB.out).mono ?_
  rintro e w2 ⟨rfl, rfl⟩
  go_wp2_with fail
  refine (K2.out _ HB.out).mono ?_
  rintro e w2 ⟨rfl, rfl⟩
  go_wp2_with fail
  refine (K3.out _).mono ?_
  rintro e w2 ⟨rfl, rfl⟩
  go_wp2_with fail
  refine (K4.out _).mono ?_
  rintro e w2 ⟨rfl, rfl⟩
  go_wp2_with fail
  refine (K5.out _).mono ?_
  rintro e w2 ⟨rfl, rfl⟩
  go_wp2_with fail
  refine (K6.out _).mono ?_
  rintro e w2 ⟨rfl, rfl⟩
  go_wp2_with fail
  refine (K7.out _).mono ?_
  rintro e w2 ⟨rfl, q, rfl⟩
  go_wp2_with fail
  refine (K8.out _).mono ?_
  rintro e w2 ⟨rfl, hb2⟩
  have HB2 := Lib.hid ((below_drewN HB.out q).trans (hb2.mono (by have := HB.out.size; exact this)))
  clear hb2 HB
  go_wp2_with fail
  refine (K9.out _).mono ?_
  rintro e w3 ⟨rfl, rfl⟩
  go_wp2_with fail
  refine (K10.out _).mono ?_
  rintro e w3 ⟨rfl, rfl⟩
  clear K1 K2 K3 K4 K5 K6 K7 K8 K9 K10
  go_wp2_with fail
  refine (K11.out _ HB2.out).mono ?_
  rintro e w3 ⟨v1, rfl, _, h3⟩
  have H3 := Lib.hid h3
  clear h3 HB2
  go_wp2_with fail
  refine H3.out.mono ?_
  rintro e w4 ⟨v2, rfl, _, h4⟩
  have H4 := Lib.hid h4
  clear h4 H3
  go_wp2_with fail
  refine H4.out.mono ?_
  rintro e w5 ⟨rfl, h5⟩
  have H5 := Lib.hid h5
  clear h5 H4
  go_wp2_with fail
  go_ret
  exact ⟨rfl, H5.out⟩

theorem lsay_any (x t n g : Int) (A : Option Addr) (c : Nat) (l : List Int) (w : World) (hn : (Lit.int .i64 n).wf = true) (hr : IRow .i64 w w.heap.size A l) :
    Calls Try.prog 4 #[.int .i64 x, .int .i64 t, .int .i64 n, .int .i64 g, .slice A l.length c] w fun e w' => e = .returned (.bool true) ∧ Below w.heap.size w w' := by
  by_cases h : 70 < l.length
  · exact lsay_no x t n g A _ c w h
  · exact lsay_c x t n g A c l w (by omega) (of_wf hn).2 hr
end Go.Proofs.Ytaeondpeaabfeaa
