/- The contract of slices.rotateCmpFunc. -/
import Derived.Test.YtaeondpeaabfeaaSa
namespace Go.Proofs.Ytaeondpeaabfeaa
open Go.RowKit Go.Sort Go.Lib
variable {f : Int → Int}

theorem swaprange_i (blk off cap a b n : Nat) (d0 d : Array Int) (w0 w : World) (v : Value) (x y z : Int) (hx : x = (a : Int)) (hy : y = (b : Int)) (hz : z = (n : Int)) (R : Row1 (encF f) w0 blk off d0) (hs : d0.size = d.size) (S : SW (encF f) w0 blk off d w)
    (hab : a + n ≤ b) (hb : b + n ≤ d.size) (hsz : d.size < 4611686018427387904) (N : Nat) (hN : d.size = N) :
    Calls Try.prog 53 #[.slice (some ⟨blk, off, none⟩) N cap, .int .i64 x, .int .i64 y, .int .i64 z, v] w (SwapPost f w0 blk off a b n d) := by
  subst hx hy hz hN
  exact swaprange_c blk off cap a b n d0 d w0 w v R hs S hab hb hsz

def RotPost (f : Int → Int) (w0 : World) (blk off a m b : Nat) (d : Array Int) (e : Ending) (w' : World) : Prop :=
  e = .returned (.tuple #[]) ∧ ∃ d', d'.size = d.size ∧ (∀ k, d'[k]! = rotF (fun k => d[k]!) a m b k) ∧ PermIn a b d d' ∧ SW (encF f) w0 blk off d' w'
def RotAt (f : Int → Int) (w0 : World) (blk off a m b : Nat) (d : Array Int) (i j : Nat) (dk : Array Int) (w : World) : Prop :=
  (1 ≤ i ∧ i ≤ m - a ∧ 1 ≤ j ∧ j ≤ b - m) ∧ dk.size = d.size ∧ (∀ k, rotF (fun k => dk[k]!) (m - i) m (m + j) k = rotF (fun k => d[k]!) a m b k) ∧ PermIn a b d dk ∧ SW (encF f) w0 blk off dk w

theorem RotAt.left {w0 : World} {blk off a m b : Nat} {d : Array Int} {i j : Nat} {dk : Array Int} {w w' : World} {e : Ending} (h : RotAt f w0 blk off a m b d i j dk w) (ha : a < m) (hb : b ≤ d.size) (hij : j < i) (hp : SwapPost f w0 blk off (m - i) m j dk e w') :
    e = .returned (.tuple #[]) ∧ ∃ d', RotAt f w0 blk off a m b d (i - j) j d' w' := by
  obtain ⟨⟨h1, h2, h3, h4⟩, h5, h6, h7, h8⟩ := h
  obtain ⟨he, d', g1, g2, g3, g4⟩ := hp
  refine ⟨he, d', ⟨by omega, by omega, by omega, by omega⟩, g1.trans h5, ?_, ?_, g4⟩
  · intro k
    rw [← h6 k]
    exact rot_left (fun k => dk[k]!) (fun k => d'[k]!) m i j h3 hij (by omega) g2 k
  · exact permIn_trans _ _ _ _ _ h7 (permIn_mono _ _ _ _ _ _ (by omega) (by omega) (by omega) g3)
theorem RotAt.right {w0 : World} {blk off a m b : Nat} {d : Array Int} {i j : Nat} {dk : Array Int} {w w' : World} {e : Ending} (h : RotAt f w0 blk off a m b d i j dk w) (ha : a < m) (hb : b ≤ d.size) (hij : i < j) (hp : SwapPost f w0 blk off (m - i) (m + j - i) i dk e w') :
    e = .returned (.tuple #[]) ∧ ∃ d', RotAt f w0 blk off a m b d i (j - i) d' w' := by
  obtain ⟨⟨h1, h2, h3, h4⟩, h5, h6, h7, h8⟩ := h
  obtain ⟨he, d', g1, g2, g3, g4⟩ := hp
  refine ⟨he, d', ⟨by omega, by omega, by omega, by omega⟩, g1.trans h5, ?_, ?_, g4⟩
  · intro k
    rw [← h6 k]
    exact rot_right (fun k => dk[k]!) (fun k => d'[k]!) m i j h1 hij (by omega) g2 k
  · exact permIn_trans _ _ _ _ _ h7 (permIn_mono _ _ _ _ _ _ (by omega) (by omega) (by omega) g3)
theorem RotAt.done {w0 : World} {blk off a m b : Nat} {d : Array Int} {i : Nat} {dk : Array Int} {w w' : World} {e : Ending} (h : RotAt f w0 blk off a m b d i i dk w) (ha : a < m) (hb : b ≤ d.size) (hp : SwapPost f w0 blk off (m - i) m i dk e w') :
    RotPost f w0 blk off a m b d e w' := by
  obtain ⟨⟨h1, h2, h3, h4⟩, h5, h6, h7, h8⟩ := h
  obtain ⟨he, d', g1, g2, g3, g4⟩ := hp
  refine ⟨he, d', g1.trans h5, ?_, ?_, g4⟩
  · intro k
    rw [← h6 k]
    exact rot_end (fun k => dk[k]!) (fun k => d'[k]!) m i (by omega) g2 k
  · exact permIn_trans _ _ _ _ _ h7 (permIn_mono _ _ _ _ _ _ (by omega) (by omega) (by omega) g3)

set_option maxHeartbeats 1000000 in
set_option maxRecDepth 100000 in
theorem rotate_c (blk off cap a m b : Nat) (d0 d : Array Int) (w0 w : World) (v : Value) (R : Row1 (encF f) w0 blk off d0) (hs : d0.size = d.size) (S : SW (encF f) w0 blk off d w)
    (ham : a < m) (hmb : m < b) (hb : b ≤ d.size) (hsz : d.size < 4611686018427387904) :
    Calls Try.prog 52 #[.slice (some ⟨blk, off, none⟩) d.size cap, .int .i64 a, .int .i64 m, .int .i64 b, v] w (RotPost f w0 blk off a m b d) := by
  have HS : Hid (RotAt f w0 blk off a m b d (m - a) (b - m) d w) := Lib.hid ⟨⟨by omega, by omega, by omega, by omega⟩, rfl, fun k => by rw [show m - (m - a) = a by omega, show m + (b - m) = b by omega], permIn_refl _ _ _, S⟩
  clear S
  go_enter Try.func52, Try.ntmps52
  go_wp2_with fail
  go_loopw [10, 11] (fun vi vj wr => ∃ (i j : Nat) (dk : Array Int), vi = .int .i64 i ∧ vj = .int .i64 j ∧ Hid (RotAt f w0 blk off a m b d i j dk wr)) (fun vi vj _ => (intOf vi).toNat + (intOf vj).toNat)
  case atStart => exact ⟨m - a, b - m, d, by congr 1; omega, by congr 1; omega, HS⟩
  case round =>
    obtain ⟨i, j, dk, rfl, rfl, HI⟩ := hrel
    clear HS
    obtain ⟨h1, h2, h3, h4⟩ := HI.out.1
    have hz := HI.out.2.1
    rcases Nat.lt_trichotomy i j with hij | hij | hij
    · have hn : ((i : Int) != (j : Int)) = true := by simp; omega
      have hc := Lib.hid (swaprange_i blk off cap (m - i) (m + j - i) i d0 dk w0 wr v ((m : Int) - (i : Int)) ((m : Int) + (j : Int) - (i : Int)) (i : Int) (by omega) (by omega) rfl R (by omega) HI.out.2.2.2.2 (by omega) (by omega) (by omega) d.size hz)
      have hz := Lib.hid hz
      go_wp2_with (go_at_call 53; refine hc.out.mono ?_; intro e w1 hp; obtain ⟨rfl, d', H2⟩ := HI.out.right ham hb hij hp; have H3 := Lib.hid H2; clear H2 hp)
      go_roundw
      case rel => exact ⟨i, j - i, d', rfl, by congr 1; omega, H3⟩
      case measure => simp [intOf]; omega
    · subst hij
      have hc := Lib.hid (swaprange_i blk off cap (m - i) m i d0 dk w0 wr v ((m : Int) - (i : Int)) (m : Int) (i : Int) (by omega) rfl rfl R (by omega) HI.out.2.2.2.2 (by omega) (by omega) (by omega) d.size hz)
      have hz := Lib.hid hz
      go_wp2_with (go_at_call 53; refine hc.out.mono ?_; intro e w1 hp; have H2 := HI.out.done ham hb hp; obtain ⟨rfl, H4⟩ := H2; have H3 := Lib.hid H4; clear H4 hp)
      go_end0
      exact ⟨rfl, H3.out⟩
    · have hn : ((i : Int) != (j : Int)) = true := by simp; omega
      have hc := Lib.hid (swaprange_i blk off cap (m - i) m j d0 dk w0 wr v ((m : Int) - (i : Int)) (m : Int) (j : Int) (by omega) rfl rfl R (by omega) HI.out.2.2.2.2 (by omega) (by omega) (by omega) d.size hz)
      have hz := Lib.hid hz
      go_wp2_with (go_at_call 53; refine hc.out.mono ?_; intro e w1 hp; obtain ⟨rfl, d', H2⟩ := HI.out.left ham hb hij hp; have H3 := Lib.hid H2; clear H2 hp)
      go_roundw
      case rel => exact ⟨i - j, j, d', by congr 1; omega, rfl, H3⟩
      case measure => simp [intOf]; omega
end Go.Proofs.Ytaeondpeaabfeaa
