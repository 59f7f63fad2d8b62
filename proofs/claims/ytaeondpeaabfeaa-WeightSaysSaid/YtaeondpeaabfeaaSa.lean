/- Contracts of the stable sort's smallest: slices.swapRangeCmpFunc. -/
import Derived.Test.YtaeondpeaabfeaaSp
import Derived.Test.YtaeondpeaabfeaaChecked
import Derived.Shelf.SlSortCmp.Kit1
import Derived.Deep.LoopGhost
import Derived.BigRegion
import Derived.WalkKit
import Derived.ProofKit
import Derived.Lib.Hide
namespace Go.Proofs.Ytaeondpeaabfeaa
open Go.RowKit Go.Sort Go.Lib

/-- A number by a number of its own. -/
def encF (f : Int → Int) : Int → Value := fun x => .int .i64 (f x)
variable {f : Int → Int}

/-- A row of the sort's: d' came of d by exchanging, and lies in w'. -/
def SwapPost (f : Int → Int) (w0 : World) (blk off a b n : Nat) (d : Array Int) (e : Ending) (w' : World) : Prop :=
  e = .returned (.tuple #[]) ∧ ∃ d', d'.size = d.size ∧ (∀ k, d'[k]! = swF (fun k => d[k]!) a b n k) ∧ PermIn a (b + n) d d' ∧ SW (encF f) w0 blk off d' w'

/-- What holds at the head of a round. -/
def SwapAt (f : Int → Int) (w0 : World) (blk off a b n : Nat) (d : Array Int) (i : Nat) (dk : Array Int) (w : World) : Prop :=
  dk.size = d.size ∧ (∀ k, dk[k]! = swF (fun k => d[k]!) a b i k) ∧ PermIn a (b + n) d dk ∧ SW (encF f) w0 blk off dk w

theorem SwapAt.next {w0 : World} {blk off a b n : Nat} {d d0 : Array Int} {i : Nat} {dk : Array Int} {w : World} (h : SwapAt f w0 blk off a b n d i dk w) (R : Row1 (encF f) w0 blk off d0) (hi : i < n) (hab : a + n ≤ b) (hb : b + n ≤ d.size) :
    SwapAt f w0 blk off a b n d (i + 1) (swp dk (a + i) (b + i)) ((w.setCell ⟨blk, off + (a + i), none⟩ (.int .i64 (f dk[b + i]!))).setCell ⟨blk, off + (b + i), none⟩ (.int .i64 (f dk[a + i]!))).drew := by
  obtain ⟨h1, h2, h3, h4⟩ := h
  refine ⟨by rw [size_swp]; exact h1, swF_succ d dk a b i (by omega) (by omega) h2, ?_, h4.swapped R (a + i) (b + i) (by omega) (by omega)⟩
  exact permIn_trans _ _ _ _ _ h3 (swp_permIn dk a (b + n) (a + i) (b + i) (by omega) (by omega) (by omega) (by omega) (by omega))

set_option maxHeartbeats 1000000 in
set_option maxRecDepth 100000 in
theorem swaprange_c (blk off cap a b n : Nat) (d0 d : Array Int) (w0 w : World) (v : Value) (R : Row1 (encF f) w0 blk off d0) (hs : d0.size = d.size) (S : SW (encF f) w0 blk off d w)
    (hab : a + n ≤ b) (hb : b + n ≤ d.size) (hsz : d.size < 4611686018427387904) :
    Calls Try.prog 53 #[.slice (some ⟨blk, off, none⟩) d.size cap, .int .i64 a, .int .i64 b, .int .i64 n, v] w (SwapPost f w0 blk off a b n d) := by
  have HS : Hid (SwapAt f w0 blk off a b n d 0 d w) := Lib.hid ⟨rfl, fun k => (swF_zero _ a b k).symm, permIn_refl _ _ _, S⟩
  clear S
  go_enter Try.func53, Try.ntmps53
  go_wp2_with fail
  go_loopw [10] (fun vi wr => ∃ (i : Nat) (dk : Array Int), vi = .int .i64 i ∧ i ≤ n ∧ Hid (SwapAt f w0 blk off a b n d i dk wr)) (fun vi _ => n - (intOf vi).toNat)
  case atStart => exact ⟨0, d, rfl, by omega, HS⟩
  case round =>
    obtain ⟨i, dk, rfl, hi, HI⟩ := hrel
    clear HS
    by_cases hlt : i < n
    · obtain ⟨p, hp⟩ : ∃ p, p = a + i := ⟨_, rfl⟩
      obtain ⟨q, hq⟩ : ∃ q, q = b + i := ⟨_, rfl⟩
      have S2 := HI.out.2.2.2
      have hz := HI.out.1
      have ea : ((a : Int) + (i : Int)).toNat = p := by omega
      have pa : (0 : Int) ≤ (a : Int) + (i : Int) := by omega
      have ba : (a : Int) + (i : Int) < (d.size : Int) := by omega
      have ra : IntKind.i64.wrap ((a : Int) + (i : Int)) = (a : Int) + (i : Int) := by rw [IntKind.wrap_i64]; omega
      have eb : ((b : Int) + (i : Int)).toNat = q := by omega
      have pb : (0 : Int) ≤ (b : Int) + (i : Int) := by omega
      have bb : (b : Int) + (i : Int) < (d.size : Int) := by omega
      have rb : IntKind.i64.wrap ((b : Int) + (i : Int)) = (b : Int) + (i : Int) := by rw [IntKind.wrap_i64]; omega
      have ca := S2.c1 R (by omega) p (by omega)
      have cb := S2.c1 R (by omega) q (by omega)
      unfold encF at ca cb
      have fa := S2.f1 R (by omega) p (by omega)
      have fb := S2.f1 R (by omega) q (by omega)
      have HN := Lib.hid (HI.out.next R hlt hab hb)
      rw [← hp, ← hq] at HN
      obtain ⟨x, hx⟩ : ∃ x, x = f (dk[p]!) := ⟨_, rfl⟩
      obtain ⟨y, hy⟩ : ∃ x, x = f (dk[q]!) := ⟨_, rfl⟩
      obtain ⟨u, cc⟩ := S2.c2 R (by omega) p q (by omega) (by omega) (.int .i64 y)
      rw [← hx, ← hy] at HN
      rw [← hx] at ca
      rw [← hy] at cb
      clear S2 hx hy hz hp hq HI
      go_wp2_with fail
      go_region
      clear ca cb fa fb cc
      generalize ((wr.setCell ⟨blk, off + p, none⟩ (.int .i64 y)).setCell ⟨blk, off + q, none⟩ (.int .i64 x)).drew = w3 at HN ⊢
      clear ea eb
      go_wp2
      go_roundw
      case rel => exact ⟨i + 1, _, by go_num, by omega, HN⟩
      case measure => simp [intOf]; omega
    · have hin : i = n := by omega
      have HE := HI.out
      rw [hin] at HE
      have HF := Lib.hid HE
      clear HE HI hin
      go_wp2_with fail
      go_end0
      exact ⟨rfl, dk, HF.out.1, HF.out.2.1, HF.out.2.2.1, HF.out.2.2.2⟩
end Go.Proofs.Ytaeondpeaabfeaa
