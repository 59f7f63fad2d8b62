/- Slots in a law: ints; List, Has, Place; two side by side. -/
import Derived.Test.YtmjffgkolcdoeaaTg
namespace Go.Proofs.Ytmjffgkolcdoeaa
open Go.RowKit

/-- A value comes back, and what lay lies. -/
def Ret6 (v : Value) (w : World) (e : Ending) (w' : World) : Prop := e = .returned v ∧ Below w.heap.size w w'

set_option maxHeartbeats 1000000 in
theorem ints6_eq (A A' : Option Addr) (n c c' B : Nat) (l : List Int) (w : World) (hn : l.length = n) (hl : n ≤ 9223372036854775807) (hr : IRow .i64 w B A l) (hr' : IRow .i64 w B A' l) :
    Calls Try.prog 12 #[.slice A n c, .slice A' n c'] w (Ret6 (.bool true) w) := by
  have HR := Lib.hid hr
  have HR' := Lib.hid hr'
  have HN := Lib.hid hn
  clear hr hr' hn
  go_enter Try.func12, Try.ntmps12
  go_wp2_with fail
  go_loopw [5] (fun i wr => ∃ k q : Nat, i = .int .i64 k ∧ k ≤ n ∧ wr = w.drewN q) (fun i _ => n - (intOf i).toNat)
  case atStart => exact ⟨0, 0, rfl, Nat.zero_le _, rfl⟩
  case round =>
    obtain ⟨k, q, rfl, hk, rfl⟩ := hrel
    by_cases hlt : k < n
    · have hkl : k < l.length := by rw [HN.out]; exact hlt
      obtain ⟨ad, rfl, _, hc⟩ := HR.out.at hkl
      obtain ⟨ad', rfl, _, hc'⟩ := HR'.out.at hkl
      obtain ⟨x, hx⟩ : ∃ x, x = l[k] := ⟨_, rfl⟩
      rw [← hx] at hc hc'
      clear hx
      go_wp2_with fail
      go_quiet (fail)
      go_wp2_with fail
      go_roundw
      case rel => exact ⟨k + 1, _, by go_num, by omega, rfl⟩
      case measure => simp [intOf]; omega
    · go_wp2_with fail
      go_ret
      exact ⟨rfl, below_drewN (Below.refl _ _) _⟩

theorem SAt.two {W w w' : World} {b g b2 g2 : Nat} {S : List SL} (h : SAt W w b g S) (hf : Below W.heap.size W w') (ht : Trip (fun k => k = b2 ∨ k = g2) w (fun k => k = b2 ∨ k = g2) w') (h1 : b ≠ b2) (h2 : b ≠ g2) (h3 : g ≠ b2) (h4 : g ≠ g2) : SAt W w' b g S :=
  ⟨h.is.keep (ht.block b h.is.ltb (by omega)) (ht.block g h.is.ltg (by omega)), h.nb, h.ng, hf⟩
theorem has_in {W w : World} {b g : Nat} {S : List SL} {id : Int} {c : Bool} (h : SAt W w b g S) (h3 : -9223372036854775808 ≤ id) (h4 : id ≤ 9223372036854775807) (e : hasS S id = c) :
    Calls Try.prog 11 #[.pointer (some ⟨b, 0, none⟩), .int .i64 id] w fun e w' => e = .returned (.bool c) ∧ w = w' := by
  subst e; exact has_c b g S id w h.is h3 h4
theorem place_v {id p t : Int} (w : World) (h3 : -9223372036854775808 ≤ id) (h4 : id ≤ 9223372036854775807) (e : placeV id = (p, t)) :
    Calls Try.prog 10 #[.int .i64 id] w fun e w' => e = .returned (.tuple #[.int .i64 p, .int .i64 t]) ∧ w = w' := by
  have := place_c id h3 h4 w
  rw [e] at this
  exact this
theorem list_in {W w : World} {b g n : Nat} {S : List SL} {l : List Int} (h : SAt W w b g S) (hb : ∀ x ∈ S, x.1 ≤ 1000000) (e : namesL S = l) (hn : l.length = n) :
    Calls Try.prog 13 #[.pointer (some ⟨b, 0, none⟩)] w fun e w' => ∃ A c, e = .returned (.slice A n c) ∧ IRow .i64 w' w'.heap.size A l ∧ SAt W w' b g S ∧ Below w.heap.size w w' := by
  refine (slist_c b g S w h.is hb).mono ?_
  rintro e w' ⟨v, rfl, h1, h2⟩
  rw [e] at h1
  obtain ⟨A, c, g1, _, _, g4⟩ := h1.form
  exact ⟨A, c, by rw [g1, hn], g4, h.below h2, h2⟩
end Go.Proofs.Ytmjffgkolcdoeaa
