/- The contract of the reference's put: sizes together, or one taken off another. -/
import Derived.Test.YtaeondpeaabfeaaRa
namespace Go.Proofs.Ytaeondpeaabfeaa
open Go.RowKit

/-- What 'put' has done after k rounds: r are the digits, cy is the carry. -/
structure PSt (t : Int) (la lb : List Int) (k : Nat) (cy : Int) (r : List Int) : Prop where
  k1 : k ≤ max la.length lb.length + 1
  len : r.length = k
  dig : Dig r
  sum : val r + cy * 65536 ^ k = V (dg la) k + t * V (dg lb) k
  c1 : -1 ≤ cy
  c2 : cy ≤ 1
  sign : 0 ≤ t * cy
  big : k ≤ max la.length lb.length ∨ 65536 ^ (max la.length lb.length) ≤ val r
theorem PSt.start (t : Int) (la lb : List Int) : PSt t la lb 0 0 [] := ⟨by omega, rfl, Dig.nil, by simp [val_nil, V], by omega, by omega, by simp, .inl (Nat.zero_le _)⟩
theorem PSt.next {t cy d cy' : Int} {la lb r : List Int} {k : Nat} (h : PSt t la lb k cy r) (hk : k ≤ max la.length lb.length) (h0 : 0 ≤ d) (h1 : d < 65536) (he : dg la k + t * dg lb k + cy = d + 65536 * cy')
    (h2 : -1 ≤ cy') (h3 : cy' ≤ 1) (h4 : 0 ≤ t * cy') (h5 : k < max la.length lb.length ∨ 1 ≤ d) : PSt t la lb (k + 1) cy' (r ++ [d]) := by
  refine ⟨by omega, by simp [h.len], h.dig.snoc h0 h1, ?_, h2, h3, h4, ?_⟩
  rotate_left
  · rcases h5 with h5 | h5
    · exact .inl h5
    · by_cases hk2 : k < max la.length lb.length
      · exact .inl hk2
      · refine .inr ?_
        rw [val_snoc, h.len, show k = max la.length lb.length by omega]
        have hv := (val_bound h.dig).1
        have hp := pow_pos' (max la.length lb.length)
        have hm : 1 * 65536 ^ (max la.length lb.length) ≤ d * 65536 ^ (max la.length lb.length) := Int.mul_le_mul_of_nonneg_right h5 (by omega)
        omega
  rw [val_snoc, h.len]
  have hs := h.sum
  simp only [V, Int.pow_succ]
  have e : (dg la k + t * dg lb k + cy) * 65536 ^ k = (d + 65536 * cy') * 65536 ^ k := by rw [he]
  simp only [Int.add_mul, Int.mul_add, Int.mul_assoc] at e ⊢
  have e2 : cy' * (65536 ^ k * 65536) = 65536 * (cy' * 65536 ^ k) := by rw [← Int.mul_assoc]; exact Int.mul_comm _ _
  rw [e2]
  generalize (65536 : Int) ^ k = p at *
  omega

theorem pow_mono {m n : Nat} (h : m ≤ n) : (65536 : Int) ^ m ≤ 65536 ^ n := by
  obtain ⟨k, rfl⟩ : ∃ k, n = m + k := ⟨n - m, by omega⟩
  clear h
  induction k with
  | zero => exact Int.le_refl _
  | succ k ih =>
    rw [← Nat.add_assoc, Int.pow_succ]
    have := pow_pos' (m + k)
    omega
theorem PSt.done_add {cy : Int} {la lb r : List Int} {k : Nat} (h : PSt 1 la lb k cy r) (ha : Dig la) (hb : Dig lb) (hk : max la.length lb.length + 1 ≤ k) : cy = 0 := by
  have hs := h.sum
  have hv := val_bound h.dig
  rw [V_ge (l := la) (by omega), V_ge (l := lb) (by omega)] at hs
  have h1 := val_bound ha
  have h2 := val_bound hb
  have p1 : (65536 : Int) ^ la.length ≤ 65536 ^ (max la.length lb.length) := pow_mono (by omega)
  have p2 : (65536 : Int) ^ lb.length ≤ 65536 ^ (max la.length lb.length) := pow_mono (by omega)
  have p3 : (65536 : Int) ^ (max la.length lb.length + 1) ≤ 65536 ^ k := pow_mono hk
  rw [Int.pow_succ] at p3
  have hc := h.sign
  have p4 := pow_pos' (max la.length lb.length)
  have := h.c2
  by_cases hc1 : cy = 1
  · subst hc1; omega
  · omega
theorem PSt.done_sub {cy : Int} {la lb r : List Int} {k : Nat} (h : PSt (-1) la lb k cy r) (hle : val lb ≤ val la) (hk : max la.length lb.length ≤ k) : cy = 0 := by
  have hs := h.sum
  have hv := val_bound h.dig
  rw [V_ge (l := la) (by omega), V_ge (l := lb) (by omega), h.len] at *
  have hc := h.sign
  have := h.c1
  by_cases hc1 : cy = -1
  · subst hc1; omega
  · omega

/-- .. at most M of them, or one more that counts. -/
def RetP (w : World) (S : Int) (M : Nat) (e : Ending) (w' : World) : Prop := ∃ v r, e = .returned v ∧ OwnI .i64 w' w.heap.size 2 v r ∧ Dig r ∧ val r = S ∧ (r.length ≤ M ∨ r.length = M + 1 ∧ 65536 ^ M ≤ val r) ∧ Below w.heap.size w w'
/-- It has returned a slice of the call's own: digits that are S together, at most m of them. -/
def RetI (w : World) (S : Int) (m : Nat) (e : Ending) (w' : World) : Prop := ∃ v r, e = .returned v ∧ OwnI .i64 w' w.heap.size 2 v r ∧ Dig r ∧ val r = S ∧ r.length ≤ m ∧ Below w.heap.size w w'

set_option maxHeartbeats 2000000 in
theorem put_add_p (A A' : Option Addr) (c c' : Nat) (la lb : List Int) (w : World) (hr : IRow .i64 w w.heap.size A la) (hr' : IRow .i64 w w.heap.size A' lb) (hd : Dig la) (hd' : Dig lb) (h1 : la.length ≤ 38) (h2 : lb.length ≤ 38) :
    Calls Try.prog 45 #[.slice A la.length c, .slice A' lb.length c', .int .i64 1] w (RetP w (val la + val lb) (max la.length lb.length)) := by
  obtain ⟨i0, hi0, hz0, hz1, hz2⟩ := info_parts info_i64
  have HR := Lib.hid hr
  have HR' := Lib.hid hr'
  have HD := Lib.hid hd
  have HD' := Lib.hid hd'
  clear hr hr' hd hd'
  go_enter Try.func45, Try.ntmps45
  go_wp2_with fail
  go_loopw [7, 8, 9] (fun v s i wr => ∃ (k : Nat) (cy : Int) (r : List Int), i = .int .i64 k ∧ s = .int .i64 cy ∧ PSt 1 la lb k cy r ∧ OwnI .i64 wr w.heap.size 2 v r ∧ Below w.heap.size w wr) (fun _ _ i _ => 40 - (intOf i).toNat)
  case atStart => exact ⟨0, 0, [], rfl, rfl, PSt.start _ _ _, OwnI.nil _ _ _ _, Below.refl _ _⟩
  case round =>
    obtain ⟨k, cy, r, rfl, rfl, hst, hown, hbel⟩ := hrel
    have hsz := hbel.size
    have hk1 := hst.k1
    have hlen := hst.len
    have HB : Hid ((r.length + 1) * 8 ≤ 140737488355328) := Lib.hid (by omega)
    have hc1 := hst.c1
    have hc2 := hst.c2
    have hsg := hst.sign
    have hc0 : 0 ≤ cy := by omega
    have ha := HD.out.at k
    have hb := HD'.out.at k
    obtain ⟨ha1, ha2⟩ := ha
    obtain ⟨hb1, hb2⟩ := hb
    have HST := Lib.hid hst
    have hko : Hid (¬ (cy = 0) → k ≤ max la.length lb.length) := Lib.hid (fun hcy => by
      rcases Nat.lt_or_ge (max la.length lb.length) k with h | h
      · exact absurd (HST.out.done_add HD.out HD'.out h) hcy
      · exact h)
    clear hst hlen hsg
    have hra := Lib.hid (fun i hi => at_c A c w.heap.size la i k wr hi (HR.out.below hbel))
    have hrb := Lib.hid (fun i hi => at_c A' c' w.heap.size lb i k wr hi (HR'.out.below hbel))
    rcases (show k < la.length ∨ (¬ k < la.length ∧ k < lb.length) ∨ (¬ k < la.length ∧ ¬ k < lb.length ∧ ¬ cy = 0) ∨ (¬ k < la.length ∧ ¬ k < lb.length ∧ cy = 0) by omega) with h | ⟨h, h'⟩ | ⟨h, h', h''⟩ | ⟨h, h', h''⟩
    · go_wp2_with fail
      refine (hra.out _ rfl).mono ?_
      rintro e w' ⟨rfl, rfl⟩
      go_wp2_with fail
      refine (hrb.out _ rfl).mono ?_
      rintro e w' ⟨rfl, rfl⟩
      clear hra hrb
      have hx0 : 0 ≤ dg la k + dg lb k + cy := by omega
      go_wp2_with (at_builtin; refine wpList_app1 rfl _ _ 30 rfl w.heap.size 2 i0 8 0 Try.underlying30 hi0 hz0 hz1 hz2 _ r rfl hown ((dg la k + dg lb k + cy) % 65536) rfl HB.out (by decide) hsz ?_; intro v' w1 hown1 hbel1; have hbel2 := hbel.trans hbel1; clear hown hbel hbel1)
      go_roundw
      case rel => exact ⟨k + 1, (dg la k + dg lb k + cy) / 65536, _, by go_num, by go_num, HST.out.next (by first | omega | exact hko.out (by omega)) (by omega) (by omega) (by omega) (by omega) (by omega) (by omega) (.inl (by omega)), hown1, hbel2⟩
      case measure => simp [intOf]; omega
    · go_wp2_with fail
      refine (hra.out _ rfl).mono ?_
      rintro e w' ⟨rfl, rfl⟩
      go_wp2_with fail
      refine (hrb.out _ rfl).mono ?_
      rintro e w' ⟨rfl, rfl⟩
      clear hra hrb
      have hx0 : 0 ≤ dg la k + dg lb k + cy := by omega
      go_wp2_with (at_builtin; refine wpList_app1 rfl _ _ 30 rfl w.heap.size 2 i0 8 0 Try.underlying30 hi0 hz0 hz1 hz2 _ r rfl hown ((dg la k + dg lb k + cy) % 65536) rfl HB.out (by decide) hsz ?_; intro v' w1 hown1 hbel1; have hbel2 := hbel.trans hbel1; clear hown hbel hbel1)
      go_roundw
      case rel => exact ⟨k + 1, (dg la k + dg lb k + cy) / 65536, _, by go_num, by go_num, HST.out.next (by first | omega | exact hko.out (by omega)) (by omega) (by omega) (by omega) (by omega) (by omega) (by omega) (.inl (by omega)), hown1, hbel2⟩
      case measure => simp [intOf]; omega
    · have hq : (cy != 0) = true := (by simpa using h'')
      go_wp2_with fail
      refine (hra.out _ rfl).mono ?_
      rintro e w' ⟨rfl, rfl⟩
      go_wp2_with fail
      refine (hrb.out _ rfl).mono ?_
      rintro e w' ⟨rfl, rfl⟩
      clear hra hrb
      have hx0 : 0 ≤ dg la k + dg lb k + cy := by omega
      go_wp2_with (at_builtin; refine wpList_app1 rfl _ _ 30 rfl w.heap.size 2 i0 8 0 Try.underlying30 hi0 hz0 hz1 hz2 _ r rfl hown ((dg la k + dg lb k + cy) % 65536) rfl HB.out (by decide) hsz ?_; intro v' w1 hown1 hbel1; have hbel2 := hbel.trans hbel1; clear hown hbel hbel1)
      go_roundw
      case rel => exact ⟨k + 1, (dg la k + dg lb k + cy) / 65536, _, by go_num, by go_num, HST.out.next (by first | omega | exact hko.out (by omega)) (by omega) (by omega) (by omega) (by omega) (by omega) (by omega) (.inr (by have z1 := dg_ge (l := la) (j := k) (by omega); have z2 := dg_ge (l := lb) (j := k) (by omega); rw [z1, z2]; omega)), hown1, hbel2⟩
      case measure => simp [intOf]; omega
    · subst h''
      have hv : val r = val la + val lb := by
        have hs := HST.out.sum
        rw [V_ge (l := la) (by omega), V_ge (l := lb) (by omega)] at hs
        omega
      have HV := Lib.hid hv
      have hlen := Lib.hid HST.out.len
      clear hv hra hrb
      go_wp2_with fail
      go_ret
      exact ⟨_, r, rfl, hown, HST.out.dig, HV.out, by rw [hlen.out]; rcases HST.out.big with hb | hb; exact .inl hb; rcases Nat.lt_or_ge (max la.length lb.length) k with hq | hq; exact .inr ⟨by omega, hb⟩; exact .inl hq, hbel⟩

set_option maxHeartbeats 2000000 in
theorem put_sub_p (A A' : Option Addr) (c c' : Nat) (la lb : List Int) (w : World) (hr : IRow .i64 w w.heap.size A la) (hr' : IRow .i64 w w.heap.size A' lb) (hd : Dig la) (hd' : Dig lb) (h1 : la.length ≤ 38) (h2 : lb.length ≤ 38) (hle : val lb ≤ val la) :
    Calls Try.prog 45 #[.slice A la.length c, .slice A' lb.length c', .int .i64 (-1)] w (RetI w (val la - val lb) (max la.length lb.length)) := by
  obtain ⟨i0, hi0, hz0, hz1, hz2⟩ := info_parts info_i64
  have HR := Lib.hid hr
  have HR' := Lib.hid hr'
  have HD := Lib.hid hd
  have HD' := Lib.hid hd'
  have HLE := Lib.hid hle
  clear hr hr' hd hd' hle
  go_enter Try.func45, Try.ntmps45
  go_wp2_with fail
  go_loopw [7, 8, 9] (fun v s i wr => ∃ (k : Nat) (cy : Int) (r : List Int), i = .int .i64 k ∧ s = .int .i64 cy ∧ k ≤ max la.length lb.length ∧ PSt (-1) la lb k cy r ∧ OwnI .i64 wr w.heap.size 2 v r ∧ Below w.heap.size w wr) (fun _ _ i _ => 40 - (intOf i).toNat)
  case atStart => exact ⟨0, 0, [], rfl, rfl, Nat.zero_le _, PSt.start _ _ _, OwnI.nil _ _ _ _, Below.refl _ _⟩
  case round =>
    obtain ⟨k, cy, r, rfl, rfl, hkm, hst, hown, hbel⟩ := hrel
    have hsz := hbel.size
    have hk1 := hst.k1
    have hlen := hst.len
    have HB : Hid ((r.length + 1) * 8 ≤ 140737488355328) := Lib.hid (by omega)
    have hc1 := hst.c1
    have hc2 := hst.c2
    have hsg := hst.sign
    have hc0 : cy ≤ 0 := by omega
    have ha := HD.out.at k
    have hb := HD'.out.at k
    obtain ⟨ha1, ha2⟩ := ha
    obtain ⟨hb1, hb2⟩ := hb
    have HST := Lib.hid hst
    have hko : Hid (¬ (cy = 0) → k ≤ max la.length lb.length) := Lib.hid (fun hcy => by
      rcases Nat.lt_or_ge (max la.length lb.length) k with h | h
      · exact absurd (HST.out.done_sub HLE.out (by omega)) hcy
      · exact h)
    clear hst hlen hsg
    have hra := Lib.hid (fun i hi => at_c A c w.heap.size la i k wr hi (HR.out.below hbel))
    have hrb := Lib.hid (fun i hi => at_c A' c' w.heap.size lb i k wr hi (HR'.out.below hbel))
    rcases (show k < la.length ∨ (¬ k < la.length ∧ k < lb.length) ∨ (¬ k < la.length ∧ ¬ k < lb.length ∧ ¬ cy = 0) ∨ (¬ k < la.length ∧ ¬ k < lb.length ∧ cy = 0) by omega) with h | ⟨h, h'⟩ | ⟨h, h', h''⟩ | ⟨h, h', h''⟩
    · go_wp2_with fail
      refine (hra.out _ rfl).mono ?_
      rintro e w' ⟨rfl, rfl⟩
      go_wp2_with fail
      refine (hrb.out _ rfl).mono ?_
      rintro e w' ⟨rfl, rfl⟩
      clear hra hrb
      by_cases hx0 : 0 ≤ dg la k + -dg lb k + cy
      · go_wp2_with (at_builtin; refine wpList_app1 rfl _ _ 30 rfl w.heap.size 2 i0 8 0 Try.underlying30 hi0 hz0 hz1 hz2 _ r rfl hown ((dg la k + -dg lb k + cy) % 65536) rfl HB.out (by decide) hsz ?_; intro v' w1 hown1 hbel1; have hbel2 := hbel.trans hbel1; clear hown hbel hbel1)
        go_roundw
        case rel => exact ⟨k + 1, (dg la k + -dg lb k + cy) / 65536, _, by go_num, by go_num, by omega, HST.out.next (by first | omega | exact hko.out (by omega)) (by omega) (by omega) (by omega) (by omega) (by omega) (by omega) (.inl (by omega)), hown1, hbel2⟩
        case measure => simp [intOf]; omega
      · go_wp2_with (at_builtin; refine wpList_app1 rfl _ _ 30 rfl w.heap.size 2 i0 8 0 Try.underlying30 hi0 hz0 hz1 hz2 _ r rfl hown ((dg la k + -dg lb k + cy) % 65536) rfl HB.out (by decide) hsz ?_; intro v' w1 hown1 hbel1; have hbel2 := hbel.trans hbel1; clear hown hbel hbel1)
        go_roundw
        case rel => exact ⟨k + 1, -1 + (dg la k + -dg lb k + cy + 65536) / 65536, _, by go_num, by go_num, by omega, HST.out.next (by first | omega | exact hko.out (by omega)) (by omega) (by omega) (by omega) (by omega) (by omega) (by omega) (.inl (by omega)), hown1, hbel2⟩
        case measure => simp [intOf]; omega
    · go_wp2_with fail
      refine (hra.out _ rfl).mono ?_
      rintro e w' ⟨rfl, rfl⟩
      go_wp2_with fail
      refine (hrb.out _ rfl).mono ?_
      rintro e w' ⟨rfl, rfl⟩
      clear hra hrb
      by_cases hx0 : 0 ≤ dg la k + -dg lb k + cy
      · go_wp2_with (at_builtin; refine wpList_app1 rfl _ _ 30 rfl w.heap.size 2 i0 8 0 Try.underlying30 hi0 hz0 hz1 hz2 _ r rfl hown ((dg la k + -dg lb k + cy) % 65536) rfl HB.out (by decide) hsz ?_; intro v' w1 hown1 hbel1; have hbel2 := hbel.trans hbel1; clear hown hbel hbel1)
        go_roundw
        case rel => exact ⟨k + 1, (dg la k + -dg lb k + cy) / 65536, _, by go_num, by go_num, by omega, HST.out.next (by first | omega | exact hko.out (by omega)) (by omega) (by omega) (by omega) (by omega) (by omega) (by omega) (.inl (by omega)), hown1, hbel2⟩
        case measure => simp [intOf]; omega
      · go_wp2_with (at_builtin; refine wpList_app1 rfl _ _ 30 rfl w.heap.size 2 i0 8 0 Try.underlying30 hi0 hz0 hz1 hz2 _ r rfl hown ((dg la k + -dg lb k + cy) % 65536) rfl HB.out (by decide) hsz ?_; intro v' w1 hown1 hbel1; have hbel2 := hbel.trans hbel1; clear hown hbel hbel1)
        go_roundw
        case rel => exact ⟨k + 1, -1 + (dg la k + -dg lb k + cy + 65536) / 65536, _, by go_num, by go_num, by omega, HST.out.next (by first | omega | exact hko.out (by omega)) (by omega) (by omega) (by omega) (by omega) (by omega) (by omega) (.inl (by omega)), hown1, hbel2⟩
        case measure => simp [intOf]; omega
    · exact absurd (HST.out.done_sub HLE.out (by omega)) h''
    · subst h''
      have hv : val r = val la - val lb := by
        have hs := HST.out.sum
        rw [V_ge (l := la) (by omega), V_ge (l := lb) (by omega)] at hs
        omega
      have HV := Lib.hid hv
      have hlen := Lib.hid HST.out.len
      clear hv hra hrb
      go_wp2_with fail
      go_ret
      exact ⟨_, r, rfl, hown, HST.out.dig, HV.out, by rw [hlen.out]; exact hkm, hbel⟩

theorem put_add (A A' : Option Addr) (c c' : Nat) (la lb : List Int) (w : World) (hr : IRow .i64 w w.heap.size A la) (hr' : IRow .i64 w w.heap.size A' lb) (hd : Dig la) (hd' : Dig lb) (h1 : la.length ≤ 38) (h2 : lb.length ≤ 38) :
    Calls Try.prog 45 #[.slice A la.length c, .slice A' lb.length c', .int .i64 1] w (RetI w (val la + val lb) (max la.length lb.length + 1)) :=
  (put_add_p A A' c c' la lb w hr hr' hd hd' h1 h2).mono fun _ _ ⟨v, r, h1, h2, h3, h4, h5, h6⟩ => ⟨v, r, h1, h2, h3, h4, by omega, h6⟩
theorem put_sub (A A' : Option Addr) (c c' : Nat) (la lb : List Int) (w : World) (hr : IRow .i64 w w.heap.size A la) (hr' : IRow .i64 w w.heap.size A' lb) (hd : Dig la) (hd' : Dig lb) (h1 : la.length ≤ 38) (h2 : lb.length ≤ 38) (hle : val lb ≤ val la) :
    Calls Try.prog 45 #[.slice A la.length c, .slice A' lb.length c', .int .i64 (-1)] w (RetI w (val la - val lb) (max la.length lb.length + 1)) :=
  (put_sub_p A A' c c' la lb w hr hr' hd hd' h1 h2 hle).mono fun _ _ ⟨v, r, h1, h2, h3, h4, h5, h6⟩ => ⟨v, r, h1, h2, h3, h4, by omega, h6⟩
end Go.Proofs.Ytaeondpeaabfeaa
