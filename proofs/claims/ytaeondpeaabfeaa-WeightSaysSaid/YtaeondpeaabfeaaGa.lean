/- Contracts of package weight: Good, Step, shared, Share, Off, Total. -/
import Derived.Test.YtaeondpeaabfeaaWd
import Derived.Test.YtaeondpeaabfeaaMem
namespace Go.Proofs.Ytaeondpeaabfeaa
open Go.RowKit

def goodB (x : Int) : Bool := decide (1 ≤ x) && decide (x ≤ 20)
theorem goodB_true {x : Int} : goodB x = true ↔ 1 ≤ x ∧ x ≤ 20 := by unfold goodB; simp
theorem goodB_false {x : Int} : goodB x = false ↔ x < 1 ∨ 20 < x := by unfold goodB; simp; omega

theorem good_c (x : Int) (w : World) :
    Calls Try.prog 10 #[.int .i64 x] w fun e w' => e = .returned (.bool (goodB x)) ∧ w = w' := by
  by_cases h1 : 1 ≤ x <;> by_cases h2 : x ≤ 20
  all_goals
    go_enter Try.func10, Try.ntmps10
    go_wp2
    go_ret
    refine ⟨ret_b ?_, rfl⟩
    unfold goodB; simp [h1, h2]

def stepV (x : Int) : Int := if goodB x = true then 232792560 / x else 0
theorem stepV_yes {x : Int} (h : goodB x = true) : stepV x = 232792560 / x := by unfold stepV; rw [if_pos h]
theorem stepV_no {x : Int} (h : goodB x = false) : stepV x = 0 := by unfold stepV; rw [if_neg (by simp [h])]

set_option maxHeartbeats 400000 in
theorem step_c (x : Int) (w : World) :
    Calls Try.prog 11 #[.int .i64 x] w fun e w' => e = .returned (.int .i64 (stepV x)) ∧ w = w' := by
  cases h : goodB x with
  | true =>
    have hx := goodB_true.1 h
    obtain ⟨h1, h2⟩ := hx
    have hc := Lib.hid (fun w => good_c x w)
    rw [h] at hc
    have HS := Lib.hid (stepV_yes h)
    clear h
    have hz : (x == 0) = false := beq_eq_false_iff_ne.2 (by omega)
    go_enter Try.func11, Try.ntmps11
    go_wp2_with (go_at_call 10; refine (hc.out _).mono ?_; rintro e w' ⟨rfl, rfl⟩)
    go_ret
    refine ⟨ret_i ?_, rfl⟩
    rw [HS.out]
  | false =>
    have hc := Lib.hid (fun w => good_c x w)
    rw [h] at hc
    have HS := Lib.hid (stepV_no h)
    clear h
    go_enter Try.func11, Try.ntmps11
    go_wp2_with (go_at_call 10; refine (hc.out _).mono ?_; rintro e w' ⟨rfl, rfl⟩)
    go_ret
    exact ⟨ret_i HS.out.symm, rfl⟩

def fairB (x t n : Int) : Bool := goodB x && decide (x ≤ t) && decide (t ≤ 1280) && decide (0 ≤ n)
theorem fairB_true {x t n : Int} : fairB x t n = true ↔ 1 ≤ x ∧ x ≤ 20 ∧ x ≤ t ∧ t ≤ 1280 ∧ 0 ≤ n := by unfold fairB goodB; simp [and_assoc]

set_option maxHeartbeats 400000 in
theorem shared_c (x t n : Int) (w : World) :
    Calls Try.prog 23 #[.int .i64 x, .int .i64 t, .int .i64 n] w fun e w' => e = .returned (.bool (fairB x t n)) ∧ w = w' := by
  have hc := Lib.hid (fun w => good_c x w)
  cases h : goodB x <;> rw [h] at hc
  · have HF : Hid (fairB x t n = false) := Lib.hid (by unfold fairB; simp [h])
    clear h
    go_enter Try.func23, Try.ntmps23
    go_wp2_with (go_at_call 10; refine (hc.out _).mono ?_; rintro e w' ⟨rfl, rfl⟩)
    go_ret
    exact ⟨ret_b HF.out.symm, rfl⟩
  · by_cases h1 : x ≤ t <;> by_cases h2 : t ≤ 1280 <;> by_cases h3 : 0 ≤ n
    all_goals
      have HF : Hid (fairB x t n = (decide (x ≤ t) && decide (t ≤ 1280) && decide (0 ≤ n))) := Lib.hid (by unfold fairB; simp [h])
      clear h
      go_enter Try.func23, Try.ntmps23
      go_wp2_with (go_at_call 10; refine (hc.out _).mono ?_; rintro e w' ⟨rfl, rfl⟩)
      go_ret
      refine ⟨ret_b ?_, rfl⟩
      rw [HF.out]; simp [h1, h2, h3]

def shareV (x t n : Int) : Int := if fairB x t n = true then n * x / t else 0
def offV (x t n g : Int) : Int := if fairB x t n = true then wrap64 (wrap64 (g * t) - wrap64 (n * x)) else 0
theorem shareV_yes {x t n : Int} (h : fairB x t n = true) : shareV x t n = n * x / t := by unfold shareV; rw [if_pos h]
theorem shareV_no {x t n : Int} (h : fairB x t n = false) : shareV x t n = 0 := by unfold shareV; rw [if_neg (by simp [h])]
theorem offV_yes {x t n g : Int} (h : fairB x t n = true) : offV x t n g = wrap64 (wrap64 (g * t) - wrap64 (n * x)) := by unfold offV; rw [if_pos h]
theorem offV_no {x t n g : Int} (h : fairB x t n = false) : offV x t n g = 0 := by unfold offV; rw [if_neg (by simp [h])]

theorem share_le {x t n : Int} (h : fairB x t n = true) : 0 ≤ n * x / t ∧ n * x / t ≤ n := by
  obtain ⟨h1, h2, h3, h4, h5⟩ := fairB_true.1 h
  have hm : n * x ≤ n * t := Int.mul_le_mul_of_nonneg_left h3 h5
  refine ⟨Int.ediv_nonneg (Int.mul_nonneg h5 (by omega)) (by omega), ?_⟩
  exact Int.ediv_le_of_le_mul (by omega) hm

theorem flV_pos {a b c : Int} (ha : 0 ≤ a) (hb : 0 ≤ b) (hc : 0 < c) : flV a b c = a * b / c := by
  obtain ⟨a, rfl⟩ := Int.eq_ofNat_of_zero_le ha
  obtain ⟨b, rfl⟩ := Int.eq_ofNat_of_zero_le hb
  obtain ⟨c, rfl⟩ := Int.eq_ofNat_of_zero_le (Int.le_of_lt hc)
  have hn : negB (a : Int) (b : Int) (c : Int) = false := by
    unfold negB
    have e1 : decide ((a : Int) < 0) = false := decide_eq_false (by omega)
    have e2 : decide ((b : Int) < 0) = false := decide_eq_false (by omega)
    have e3 : decide ((c : Int) < 0) = false := decide_eq_false (by omega)
    rw [e1, e2, e3]; rfl
  unfold flV
  rw [if_neg (by rw [hn]; decide)]
  simp

set_option maxHeartbeats 400000 in
theorem share_c (x t n : Int) (w : World) (hn : n ≤ 9223372036854775807) :
    Calls Try.prog 13 #[.int .i64 x, .int .i64 t, .int .i64 n] w (Drawn (.int .i64 (shareV x t n)) w) := by
  have hc := Lib.hid (fun w => shared_c x t n w)
  cases h : fairB x t n <;> rw [h] at hc
  · have HS := Lib.hid (shareV_no h)
    clear h
    go_enter Try.func13, Try.ntmps13
    go_wp2_with (go_at_call 23; refine (hc.out _).mono ?_; rintro e w' ⟨rfl, rfl⟩)
    go_ret
    exact ⟨ret_i HS.out.symm, 0, rfl⟩
  · have HS := Lib.hid (shareV_yes h)
    have hb := share_le h
    obtain ⟨h1, h2, h3, h4, h5⟩ := fairB_true.1 h
    have HM : Hid (∀ w, Calls Try.prog 24 #[.int .i64 n, .int .i64 x, .int .i64 t] w (Drawn (.tuple #[.int .i64 (shareV x t n), .bool (fitB (shareV x t n))]) w)) := Lib.hid fun w => by
      have hm := muldiv_c n x t w (by omega) (by omega) (by omega) (by omega) (by omega) (by omega) (by omega)
      rw [flV_pos h5 (by omega) (by omega), fitV_true (fitB_true.2 ⟨by omega, by omega⟩), ← HS.out] at hm
      exact hm
    clear h hb HS
    go_enter Try.func13, Try.ntmps13
    go_wp2_with (first
      | (go_at_call 23; refine (hc.out _).mono ?_; rintro e w' ⟨rfl, rfl⟩)
      | (go_at_call 24; refine (HM.out _).mono ?_; rintro e w' ⟨rfl, n, rfl⟩))
    go_ret
    exact ⟨rfl, _, rfl⟩

set_option maxHeartbeats 400000 in
theorem off_c (x t n g : Int) (w : World) :
    Calls Try.prog 14 #[.int .i64 x, .int .i64 t, .int .i64 n, .int .i64 g] w fun e w' => e = .returned (.int .i64 (offV x t n g)) ∧ w = w' := by
  have hc := Lib.hid (fun w => shared_c x t n w)
  cases h : fairB x t n <;> rw [h] at hc
  · have HS := Lib.hid (offV_no (g := g) h)
    clear h
    go_enter Try.func14, Try.ntmps14
    go_wp2_with (go_at_call 23; refine (hc.out _).mono ?_; rintro e w' ⟨rfl, rfl⟩)
    go_ret
    exact ⟨ret_i HS.out.symm, rfl⟩
  · have HS := Lib.hid (offV_yes (g := g) h)
    clear h
    go_enter Try.func14, Try.ntmps14
    go_wp2_with (go_at_call 23; refine (hc.out _).mono ?_; rintro e w' ⟨rfl, rfl⟩)
    go_ret
    exact ⟨ret_i HS.out.symm, rfl⟩

def totB (l : List Int) : Bool := decide (l.length ≤ 64) && l.all goodB
def totV (l : List Int) : Int := if totB l = true then l.sum else 0
theorem totB_true {l : List Int} : totB l = true ↔ l.length ≤ 64 ∧ ∀ x ∈ l, 1 ≤ x ∧ x ≤ 20 := by
  unfold totB; simp only [Bool.and_eq_true, decide_eq_true_eq, List.all_eq_true, goodB_true]
theorem totB_long {l : List Int} (h : 64 < l.length) : totB l = false := by unfold totB; rw [decide_eq_false (by omega)]; rfl
theorem totB_bad {l : List Int} {k : Nat} (h : k < l.length) (hb : goodB l[k] = false) : totB l = false := by
  unfold totB
  rw [show l.all goodB = false by rw [List.all_eq_false]; exact ⟨l[k], List.getElem_mem h, by simp [hb]⟩, Bool.and_false]
theorem totV_yes {l : List Int} (h : totB l = true) : totV l = l.sum := by unfold totV; rw [if_pos h]
theorem totV_no {l : List Int} (h : totB l = false) : totV l = 0 := by unfold totV; rw [if_neg (by simp [h])]

theorem sum_snoc (l : List Int) (k : Nat) (h : k < l.length) : (l.take (k + 1)).sum = (l.take k).sum + l[k] := by
  rw [List.take_add_one, List.getElem?_eq_getElem h, List.sum_append]; simp
theorem sum_good (l : List Int) (h : ∀ x ∈ l, 1 ≤ x ∧ x ≤ 20) : (l.length : Int) ≤ l.sum ∧ l.sum ≤ 20 * (l.length : Int) := by
  induction l with
  | nil => simp
  | cons x t ih =>
    have := h x (by simp)
    have := ih (fun y hy => h y (by simp [hy]))
    simp only [List.sum_cons, List.length_cons]
    omega

/-- What holds at the head of a round of Total. -/
def TotAt (l : List Int) (k : Nat) (s : Int) : Prop := k ≤ l.length ∧ s = (l.take k).sum ∧ ∀ x ∈ l.take k, 1 ≤ x ∧ x ≤ 20
theorem TotAt.next {l : List Int} {k : Nat} {s x : Int} (h : TotAt l k s) (hk : k < l.length) (hx : x = l[k]) (hg : goodB x = true) : TotAt l (k + 1) (s + x) := by
  obtain ⟨h1, h2, h3⟩ := h
  subst hx
  refine ⟨by omega, by rw [sum_snoc l k hk, h2], ?_⟩
  intro x hx
  rw [List.take_add_one, List.getElem?_eq_getElem hk, List.mem_append] at hx
  rcases hx with hx | hx
  · exact h3 x hx
  · simp at hx; subst hx; exact goodB_true.1 hg
theorem TotAt.bound {l : List Int} {k : Nat} {s : Int} (h : TotAt l k s) (hl : l.length ≤ 64) : 0 ≤ s ∧ s ≤ 1280 := by
  obtain ⟨h1, h2, h3⟩ := h
  have := sum_good _ h3
  have : (l.take k).length ≤ 64 := by rw [List.length_take]; omega
  omega
theorem TotAt.done {l : List Int} {s : Int} (h : TotAt l l.length s) (hl : l.length ≤ 64) : totB l = true ∧ totV l = s := by
  obtain ⟨h1, h2, h3⟩ := h
  rw [List.take_length] at h2 h3
  have := totB_true.2 ⟨hl, h3⟩
  exact ⟨this, by rw [totV_yes this, h2]⟩

set_option maxHeartbeats 1000000 in
theorem total_c (A : Option Addr) (n c : Nat) (B : Nat) (l : List Int) (w : World) (hn : l.length = n) (hl : n ≤ 9223372036854775807) (hr : IRow .i64 w B A l) :
    Calls Try.prog 12 #[.slice A n c] w fun e w' => e = .returned (.tuple #[.int .i64 (totV l), .bool (totB l)]) ∧ w = w' := by
  subst hn
  by_cases h64 : 64 < l.length
  · have HB := Lib.hid (totB_long h64)
    clear hr
    go_enter Try.func12, Try.ntmps12
    go_wp2
    go_ret2
    exact ⟨ret_ib (totV_no HB.out).symm HB.out.symm, rfl⟩
  · have h64' : l.length ≤ 64 := by omega
    have HR := Lib.hid hr
    clear hr
    go_enter Try.func12, Try.ntmps12
    go_wp2_with fail
    go_loop [4, 12] (fun s i => ∃ (k : Nat) (z : Int), i = .int .i64 k ∧ s = .int .i64 z ∧ TotAt l k z) (fun _ i => l.length - (intOf i).toNat)
    case atStart => exact ⟨0, 0, rfl, rfl, Nat.zero_le _, by simp, by simp⟩
    case round =>
      obtain ⟨k, z, rfl, rfl, ht⟩ := hrel
      by_cases hlt : k < l.length
      · obtain ⟨ad, rfl, _, hc⟩ := HR.out.at hlt
        have hz := ht.bound h64'
        obtain ⟨hz1, hz2⟩ := hz
        have hx := Lib.hid (fun w => good_c l[k] w)
        obtain ⟨x, hxe⟩ : ∃ x, x = l[k] := ⟨_, rfl⟩
        have HE := Lib.hid hxe
        rw [← hxe] at hc hx
        have HT := Lib.hid ht
        clear hxe ht
        cases hg : goodB x <;> rw [hg] at hx
        · have HB := Lib.hid (totB_bad hlt (by rw [← HE.out]; exact hg))
          clear hg
          go_wp2_with (go_at_call 10; refine (hx.out _).mono ?_; rintro e w' ⟨rfl, rfl⟩)
          go_ret2
          exact ⟨ret_ib (totV_no HB.out).symm HB.out.symm, rfl⟩
        · have hxb := goodB_true.1 hg
          obtain ⟨hx1, hx2⟩ := hxb
          have HG := Lib.hid hg
          clear hg
          go_wp2_with (go_at_call 10; refine (hx.out _).mono ?_; rintro e w' ⟨rfl, rfl⟩)
          go_round
          case rel => exact ⟨k + 1, _, by go_num, rfl, HT.out.next hlt HE.out HG.out⟩
          case measure => simp [intOf]; omega
      · have hk := ht.1
        have hke : k = l.length := by omega
        rw [hke] at ht
        have HD := Lib.hid (ht.done h64')
        clear ht hke
        go_wp2_with fail
        go_ret2
        exact ⟨ret_ib HD.out.2.symm HD.out.1.symm, rfl⟩
end Go.Proofs.Ytaeondpeaabfeaa
