/- The walk of the law WholeSums: it returns true. -/
import Derived.Test.YtkjomnmdepndpaaWe
namespace Go.Proofs.Ytkjomnmdepndpaa
open Go.RowKit

theorem info_i64 : (Try.prog.info? 2).map (fun i => (i.zero, i.size, i.bytes)) = some (some (.int .i64 0), 1, 8) := by kernel_rfl

/-- l turned by t: what the law builds, after k rounds. -/
def turned (l : List Int) (t k : Nat) : List Int := (List.range k).map fun i => l.getD ((i + t) % l.length) 0
theorem turned_snoc (l : List Int) (t k j : Nat) (hj : j = (k + t) % l.length) (hl : j < l.length) : turned l t (k + 1) = turned l t k ++ [l[j]] := by
  unfold turned
  rw [List.range_succ, List.map_append]
  simp [← hj, hl]
theorem turned_length (l : List Int) (t k : Nat) : (turned l t k).length = k := by simp [turned]
theorem turned_all (l : List Int) (t : Nat) (ht : t < l.length) : turned l t l.length = l.drop t ++ l.take t := by
  apply List.ext_getElem?
  intro i
  unfold turned
  rw [List.getElem?_map]
  by_cases h : i < l.length
  · rw [List.getElem?_range h, List.getElem?_append]
    simp only [Option.map_some, List.length_drop]
    by_cases h2 : i < l.length - t
    · rw [if_pos h2, List.getElem?_drop, Nat.mod_eq_of_lt (by omega), Nat.add_comm t i, List.getElem?_eq_getElem (by omega)]
      simp [List.getElem?_eq_getElem (show i + t < l.length by omega)]
    · rw [if_neg h2, List.getElem?_take, if_pos (by omega), show (i + t) % l.length = i - (l.length - t) by rw [Nat.mod_eq_sub_mod (by omega), Nat.mod_eq_of_lt (by omega)]; omega, List.getElem?_eq_getElem (by omega)]
      simp [List.getElem?_eq_getElem (show i - (l.length - t) < l.length by omega)]
  · rw [List.getElem?_eq_none (by simpa using h), List.getElem?_eq_none (by simp; omega)]
    rfl
theorem turned_sum (l : List Int) (t : Nat) (ht : t < l.length) : (turned l t l.length).sum = l.sum := by
  rw [turned_all l t ht, List.sum_append, Int.add_comm, ← List.sum_append, List.take_append_drop]
theorem turned_mem (l : List Int) (t : Nat) (ht : t < l.length) (x : Int) (hx : x ∈ turned l t l.length) : x ∈ l := by
  rw [turned_all l t ht, List.mem_append] at hx
  rcases hx with hx | hx
  · exact List.mem_of_mem_drop hx
  · exact List.mem_of_mem_take hx

set_option maxHeartbeats 1000000 in
theorem lsums_no (A : Option Addr) (n c : Nat) (turn : Int) (w : World) (h1 : n < 1 ∨ 60 < n ∨ turn < 0) :
    Calls Try.prog 8 #[.slice A n c, .int .i64 turn] w fun e w' => e = .returned (.bool true) ∧ Below w.heap.size w w' := by
  by_cases h2 : n < 1
  · have h3 : decide ((n : Int) < 1) = true := by simp; omega
    go_enter Try.func8, Try.ntmps8
    go_wp2_with (go_at_call 10; refine (awake_c _).mono ?_; rintro e w' ⟨rfl, n, rfl⟩)
    go_ret
    exact ⟨rfl, below_drewN (Below.refl _ _) _⟩
  · have h3 : 1 ≤ n := by omega
    by_cases h4 : 60 < n
    · go_enter Try.func8, Try.ntmps8
      go_wp2_with (go_at_call 10; refine (awake_c _).mono ?_; rintro e w' ⟨rfl, n, rfl⟩)
      go_ret
      exact ⟨rfl, below_drewN (Below.refl _ _) _⟩
    · have h5 : n ≤ 60 := by omega
      have h6 : turn < 0 := by omega
      go_enter Try.func8, Try.ntmps8
      go_wp2_with (go_at_call 10; refine (awake_c _).mono ?_; rintro e w' ⟨rfl, n, rfl⟩)
      go_ret
      exact ⟨rfl, below_drewN (Below.refl _ _) _⟩

set_option maxHeartbeats 1000000 in
theorem lsums_c (A : Option Addr) (c : Nat) (l : List Int) (turn : Int) (w : World) (hr : IRow .i64 w w.heap.size A l) (hw : ∀ x ∈ l, -9223372036854775808 ≤ x ∧ x ≤ 9223372036854775807)
    (ht : turn ≤ 9223372036854775807) (h2 : 1 ≤ l.length) (h3 : l.length ≤ 60) (h4 : 0 ≤ turn) :
    Calls Try.prog 8 #[.slice A l.length c, .int .i64 turn] w fun e w' => e = .returned (.bool true) ∧ Below w.heap.size w w' := by
  obtain ⟨i0, hi0, hz0, hz1, hz2⟩ := info_parts info_i64
  have HR := Lib.hid hr
  have HW := Lib.hid hw
  clear hr hw
  obtain ⟨T, rfl⟩ := Int.eq_ofNat_of_zero_le h4
  clear h4
  have hT : (T : Int) % (l.length : Int) = ((T % l.length : Nat) : Int) := by simp
  obtain ⟨t, htt⟩ : ∃ t, t = T % l.length := ⟨_, rfl⟩
  rw [← htt] at hT
  have htl : t < l.length := by rw [htt]; exact Nat.mod_lt _ (by omega)
  clear htt
  go_enter Try.func8, Try.ntmps8
  go_wp2_with (go_at_call 10; refine (awake_c _).mono ?_; rintro e w' ⟨rfl, n, rfl⟩)
  go_loopw [5, 6] (fun v i wr => ∃ k : Nat, k ≤ l.length ∧ i = .int .i64 k ∧ OwnI .i64 wr w.heap.size 2 v (turned l t k) ∧ Below w.heap.size w wr) (fun _ i _ => l.length - (intOf i).toNat)
  case atStart => exact ⟨0, Nat.zero_le _, rfl, OwnI.nil _ _ _ _, below_drewN (Below.refl _ _) _⟩
  case round =>
    obtain ⟨k, hk, rfl, hown, hbel⟩ := hrel
    by_cases hlt : k < l.length
    · obtain ⟨j, hm, hix, hsn⟩ : ∃ j, ∃ (hm : j < l.length), ((k : Int) + (t : Int)) % (l.length : Int) = (j : Int) ∧ turned l t (k + 1) = turned l t k ++ [l[j]] :=
        ⟨(k + t) % l.length, Nat.mod_lt _ (by omega), by simp, turned_snoc l t k _ rfl (Nat.mod_lt _ (by omega))⟩
      have hsn := Lib.hid hsn
      obtain ⟨ad, rfl, _, hc⟩ := (HR.out.below hbel).at hm
      have hsz := hbel.size
      have hlen := turned_length l t k
      have HB : Hid (((turned l t k).length + 1) * 8 ≤ 140737488355328) := Lib.hid (by omega)
      clear hlen
      obtain ⟨x, hx⟩ : ∃ x, x = l[j] := ⟨_, rfl⟩
      rw [← hx] at hc hsn
      clear hx
      go_wp2_with (at_builtin; refine wpList_app1 rfl _ _ 32 rfl w.heap.size 2 i0 8 0 Try.underlying32 hi0 hz0 hz1 hz2 _ (turned l t k) rfl hown x rfl HB.out (by decide) hsz ?_; intro v' w1 hown1 hbel1; rw [← hsn.out] at hown1; have hbel2 := hbel.trans hbel1; clear hown hbel hbel1 hc)
      go_roundw
      case rel => exact ⟨k + 1, by omega, by go_num, hown1, hbel2⟩
      case measure => simp [intOf]; omega
    · have hke : k = l.length := by omega
      subst hke
      obtain ⟨A', c', rfl, h5, h6, hr'⟩ := hown.form
      have hr := HR.out.below hbel
      have H1 := Lib.hid (sum_n A l.length c w.heap.size l wr rfl (by omega) hr HW.out)
      have H2 := Lib.hid (sum_n A' (turned l t l.length).length c' wr.heap.size (turned l t l.length) wr rfl (by rw [turned_length]; omega) hr' (fun x hx => HW.out x (turned_mem l t htl x hx)))
      rw [turned_sum l t htl] at H2
      clear hr hr' hown
      go_wp2_with fail
      refine H1.out.mono ?_; rintro e w' ⟨rfl, rfl⟩
      go_wp2_with fail
      refine H2.out.mono ?_; rintro e w' ⟨rfl, rfl⟩
      go_wp2_with fail
      go_ret
      exact ⟨rfl, hbel⟩

theorem lsums_any (A : Option Addr) (c : Nat) (l : List Int) (turn : Int) (w : World) (hr : IRow .i64 w w.heap.size A l) (hw : ∀ z ∈ l, (Lit.int .i64 z).wf = true) (ht : (Lit.int .i64 turn).wf = true) :
    Calls Try.prog 8 #[.slice A l.length c, .int .i64 turn] w fun e w' => e = .returned (.bool true) ∧ Below w.heap.size w w' := by
  by_cases h : l.length < 1 ∨ 60 < l.length ∨ turn < 0
  · exact lsums_no A l.length c turn w h
  · exact lsums_c A c l turn w hr (fun x hx => of_wf (hw x hx)) (of_wf ht).2 (by omega) (by omega) (by omega)
end Go.Proofs.Ytkjomnmdepndpaa
