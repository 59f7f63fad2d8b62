/- The reference's MaskText. -/
import Derived.Test.YtjfeaepjhnpbfaaDoorKm
namespace Go.Proofs.YtjfeaepjhnpbfaaDoor
open Go.RowKit Go.Sort

/-- The text of the first k of a list. -/
def textTo (l : List Nat) (k : Nat) : ByteArray := ⟨(Lib.join ((l.take k).map Lib.decDigits) [44]).toArray⟩

theorem text_first {l : List Nat} {x : Nat} (h : l[0]? = some x) : textTo l 1 = numS x := by
  cases l with
  | nil => simp at h
  | cons y r =>
    simp at h
    subst h
    unfold textTo numS
    simp [Lib.join_one]
theorem text_next {l : List Nat} {k x : Nat} (hk : 1 ≤ k) (h : l[k]? = some x) : textTo l (k + 1) = (textTo l k ++ ⟨#[44]⟩) ++ numS x := by
  cases l with
  | nil => simp at h
  | cons y r =>
    obtain ⟨j, rfl⟩ : ∃ j, k = j + 1 := ⟨k - 1, by omega⟩
    have h' : (r.map Lib.decDigits)[j]? = some (Lib.decDigits x) := by
      have h2 : r[j]? = some x := by simpa using h
      rw [List.getElem?_map, h2]; rfl
    unfold textTo numS
    have e : ∀ i, ((y :: r).take (i + 1)).map Lib.decDigits = Lib.decDigits y :: ((r.map Lib.decDigits).take i) := fun i => by rw [List.take_succ_cons, List.map_cons, List.map_take]
    rw [e, e, Lib.join_cons, Lib.join_cons, Lib.joinTail_take_succ [44] (r.map Lib.decDigits) j _ h']
    apply ByteArray.ext
    simp
theorem textTo_size (l : List Nat) (k : Nat) (hl : ∀ x ∈ l, x < 16) (hk : k ≤ 16) : (textTo l k).size ≤ 48 := by
  unfold textTo
  have h := join_le (l.take k) (fun x hx => by have := hl x (List.mem_of_mem_take hx); omega)
  have h2 : (l.take k).length ≤ 16 := by rw [List.length_take]; omega
  show (Lib.join ((l.take k).map Lib.decDigits) [44]).toArray.size ≤ 48
  rw [List.size_toArray]
  omega
theorem numS_size {x : Nat} (h : x < 16) : (numS x).size ≤ 2 := by
  unfold numS
  show (Lib.decDigits x).toArray.size ≤ 2
  rw [List.size_toArray]
  exact dec_len (by omega)

set_option maxRecDepth 100000 in
set_option maxHeartbeats 1000000 in
theorem maskText_c (m : Nat) (hm : m < 65536) (w : World) : Calls Tryd.prog 18 #[.int .u16 m] w (Ret (.string (textS m)) w) := by
  obtain ⟨n, hn⟩ : ∃ n, (coresL m).length = n := ⟨_, rfl⟩
  have hn16 : n ≤ 16 := by have := cores_length_le m; omega
  have k1 := Lib.hid (fun w => cores_v m n _ hm rfl (by rw [ints64_length, hn]) w)
  have HN := Lib.hid hn
  clear hn
  go_enter Tryd.func18, Tryd.ntmps18
  go_wp2_with fail
  refine (k1.out _).mono ?_
  rintro e w1 ⟨A, ca, rfl, hc1, hc2, hr, hb⟩
  have HB := Lib.hid hb
  have HR := Lib.hid hr
  clear hb hr
  cases n with
  | zero =>
    go_wp2_with fail
    go_ret
    refine ⟨?_, HB.out⟩
    have : textS m = ⟨#[45]⟩ := by unfold textS textL; rw [List.eq_nil_of_length_eq_zero HN.out]; rfl
    rw [this]
    rfl
  | succ k0 =>
    have hel : ∀ (k : Nat), k < k0 + 1 → ∃ ad x, A = some ad ∧ x < 16 ∧ (coresL m)[k]? = some x ∧ ad.block < w1.heap.size ∧ w1.cell? (ad.add k) = some (.int .i64 (x : Nat)) := by
      intro k hk
      have hkl : k < (ints64 (coresL m)).length := by rw [ints64_length, HN.out]; omega
      have hk2 : k < (coresL m).length := by rw [HN.out]; omega
      obtain ⟨ad, e, hblk, hcell⟩ := HR.out.at hkl
      refine ⟨ad, (coresL m)[k], e, mem_coresL (List.getElem_mem hk2), List.getElem?_eq_getElem hk2, hblk, ?_⟩
      rw [hcell]
      simp [ints64]
    have HEL := Lib.hid hel
    clear hel
    obtain ⟨ad, x0, rfl, hx0, hq0, hb0, hcell0⟩ := HEL.out 0 (by omega)
    have hz : ad.add 0 = ad := by unfold Addr.add; split <;> simp_all
    have hk0 : ((k0 : Int) + 1 == 0) = false := by simp; omega
    rw [hz] at hcell0
    have k2 := Lib.hid (fun w => number_c x0 hx0 w)
    go_wp2_with fail
    refine (k2.out _).mono ?_
    rintro e w2 ⟨rfl, hb2⟩
    have HB2 := Lib.hid hb2
    clear hb2 hk0 hz hcell0 hb0
    go_wp2_with fail
    go_loopw [4, 5] (fun s i wr => ∃ k : Nat, i = .int .i64 k ∧ 1 ≤ k ∧ k ≤ k0 + 1 ∧ s = .string (textTo (coresL m) k) ∧ Below w1.heap.size w1 wr) (fun _ i _ => k0 + 1 - (intOf i).toNat)
    case atStart => exact ⟨1, rfl, Nat.le_refl _, by omega, by rw [text_first hq0], HB2.out⟩
    case round =>
      obtain ⟨k, rfl, hk1, hk, rfl, hbr⟩ := hrel
      obtain ⟨S, hS⟩ : ∃ S, S = textTo (coresL m) k := ⟨_, rfl⟩
      have hsz : S.size ≤ 48 := by rw [hS]; exact textTo_size _ _ (fun x hx => mem_coresL hx) (by omega)
      rw [← hS]
      have HS := Lib.hid hS
      have HBR := Lib.hid hbr
      clear hS hbr
      by_cases hlt : k < k0 + 1
      · obtain ⟨ad', x, e, hx, hq, hblk, hcell⟩ := HEL.out k hlt
        injection e with e
        subst e
        have hcr := (HBR.out.cell (p := ad.add k) (by rw [add_block]; exact hblk)).trans hcell
        have k3 := Lib.hid (fun w => number_c x hx w)
        have HQ := Lib.hid hq
        clear hq hcell hblk
        have hlt' : (k : Int) < (k0 : Int) + 1 := by omega
        have hsx := numS_size hx
        go_wp2_with fail
        refine (k3.out _).mono ?_
        rintro e w3 ⟨rfl, hb3⟩
        obtain ⟨T, hT⟩ : ∃ T, T = numS x := ⟨_, rfl⟩
        rw [← hT] at hsx ⊢
        have HT := Lib.hid hT
        have HB3 := Lib.hid (HBR.out.trans (hb3.mono HBR.out.size))
        clear hb3 hT
        go_wp2_with fail
        go_roundw
        case rel => exact ⟨k + 1, by go_num, by omega, by omega, by rw [text_next hk1 HQ.out, ← HS.out, ← HT.out], HB3.out⟩
        case measure => simp [intOf]; omega
      · obtain rfl : k = k0 + 1 := by omega
        go_wp2_with fail
        go_ret
        refine ⟨?_, HB.out.trans (HBR.out.mono HB.out.size)⟩
        have : textS m = S := by
          rw [HS.out]
          unfold textS textL textTo
          rw [if_neg (fun h => by have := HN.out; rw [h] at this; simp at this), ← HN.out, List.take_length]
        rw [this]
        rfl
end Go.Proofs.YtjfeaepjhnpbfaaDoor
