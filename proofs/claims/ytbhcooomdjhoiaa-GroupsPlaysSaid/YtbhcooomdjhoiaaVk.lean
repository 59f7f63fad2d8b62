/- The reference's Groups: what they are in the heap; NewGroups, Has, Path, All. -/
import Derived.Test.YtbhcooomdjhoiaaVj
namespace Go.Proofs.Ytbhcooomdjhoiaa
open Go.RowKit Go.Shelf

def flatR (U : List Int) (G : List GR) : List Value := U.map (Value.int .i64) ++ G.map (fun x => Value.bool x.2)
/-- What the numbers that are there are in. -/
structure UpsOf (U : List Int) (G : List GR) : Prop where
  ul : U.length = 16
  gl : G.length = 16
  u0 : U[0]? = some (-1)
  us : ∀ (i u : Nat), i ≠ 0 → G[i]? = some (u, true) → U[i]? = some (u : Int)
structure IsR (w : World) (p : Nat) (U : List Int) (G : List GR) : Prop where
  box : w.heap[p]? = some (.cells (flatR U G).toArray 59 (0, 0))
  ups : UpsOf U G
theorem IsR.lt {w : World} {p : Nat} {U : List Int} {G : List GR} (h : IsR w p U G) : p < w.heap.size := (Array.getElem?_eq_some_iff.1 h.box).1
theorem IsR.keep {w w' : World} {p : Nat} {U : List Int} {G : List GR} (h : IsR w p U G) (hb : w'.heap[p]? = w.heap[p]?) : IsR w' p U G := ⟨hb.trans h.box, h.ups⟩
theorem IsR.below {w w' : World} {p : Nat} {U : List Int} {G : List GR} (h : IsR w p U G) (hb : Below w.heap.size w w') : IsR w' p U G := h.keep (hb.block _ h.lt)
theorem flatR_up {U : List Int} {G : List GR} {i : Nat} {z : Int} (h : U[i]? = some z) : (flatR U G)[i]? = some (.int .i64 z) := by
  unfold flatR
  have hi := (List.getElem?_eq_some_iff.1 h).1
  rw [List.getElem?_append_left (by simpa using hi), List.getElem?_map, h]; rfl
theorem flatR_in {U : List Int} {G : List GR} {i u : Nat} {c : Bool} (hl : U.length = 16) (h : G[i]? = some (u, c)) : (flatR U G)[16 + i]? = some (.bool c) := by
  unfold flatR
  rw [List.getElem?_append_right (by simp; omega), List.length_map, hl, Nat.add_sub_cancel_left, List.getElem?_map, h]; rfl
theorem IsR.cu {w : World} {p : Nat} {U : List Int} {G : List GR} (h : IsR w p U G) {i : Nat} {z : Int} (hi : U[i]? = some z) : w.cell? ⟨p, i, none⟩ = some (.int .i64 z) := by
  have := flatR_up (G := G) hi
  simp [World.cell?, h.box, this]
theorem IsR.ci {w : World} {p : Nat} {U : List Int} {G : List GR} (h : IsR w p U G) {i u : Nat} {c : Bool} (hi : G[i]? = some (u, c)) : w.cell? ⟨p, 16 + i, none⟩ = some (.bool c) := by
  have := flatR_in h.ups.ul hi
  simp [World.cell?, h.box, this]
theorem IsR.frozen {w : World} {p : Nat} {U : List Int} {G : List GR} (h : IsR w p U G) (o : Nat) : w.frozen? ⟨p, o, none⟩ = false := by simp [World.frozen?, h.box]
theorem IsR.at {w : World} {p : Nat} {U : List Int} {G : List GR} (h : IsR w p U G) {k : Nat} (hk : k < 16) : ∃ u c, G[k]? = some (u, c) := ⟨_, _, List.getElem?_eq_getElem (by rw [h.ups.gl]; exact hk)⟩

def rootU : List Int := -1 :: List.replicate 15 0
theorem ups_root : UpsOf rootU rootG := by
  refine ⟨rfl, rfl, rfl, fun i u h0 h => ?_⟩
  obtain ⟨j, rfl⟩ : ∃ j, i = j + 1 := ⟨i - 1, by omega⟩
  unfold rootG at h
  rw [List.getElem?_cons_succ, List.getElem?_replicate] at h
  split at h <;> simp at h

set_option maxRecDepth 100000 in
set_option maxHeartbeats 2000000 in
theorem newGroups_c (w : World) :
    Calls Try.prog 16 #[] w fun e w' => e = .returned (.pointer (some ⟨w.heap.size, 0, none⟩)) ∧ IsR w' w.heap.size rootU rootG ∧ Below w.heap.size w w' := by
  go_enter Try.func16, Try.ntmps16
  go_wp2
  go_region
  all_goals
    go_wp2
    go_ret
    refine ⟨rfl, ⟨?_, ups_root⟩, ?_⟩
    · exact World.alloc_heap_new w _
    · exact ((Below.refl _ w).alloc (Nat.le_refl _) _).drew

set_option maxHeartbeats 1000000 in
theorem rhas_c (p : Nat) (U : List Int) (G : List GR) (id : Int) (w : World) (h : IsR w p U G) :
    Calls Try.prog 26 #[.pointer (some ⟨p, 0, none⟩), .int .i64 id] w fun e w' => e = .returned (.bool (hasG G id)) ∧ w = w' := by
  by_cases h1 : id < 0
  · rw [hasG_neg h1]
    clear h
    go_enter Try.func26, Try.ntmps26
    go_wp2
    go_ret
    exact ⟨rfl, rfl⟩
  · by_cases h2 : 16 ≤ id
    · rw [hasG_big (by rw [h.ups.gl]; exact h2)]
      clear h
      go_enter Try.func26, Try.ntmps26
      go_wp2
      go_ret
      exact ⟨rfl, rfl⟩
    · obtain ⟨k, rfl⟩ : ∃ k : Nat, id = k := ⟨id.toNat, by omega⟩
      have hk : k < 16 := by omega
      obtain ⟨u, c, hx⟩ := h.at hk
      rw [hasG_in hx]
      have d1 := h.ci hx
      clear h hx h1 h2
      go_enter Try.func26, Try.ntmps26
      go_wp2
      go_ret
      exact ⟨rfl, rfl⟩

theorem ints64_snoc (l : List Nat) (x : Nat) : ints64 (l ++ [x]) = ints64 l ++ [(x : Int)] := by simp [ints64]

set_option maxHeartbeats 2000000 in
theorem rall_c (p : Nat) (U : List Int) (G : List GR) (w : World) (h : IsR w p U G) :
    Calls Try.prog 20 #[.pointer (some ⟨p, 0, none⟩)] w fun e w' => ∃ v, e = .returned v ∧ OwnI .i64 w' w.heap.size 3 v (ints64 (numsL G true)) ∧ Below w.heap.size w w' := by
  obtain ⟨i0, hi, hz0, hz1, hz2⟩ := info_parts info_intV
  have H := Lib.hid h
  clear h
  go_enter Try.func20, Try.ntmps20
  go_wp2_with fail
  go_loopw [4, 3] (fun i v wr => ∃ k : Nat, i = .int .i64 k ∧ k ≤ 16 ∧ Hid (OwnI .i64 wr w.heap.size 3 v (ints64 (numsTo G true k)) ∧ Below w.heap.size w wr)) (fun i _ _ => 16 - (intOf i).toNat)
  case atStart => exact ⟨0, rfl, Nat.zero_le _, Lib.hid ⟨OwnI.nil _ _ _ _, Below.refl _ _⟩⟩
  case round =>
    obtain ⟨k, rfl, hk, HK⟩ := hrel
    have hIs := H.out.below HK.out.2
    by_cases hlt : k < 16
    · obtain ⟨t, c, hx⟩ := hIs.at hlt
      have d1 := hIs.ci hx
      cases c with
      | false =>
        have HK' := Lib.hid (show OwnI .i64 _ w.heap.size 3 _ (ints64 (numsTo G true (k + 1))) ∧ Below w.heap.size w _ from ⟨by rw [numsTo_no hx (by decide)]; exact HK.out.1, HK.out.2⟩)
        clear hx hIs
        go_wp2_with fail
        go_roundw
        case rel => exact ⟨k + 1, by go_num, by omega, HK'⟩
        case measure => simp [intOf]; omega
      | true =>
        have hnx : ints64 (numsTo G true (k + 1)) = ints64 (numsTo G true k) ++ [(k : Int)] := by rw [numsTo_yes hx, ints64_snoc]
        have HNX := Lib.hid hnx
        have hll : (ints64 (numsTo G true k)).length ≤ k := by
          rw [ints64_length]
          unfold numsTo
          exact Nat.le_trans (List.length_filter_le _ _) (by simp)
        have hsz := HK.out.2.size
        clear hx hIs hnx
        go_wp2_with (at_builtin; refine wpList_app1 rfl _ _ 31 rfl w.heap.size 3 i0 8 0 Try.underlying31 hi hz0 hz1 hz2 _ (ints64 (numsTo G true k)) rfl HK.out.1 (k : Int) rfl (by omega) (by omega) hsz ?_; intro v' w' hown' hbel'; have HO := Lib.hid hown'; have HBL := Lib.hid hbel'; clear hown' hbel')
        go_roundw
        case rel => exact ⟨k + 1, by go_num, by omega, Lib.hid ⟨by rw [HNX.out]; exact HO.out, HK.out.2.trans HBL.out⟩⟩
        case measure => simp [intOf]; omega
    · obtain rfl : k = 16 := by omega
      have HK' := Lib.hid (show OwnI .i64 _ w.heap.size 3 _ (ints64 (numsL G true)) ∧ Below w.heap.size w _ from ⟨by unfold numsL; rw [H.out.ups.gl]; exact HK.out.1, HK.out.2⟩)
      clear hIs
      go_wp2_with fail
      go_ret
      exact ⟨_, rfl, HK'.out.1, HK'.out.2⟩

def muP (G : List GR) (x : Value) : Nat := (chI G (intOf x)).length

set_option maxHeartbeats 2000000 in
theorem rpath_c (p : Nat) (U : List Int) (G : List GR) (id : Int) (w : World) (h : IsR w p U G) (hw : WfG G) :
    Calls Try.prog 21 #[.pointer (some ⟨p, 0, none⟩), .int .i64 id] w fun e w' => ∃ v, e = .returned v ∧ OwnI .i64 w' w.heap.size 3 v (ints64 (chI G id)) ∧ Below w.heap.size w w' := by
  obtain ⟨i0, hi, hz0, hz1, hz2⟩ := info_parts info_intV
  have H := Lib.hid h
  have HW := Lib.hid hw
  clear h hw
  go_enter Try.func21, Try.ntmps21
  go_wp2_with fail
  go_loopw [1, 5] (fun x v wr => ∃ (z : Int) (pre : List Nat), x = .int .i64 z ∧ Hid (chI G id = pre ++ chI G z ∧ OwnI .i64 wr w.heap.size 3 v (ints64 pre) ∧ Below w.heap.size w wr)) (fun x _ _ => muP G x)
  case atStart => exact ⟨id, [], rfl, Lib.hid ⟨rfl, OwnI.nil _ _ _ _, Below.refl _ _⟩⟩
  case round =>
    obtain ⟨z, pre, rfl, HK⟩ := hrel
    have hIs := H.out.below HK.out.2.2
    have K1 := Lib.hid (rhas_c p U G z _ hIs)
    cases hh : hasG G z with
    | false =>
      rw [hh] at K1
      have HE := Lib.hid (show chI G id = pre by rw [HK.out.1, chI_no hh, List.append_nil])
      clear hIs hh
      go_wp2_with fail
      refine K1.out.mono ?_
      rintro e w' ⟨rfl, rfl⟩
      go_wp2_with fail
      go_ret
      exact ⟨_, rfl, by rw [HE.out]; exact HK.out.2.1, HK.out.2.2⟩
    | true =>
      rw [hh] at K1
      obtain ⟨i, rfl, hc, hl4⟩ := HW.out.chn hh
      obtain ⟨t, r, he, hx⟩ := hc.ne
      have hi16 : i < 16 := by have := (List.getElem?_eq_some_iff.1 hx).1; rw [HW.out.len] at this; exact this
      obtain ⟨u, hu, hun⟩ : ∃ u : Int, U[i]? = some u ∧ chI G u = r := by
        rw [he] at hc hl4
        cases hc with
        | root h => exact ⟨-1, H.out.ups.u0, chI_no (hasG_neg (by decide))⟩
        | up h0 h1 h2 => exact ⟨_, H.out.ups.us _ _ h0 h1, chI_of h2 (by simp at hl4 ⊢; omega)⟩
      have hle := HW.out.len_ch id
      have hnx : chI G id = (pre ++ [i]) ++ chI G u := by rw [HK.out.1, he, hun]; simp
      have HNX := Lib.hid hnx
      have hmu : muP G (.int .i64 u) < muP G (.int .i64 i) := by
        unfold muP
        simp only [intOf]
        rw [hun, he]
        simp
      have HMU := Lib.hid hmu
      have hpl : (ints64 pre).length ≤ 4 := by rw [ints64_length]; rw [hnx] at hle; simp at hle; omega
      have hsz := HK.out.2.2.size
      have HU := Lib.hid (fun (w' : World) (hb : Below w.heap.size w w') => (H.out.below hb).cu hu)
      clear hIs hh hc he hx hun hnx hmu hle hl4 hu
      go_wp2_with (first
        | (at_builtin; refine wpList_app1 rfl _ _ 31 rfl w.heap.size 3 i0 8 0 Try.underlying31 hi hz0 hz1 hz2 _ (ints64 pre) rfl HK.out.2.1 (i : Int) rfl (by omega) (by omega) hsz ?_; intro v' w' hown' hbel'; have HO := Lib.hid hown'; have HBL := Lib.hid (HK.out.2.2.trans hbel'); have hcu := HU.out _ HBL.out; clear hown' hbel')
        | (go_at_call 26; refine K1.out.mono ?_; rintro e w' ⟨rfl, rfl⟩))
      go_roundw
      case rel => exact ⟨u, pre ++ [i], rfl, Lib.hid ⟨HNX.out, by rw [ints64_snoc]; exact HO.out, HBL.out⟩⟩
      case measure => exact HMU.out
end Go.Proofs.Ytbhcooomdjhoiaa
