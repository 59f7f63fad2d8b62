/- weight.leastFirst: the places of a row by what stands there; equal ones keep their order. -/
import Derived.Test.YtaeondpeaabfeaaSh
import Derived.Test.YtaeondpeaabfeaaWm
import Derived.Test.YtaeondpeaabfeaaMem
import Derived.Deep.QuietTactic
import Derived.BigQuiet
namespace Go.Proofs.Ytaeondpeaabfeaa
open Go.RowKit Go.Sort Go.Lib

theorem SW.belowB {f : Int → Int} {w0 W : World} {blk off : Nat} {d : Array Int} (h : SW (encF f) w0 blk off d W) {B : Nat} (hB : B ≤ blk) (hz : B ≤ w0.heap.size) : Below B w0 W := by
  obtain ⟨m, os, rfl⟩ := h
  have hs : (putRow (encF f) (Sort.ahead w0 m) blk off d).heap.size = w0.heap.size := by rw [Sort.size_putRow]; rfl
  refine ⟨rfl, rfl, rfl, ?_, ?_⟩
  · show w0.heap.size ≤ (grow (putRow (encF f) (Sort.ahead w0 m) blk off d) os).heap.size
    rw [size_grow, hs]; omega
  · intro k hk
    show ((putRow (encF f) (Sort.ahead w0 m) blk off d).heap ++ os)[k]? = w0.heap[k]?
    rw [Array.getElem?_append_left (by rw [hs]; omega)]
    unfold putRow mapBlock
    rw [Array.getElem?_modify, if_neg (by omega)]
    rfl

set_option maxHeartbeats 1000000 in
theorem least_cmp (G n c : Nat) (ad : Addr) (x y : Nat) (ox oy : Int) (W : World) (hx : x < n) (hy : y < n) (hg : W.cell? ⟨G, 0, none⟩ = some (.slice (some ad) n c))
    (hcx : W.cell? (ad.add x) = some (.int .i64 ox)) (hcy : W.cell? (ad.add y) = some (.int .i64 oy)) :
    Calls Try.prog 33 #[.int .i64 x, .int .i64 y, .pointer (some ⟨G, 0, none⟩)] W fun e w' => e = .returned (.int .i64 (cmpV ox oy)) ∧ ∃ q, w' = W.drewN q := by
  go_enter Try.func33, Try.ntmps33
  go_wp2_with fail
  go_quiet ((go_at_call 34; exact quiet_eq (compare_i _ _ _)))
  go_wp2_with fail
  go_ret
  exact ⟨rfl, nq, rfl⟩

/-- First by a key, then by the number itself. -/
def lexB (o : Int → Int) (x y : Int) : Bool := decide (o x < o y ∨ (o x = o y ∧ x < y))
theorem lexB_true {o : Int → Int} {x y : Int} : lexB o x y = true ↔ o x < o y ∨ (o x = o y ∧ x < y) := by unfold lexB; simp
theorem lexB_false {o : Int → Int} {x y : Int} : lexB o x y = false ↔ ¬ (o x < o y ∨ (o x = o y ∧ x < y)) := by unfold lexB; simp
theorem lexB_swo (o : Int → Int) : SWO (lexB o) where
  irrefl x := lexB_false.2 (by omega)
  trans x y z h1 h2 := by rw [lexB_true] at *; omega
  ntrans x y z h1 h2 := by rw [lexB_false] at *; omega

/-- What stands at a place. -/
def keyO (l : List Int) (x : Int) : Int := l.getD (x % (l.length : Int)).toNat 0
theorem keyO_at (l : List Int) (j : Nat) (h : j < l.length) : keyO l (j : Int) = l[j] := by
  unfold keyO
  rw [show ((j : Int) % (l.length : Int)).toNat = j by rw [Int.emod_eq_of_lt (by omega) (by omega)]; omega]
  simp [h]
/-- 0, 1, .. -/
def iota (n : Nat) : Array Int := ((List.range n).map (fun (i : Nat) => (i : Int))).toArray
theorem iota_size (n : Nat) : (iota n).size = n := by simp [iota]
theorem iota_at (n j : Nat) (h : j < n) : (iota n)[j]! = (j : Int) := by simp [iota, h]
theorem iota_agree (l : List Int) : Agree (lexB (keyO l)) (ltOf fun x y => cmpV (keyO l x) (keyO l y)) (iota l.length) := by
  intro p q hpq hq
  rw [iota_size] at hq
  rw [iota_at _ _ hq, iota_at _ _ (by omega)]
  unfold ltOf lexB
  rw [decide_eq_decide]
  show cmpV (keyO l q) (keyO l p) < 0 ↔ _
  unfold cmpV
  repeat' split
  all_goals omega

theorem least_fam (l : List Int) (G c blk : Nat) (ad : Addr) (w0 : World) (hn : l.length < 4611686018427387904) (h0 : 0 < l.length) (hg : w0.cell? ⟨G, 0, none⟩ = some (.slice (some ad) l.length c)) (hG : G < blk) (hr : IRow .i64 w0 blk (some ad) l) (hblk : blk < w0.heap.size)
    (hc : ∀ j, j < l.length → w0.cell? ⟨blk, j, none⟩ = some (.int .i64 j)) (hf : ∀ j, w0.frozen? ⟨blk, j, none⟩ = false) :
    Fam (fun x => x % (l.length : Int)) 33 #[.pointer (some ⟨G, 0, none⟩)] (fun x y => cmpV (keyO l x) (keyO l y)) blk 0 (iota l.length) w0 where
  eg := enters_of Try.func33 (by kernel_rfl) rfl
  hsz := by rw [iota_size]; exact hn
  R := ⟨fun _ => rfl, fun j hj => by
    rw [iota_size] at hj
    rw [iota_at _ _ hj, Nat.zero_add]
    refine ⟨?_, hf j⟩
    rw [hc j hj]
    show _ = some (Value.int .i64 ((j : Int) % (l.length : Int)))
    rw [Int.emod_eq_of_lt (by omega) (by omega)], hblk⟩
  hcmp := by
    intro m os dk hs x y
    have S : SW (encF fun x => x % (l.length : Int)) w0 blk 0 dk (sortWorld (encF fun x => x % (l.length : Int)) w0 blk 0 m dk os) := ⟨m, os, rfl⟩
    have hb := SW.belowB S (Nat.le_refl _) (Nat.le_of_lt hblk)
    generalize sortWorld (encF fun x => x % (l.length : Int)) w0 blk 0 m dk os = W at hb ⊢
    have x1 := Int.emod_nonneg x (show (l.length : Int) ≠ 0 by omega)
    have x2 := Int.emod_lt_of_pos x (show 0 < (l.length : Int) by omega)
    have y1 := Int.emod_nonneg y (show (l.length : Int) ≠ 0 by omega)
    have y2 := Int.emod_lt_of_pos y (show 0 < (l.length : Int) by omega)
    obtain ⟨X, hX⟩ := Int.eq_ofNat_of_zero_le x1
    obtain ⟨Y, hY⟩ := Int.eq_ofNat_of_zero_le y1
    have hX' : X < l.length := by omega
    have hY' : Y < l.length := by omega
    obtain ⟨a1, e1, _, k1⟩ := (hr.below hb).at hX'
    obtain ⟨a2, e2, _, k2⟩ := (hr.below hb).at hY'
    injection e1 with e1; injection e2 with e2
    subst e1; subst e2
    have kx : keyO l x = l[X] := by unfold keyO; rw [hX]; simp [hX']
    have ky : keyO l y = l[Y] := by unfold keyO; rw [hY]; simp [hY']
    have h := least_cmp G l.length c ad X Y l[X] l[Y] W hX' hY' ((hb.cell hG).trans hg) k1 k2
    rw [← kx, ← ky] at h
    show Calls _ _ #[.int .i64 (x % (l.length : Int)), .int .i64 (y % (l.length : Int)), .pointer (some ⟨G, 0, none⟩)] W _
    rw [hX, hY]
    refine h.mono ?_
    rintro e w' ⟨rfl, q, rfl⟩
    exact ⟨rfl, q, #[], by rw [grow_empty]⟩

/-- What leastFirst hands back. -/
def LFPost (w : World) (l : List Int) (e : Ending) (w' : World) : Prop :=
  ∃ (g : Nat) (d' : Array Int), e = .returned (.slice (some ⟨g, 0, none⟩) l.length l.length) ∧ w.heap.size ≤ g ∧ g < w'.heap.size ∧ (∀ j, j < l.length → w'.cell? ⟨g, j, none⟩ = some (.int .i64 d'[j]!)) ∧ Merged (lexB (keyO l)) 0 l.length (iota l.length) d' ∧ Below w.heap.size w w'

/-- The row while it is filled. -/
def filled (n k : Nat) : List Int := (List.range n).map fun (i : Nat) => if i < k then (i : Int) else 0
theorem filled_zero (n : Nat) : filled n 0 = List.replicate n 0 := by
  apply List.ext_getElem <;> simp [filled]
theorem filled_length (n k : Nat) : (filled n k).length = n := by simp [filled]
theorem filled_set (n k : Nat) : (filled n k).set k (k : Int) = filled n (k + 1) := by
  apply List.ext_getElem
  · simp [filled]
  · intro i h1 h2
    simp only [filled, List.getElem_set, List.getElem_map, List.getElem_range]
    repeat' split
    all_goals omega
theorem filled_at (n j : Nat) (h : j < n) : (filled n n)[j]'(by rw [filled_length]; exact h) = (j : Int) := by simp [filled, h]

/-- While leastFirst fills its row. -/
def LFAt (w : World) (v : Value) (n k : Nat) (wr : World) : Prop :=
  OwnI .i64 wr (w.heap.size + 1) 3 (.slice (some ⟨w.heap.size + 1, 0, none⟩) n n) (filled n k) ∧ wr.cell? ⟨w.heap.size, 0, none⟩ = some v ∧ w.heap.size + 1 < wr.heap.size ∧ Below w.heap.size w wr
theorem LFAt.next {w : World} {v : Value} {n k : Nat} {wr : World} (h : LFAt w v n k wr) : LFAt w v n (k + 1) (wr.setCell ⟨w.heap.size + 1, k, none⟩ (.int .i64 k)) := by
  obtain ⟨h1, h2, h3, h4⟩ := h
  have h5 : OwnI .i64 wr (w.heap.size + 1) 3 (.slice (some ⟨w.heap.size + 1, 0, none⟩) (filled n k).length n) (filled n k) := by rw [filled_length]; exact h1
  have h6 := h5.stored k (k : Int)
  rw [filled_set, filled_length] at h6
  refine ⟨h6, ?_, by simpa using h3, h4.setCell (by simp) _⟩
  exact (World.cell?_setCell_other _ _ _ _ (fun e => by have := congrArg Addr.block e; simp at this)).trans h2

theorem info_int : (Try.prog.info? 3).map (fun i => (i.zero, i.size, i.bytes)) = some (some (.int .i64 0), 1, 8) := by kernel_rfl

set_option maxHeartbeats 1000000 in
set_option maxRecDepth 100000 in
theorem least_c (l : List Int) (ad : Addr) (c : Nat) (w : World) (hr : IRow .i64 w w.heap.size (some ad) l) (h0 : 0 < l.length) (hn : l.length ≤ 1000000) :
    Calls Try.prog 25 #[.slice (some ad) l.length c] w (LFPost w l) := by
  obtain ⟨i0, hi0, hz0, hz1, hz2⟩ := info_parts info_int
  have HR := Lib.hid hr
  clear hr
  obtain ⟨n, hne⟩ : ∃ n, n = l.length := ⟨_, rfl⟩
  rw [← hne] at h0 hn ⊢
  have HN := Lib.hid hne
  clear hne
  go_enter Try.func25, Try.ntmps25
  go_wp2_with (refine wpList_make_full _ rfl _ _ 27 rfl (w.heap.size + 1) 3 i0 (.int .i64 0) 1 Try.underlying27 hi0 hz0 hz1 .i64 .i64 _ _ n rfl rfl (by omega) (by omega) (by rw [hz2]; omega) (by unfold maxLen; omega) (by simp) ?_; intro w1 hown1 hgrow1)
  have HS : Hid (LFAt w (.slice (some ad) n c) n 0 w1) := Lib.hid (by
    have hb : Below (w.alloc (.cells #[.slice (some ad) n c] 30)).heap.size (w.alloc (.cells #[.slice (some ad) n c] 30)) w1 := (Below.refl _ _).grown hgrow1 (Nat.le_refl _) (by simp)
    have hm := made_zeros hown1
    have hlt := World.ownsRow.lt hown1 _ rfl
    refine ⟨?_, ?_, ?_, ?_⟩
    · rw [filled_zero]; simpa using hm
    · rw [hb.cell (by simp)]; simp
    · simpa using hlt.2
    · exact ((Below.refl _ _).alloc (Nat.le_refl _) _).trans (hb.mono (by simp)))
  clear hown1 hgrow1
  go_loopw [10] (fun vi wr => ∃ k : Nat, vi = .int .i64 k ∧ k ≤ n ∧ Hid (LFAt w (.slice (some ad) n c) n k wr)) (fun vi _ => n - (intOf vi).toNat)
  case atStart => exact ⟨0, rfl, by omega, HS⟩
  case round =>
    clear HS
    obtain ⟨k, rfl, hk, HI⟩ := hrel
    by_cases hlt : k < n
    · have HX := Lib.hid HI.out.next
      have h5 : OwnI .i64 wr (w.heap.size + 1) 3 (.slice (some ⟨w.heap.size + 1, 0, none⟩) (filled n k).length n) (filled n k) := by rw [filled_length]; exact HI.out.1
      have hc := h5.cellAt k (by rw [filled_length]; exact hlt)
      have hf := h5.frozenAt k
      generalize (filled n k)[k]'(by rw [filled_length]; exact hlt) = z at hc
      clear h5 HI
      go_wp2_with fail
      go_roundw
      case rel => exact ⟨k + 1, by go_num, by omega, HX⟩
      case measure => simp [intOf]; omega
    · have hkn : k = n := by omega
      subst hkn
      have hF : Fam (fun x => x % (l.length : Int)) 33 #[.pointer (some ⟨w.heap.size, 0, none⟩)] (fun x y => cmpV (keyO l x) (keyO l y)) (w.heap.size + 1) 0 (iota l.length) wr := by
        obtain ⟨q1, q2, q3, q4⟩ := HI.out
        have h5 : OwnI .i64 wr (w.heap.size + 1) 3 (.slice (some ⟨w.heap.size + 1, 0, none⟩) (filled k k).length k) (filled k k) := by rw [filled_length]; exact q1
        refine least_fam l w.heap.size c (w.heap.size + 1) ad wr (by rw [← HN.out]; omega) (by rw [← HN.out]; exact h0) (by rw [← HN.out]; exact q2) (by omega) ((HR.out.below q4).more (by omega)) q3 ?_ ?_
        · intro j hj
          rw [← HN.out] at hj
          rw [h5.cellAt j (by rw [filled_length]; exact hj), filled_at k j hj]
        · exact fun j => h5.frozenAt j
      have hc := Lib.hid (sortstable_c (lexB (keyO l)) (lexB_swo _) (fun x y => cmpV (keyO l x) (keyO l y)) 33 #[.pointer (some ⟨w.heap.size, 0, none⟩)] (w.heap.size + 1) 0 k (iota l.length) wr hF (iota_agree l))
      rw [iota_size, ← HN.out] at hc
      have HX : Hid (∀ d' w', Merged (lexB (keyO l)) 0 k (iota k) d' → SW (encF fun x => x % (k : Int)) wr (w.heap.size + 1) 0 d' w' → Hid (LFPost w l (.returned (.slice (some ⟨w.heap.size + 1, 0, none⟩) k k)) w')) := Lib.hid fun d' w' z1 z2 => Lib.hid (by
        obtain ⟨q1, q2, q3, q4⟩ := HI.out
        have hz : d'.size = k := by rw [z1.1.1, iota_size]
        refine ⟨w.heap.size + 1, d', by rw [← HN.out], by omega, z2.lt q3, ?_, by rw [← HN.out]; exact z1, q4.trans (SW.belowB z2 (by omega) q4.size)⟩
        intro j hj
        rw [← HN.out] at hj
        have hin : 0 ≤ d'[j]! ∧ d'[j]! < (k : Int) := permIn_all (iota k) d' 0 k (fun x => 0 ≤ x ∧ x < (k : Int)) (by rw [iota_size]; omega) z1.1 (fun i _ hi => by rw [iota_at _ _ hi]; omega) j (by omega) hj
        have hR := hF.R
        have := z2.c1 (hF.R.hO |> fun hO => (⟨hO, by have := hF.R.hH; rwa [← HN.out] at this, q3⟩ : Row1 (encF fun x => x % (k : Int)) wr (w.heap.size + 1) 0 (iota k))) (by rw [hz, iota_size]) j (by rw [hz]; exact hj)
        rw [Nat.zero_add] at this
        rw [this]
        show some (Value.int .i64 (d'[j]! % (k : Int))) = _
        rw [Int.emod_eq_of_lt hin.1 hin.2])
      clear hF HI
      go_wp2_with fail
      refine hc.out.mono ?_
      rintro e w2 ⟨rfl, d', z1, z2⟩
      have H2 := HX.out d' w2 z1 z2
      clear z1 z2 HX hc
      go_wp2_with fail
      go_ret
      exact H2.out
end Go.Proofs.Ytaeondpeaabfeaa
