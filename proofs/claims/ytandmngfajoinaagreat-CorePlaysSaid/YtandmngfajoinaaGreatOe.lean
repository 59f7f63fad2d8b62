/- Queues: slices.BinarySearchFunc over them; place. -/
import Derived.Test.YtandmngfajoinaaGreatOd
namespace Go.Proofs.YtandmngfajoinaaGreat
open Go.RowKit

theorem befQ_trans {a b c : QI} (h1 : befQ a b = true) (h2 : befQ b c = true) : befQ a c = true := by
  unfold befQ at *
  simp at *
  omega
theorem befQ_asymm {a b : QI} (h1 : befQ a b = true) : befQ b a = false := by
  unfold befQ at *
  simp at *
  omega
theorem befQ_total {a b : QI} (h1 : befQ a b = false) : a = b ∨ befQ b a = true := by
  obtain ⟨a0, a1⟩ := a
  obtain ⟨b0, b1⟩ := b
  unfold befQ at *
  simp at *
  omega
/-- In order, no two alike. -/
def Ord (L : List QI) : Prop := L.Pairwise (fun a b => befQ a b = true)
theorem Ord.get {L : List QI} (h : Ord L) {i j : Nat} {x y : QI} (hi : L[i]? = some x) (hj : L[j]? = some y) (hlt : i < j) : befQ x y = true := by
  obtain ⟨h1, h2⟩ := List.getElem?_eq_some_iff.1 hi
  obtain ⟨h3, h4⟩ := List.getElem?_eq_some_iff.1 hj
  have := List.pairwise_iff_getElem.1 h i j h1 h3 hlt
  rw [h2, h4] at this
  exact this
/-- The place of x: those ahead of it are before x, the others not. -/
def Place (L : List QI) (x : QI) (p : Nat) : Prop := p ≤ L.length ∧ ∀ j y, L[j]? = some y → (j < p ↔ befQ y x = true)
/-- What is known within the search. -/
def Search (L : List QI) (x : QI) (p q : Nat) : Prop := p ≤ q ∧ q ≤ L.length ∧ (∀ j y, L[j]? = some y → j < p → befQ y x = true) ∧ (∀ j y, L[j]? = some y → q ≤ j → befQ y x = false)
theorem Search.start (L : List QI) (x : QI) : Search L x 0 L.length :=
  ⟨Nat.zero_le _, Nat.le_refl _, fun _ _ _ h => by omega, fun j y hj h => by have := (List.getElem?_eq_some_iff.1 hj).1; omega⟩
theorem Search.up {L : List QI} {x y : QI} {p q h : Nat} (ho : Ord L) (hs : Search L x p q) (hy : L[h]? = some y) (hb : befQ y x = true) (h2 : h < q) : Search L x (h + 1) q := by
  refine ⟨by omega, hs.2.1, fun j z hj hlt => ?_, hs.2.2.2⟩
  rcases Nat.lt_or_ge j h with h3 | h3
  · exact befQ_trans (ho.get hj hy h3) hb
  · obtain rfl : j = h := by omega
    rw [hy] at hj; injection hj with hj; rw [← hj]; exact hb
theorem Search.down {L : List QI} {x y : QI} {p q h : Nat} (ho : Ord L) (hs : Search L x p q) (hy : L[h]? = some y) (hb : befQ y x = false) (h1 : p ≤ h) (h2 : h < q) : Search L x p h := by
  refine ⟨h1, by have := hs.2.1; omega, hs.2.2.1, fun j z hj hle => ?_⟩
  rcases Nat.lt_or_ge h j with h3 | h3
  · cases hzx : befQ z x with
    | false => rfl
    | true => rw [befQ_trans (ho.get hy hj h3) hzx] at hb; cases hb
  · obtain rfl : j = h := by omega
    rw [hy] at hj; injection hj with hj; rw [← hj]; exact hb
theorem Search.done {L : List QI} {x : QI} {p q : Nat} (hs : Search L x p q) (h : p = q) : Place L x p := by
  subst h
  refine ⟨hs.2.1, fun j y hj => ⟨hs.2.2.1 j y hj, fun hb => ?_⟩⟩
  rcases Nat.lt_or_ge j p with h1 | h1
  · exact h1
  · rw [hs.2.2.2 j y hj h1] at hb; cases hb

/-- A search's state. -/
def SrchAt (b mp : Nat) (most s : Int) (v : Value) (L : List QI) (x : QI) (B p q : Nat) (w wr : World) : Prop :=
  ∃ k e : Nat, k + e = B ∧ q - p < 2 ^ e ∧ Search L x p q ∧ QBox wr b most v mp (s + (k : Int)) ∧ Trip (fun j => j = b) w (fun j => j = b) wr
/-- What a search leaves. -/
def SrchPost (b mp : Nat) (most s : Int) (v : Value) (L : List QI) (x : QI) (B : Nat) (w : World) (p : Nat) (w' : World) : Prop :=
  ∃ k : Nat, k ≤ B + 1 ∧ Place L x p ∧ QBox w' b most v mp (s + (k : Int)) ∧ Trip (fun j => j = b) w (fun j => j = b) w'

theorem Trip.undrew {A A' : Nat → Prop} {W W' : World} (h : Trip A W.drew A' W') : Trip A W A' W' := ⟨h.os, h.tape, h.output, h.size, h.block, h.sub, h.bd⟩
/-- Behind one more compare. -/
def AfterCmp (b mp : Nat) (most s : Int) (v : Value) (w wr wx : World) : Prop := ∀ k : Nat, QBox wr b most v mp (s + (k : Int)) → Trip (fun j => j = b) w (fun j => j = b) wr → QBox wx b most v mp (s + ((k + 1 : Nat) : Int)) ∧ Trip (fun j => j = b) w (fun j => j = b) wx
theorem pow_half {a e : Nat} (h1 : 1 ≤ a) (h : a < 2 ^ e) : ∃ f, e = f + 1 ∧ a / 2 < 2 ^ f := by
  cases e with
  | zero => simp at h; omega
  | succ f => exact ⟨f, rfl, by rw [Nat.pow_succ] at h; omega⟩
theorem SrchAt.up {b mp : Nat} {most s : Int} {v : Value} {L : List QI} {x y : QI} {B p q h : Nat} {w wr wx : World} (hS : SrchAt b mp most s v L x B p q w wr) (hA : AfterCmp b mp most s v w wr wx) (ho : Ord L) (hy : L[h]? = some y) (hb : befQ y x = true) (hh : h = (p + q) / 2) (hlt : p < q) : SrchAt b mp most s v L x B (h + 1) q w wx := by
  obtain ⟨k, e, hke, hpq, hsr, hqb, ht⟩ := hS
  obtain ⟨f, rfl, hf⟩ := pow_half (by omega) hpq
  obtain ⟨h1, h2⟩ := hA k hqb ht
  exact ⟨k + 1, f, by omega, by omega, hsr.up ho hy hb (by omega), h1, h2⟩
theorem SrchAt.down {b mp : Nat} {most s : Int} {v : Value} {L : List QI} {x y : QI} {B p q h : Nat} {w wr wx : World} (hS : SrchAt b mp most s v L x B p q w wr) (hA : AfterCmp b mp most s v w wr wx) (ho : Ord L) (hy : L[h]? = some y) (hb : befQ y x = false) (hh : h = (p + q) / 2) (hlt : p < q) : SrchAt b mp most s v L x B p h w wx := by
  obtain ⟨k, e, hke, hpq, hsr, hqb, ht⟩ := hS
  obtain ⟨f, rfl, hf⟩ := pow_half (by omega) hpq
  obtain ⟨h1, h2⟩ := hA k hqb ht
  exact ⟨k + 1, f, by omega, by omega, hsr.down ho hy hb (by omega) (by omega), h1, h2⟩
/-- The compare that a search makes: with the thing at ⟨g, o⟩, by the one in the box H. -/
theorem srch_cmp {b mp : Nat} {most s : Int} {v : Value} {L : List QI} {x0 x1 : Int} {y : QI} {B p q g o H : Nat} {w wr : World} (hS : SrchAt b mp most s v L (x0, x1) B p q w wr) (hs : 0 ≤ s) (hs' : s < 2305843009213693952) (hB' : B ≤ 1000)
    (hgb : g ≠ b) (hHb : H ≠ b) (hg : g < w.heap.size) (hH : H < w.heap.size) (c0 : wr.cell? ⟨g, o, none⟩ = some (.int .i64 y.1)) (c1 : wr.cell? ⟨g, o + 1, none⟩ = some (.int .i64 y.2)) (c2 : wr.cell? ⟨H, 0, none⟩ = some (.int .i64 x0)) (c3 : wr.cell? ⟨H, 1, none⟩ = some (.int .i64 x1)) :
    Calls Tryz.prog 103 #[.pointer (some ⟨b, 0, none⟩), .agg #[.int .i64 y.1, .int .i64 y.2], .agg #[.int .i64 x0, .int .i64 x1]] wr.drew fun e w' => e = .returned (.int .i64 (cmpQ y (x0, x1))) ∧
      (w'.cell? ⟨g, o, none⟩ = some (.int .i64 y.1) ∧ w'.cell? ⟨g, o + 1, none⟩ = some (.int .i64 y.2) ∧ w'.cell? ⟨H, 0, none⟩ = some (.int .i64 x0) ∧ w'.cell? ⟨H, 1, none⟩ = some (.int .i64 x1)) ∧ AfterCmp b mp most s v w wr w' := by
  obtain ⟨k, e, hke, hpq, hsr, hqb, ht⟩ := hS
  refine (compare_c b mp most (s + k) v y (x0, x1) wr.drew hqb (by omega) (by omega)).mono ?_
  rintro e w' ⟨rfl, h1, h2⟩
  have hsz := ht.size
  have eg : w'.heap[g]? = wr.heap[g]? := h2.block g (by show g < wr.heap.size; omega) hgb
  have eH : w'.heap[H]? = wr.heap[H]? := h2.block H (by show H < wr.heap.size; omega) hHb
  refine ⟨rfl, ⟨?_, ?_, ?_, ?_⟩, fun k' hk' ht' => ⟨?_, ht'.trans h2.undrew⟩⟩
  · exact (World.cell?_of_block (a := ⟨g, o, none⟩) eg).trans c0
  · exact (World.cell?_of_block (a := ⟨g, o + 1, none⟩) eg).trans c1
  · exact (World.cell?_of_block (a := ⟨H, 0, none⟩) eH).trans c2
  · exact (World.cell?_of_block (a := ⟨H, 1, none⟩) eH).trans c3
  · have e1 := hk'.symm.trans hqb
    injection e1 with e1
    injection e1 with e1
    injection e1 with e1
    simp at e1
    have e2 : s + ((k' + 1 : Nat) : Int) = s + (k : Int) + 1 := by omega
    rw [e2]
    exact h1

theorem SrchAt.finish {b mp : Nat} {most s : Int} {v : Value} {L : List QI} {x : QI} {B p q : Nat} {w0 w wr : World} (hS : SrchAt b mp most s v L x B p q w wr) (h : p = q) :
    (∀ {wx}, AfterCmp b mp most s v w wr wx → Trip (fun j => j = b) w0 (fun j => j = b) w → SrchPost b mp most s v L x B w0 p wx) ∧ (∀ m, Trip (fun j => j = b) w0 (fun j => j = b) w → SrchPost b mp most s v L x B w0 p (wr.drewN m)) := by
  obtain ⟨k, e, hke, hpq, hsr, hqb, ht⟩ := hS
  refine ⟨fun {wx} hA h0 => ?_, fun m h0 => ?_⟩
  · obtain ⟨h1, h2⟩ := hA k hqb ht
    exact ⟨k + 1, by omega, hsr.done h, h1, h0.trans h2⟩
  · refine ⟨k, by omega, hsr.done h, hqb, ?_⟩
    have := h0.trans ht
    exact ⟨this.os, this.tape, this.output, this.size, this.block, this.sub, this.bd⟩

set_option maxRecDepth 100000 in
set_option maxHeartbeats 4000000 in
theorem bsf_c (b mp : Nat) (most s : Int) (v : Value) (L : List QI) (x : QI) (B : Nat) (w : World) (hq : QBox w b most v mp s) (hr : QRow w 136 v L) (hne : v.ownBlock ≠ some b) (ho : Ord L) (hL : L.length ≤ 1000000) (hB : L.length < 2 ^ B) (hB' : B ≤ 1000) (hs : 0 ≤ s) (hs' : s < 2305843009213693952) :
    Calls Tryz.prog 102 #[v, .agg (encQ x).toArray, .func (.func 103) #[.pointer (some ⟨b, 0, none⟩)] #[]] w fun e w' => ∃ p f, e = .returned (.tuple #[.int .i64 (p : Nat), .bool f]) ∧ SrchPost b mp most s v L x B w p w' := by
  obtain ⟨A, c, rfl, hc1, hc2⟩ := hr.form
  obtain ⟨n, hn⟩ : ∃ n, L.length = n := ⟨_, rfl⟩
  have hbw := hq.lt
  have HR := Lib.hid hr
  have HQ := Lib.hid hq
  have HO := Lib.hid ho
  have HN := Lib.hid hn
  have hxb : (w.alloc (.cells (encQ x).toArray 136)).heap[w.heap.size]? = some (.cells (encQ x).toArray 136 (0, 0)) := World.alloc_heap_new _ _
  obtain ⟨x0, x1⟩ := x
  rw [hn] at hL hB hc1 ⊢
  unfold maxLen at hc2
  clear hr ho
  have hq' : QBox w b most (.slice A n c) mp s := by rw [← hn]; exact hq
  clear hn hq
  show Calls _ _ #[_, .agg #[.int .i64 x0, .int .i64 x1], _] _ _
  go_enter Tryz.func102, Tryz.ntmps102
  go_wp2_with fail
  obtain ⟨w1, hw1⟩ : ∃ w1, w.alloc (.cells #[.int .i64 x0, .int .i64 x1] 136) = w1 := ⟨_, rfl⟩
  have hxb1 : w1.heap[w.heap.size]? = some (.cells #[.int .i64 x0, .int .i64 x1] 136 (0, 0)) := by rw [← hw1]; exact hxb
  have hbel : Below w.heap.size w w1 := by rw [← hw1]; exact (Below.refl _ w).alloc (Nat.le_refl _) _
  have ht1 : Trip (fun j => j = b) w (fun j => j = b) w1 := by rw [← hw1]; exact (Trip.refl (fun j hj => by omega)).alloc _
  have hbw1 : b < w1.heap.size := by have := hbel.size; omega
  have h0 : SrchAt b mp most s (.slice A n c) L (x0, x1) B 0 n w1 w1 := by
    refine ⟨0, B, by omega, by omega, by rw [← HN.out]; exact Search.start _ _, ?_, Trip.refl (fun j hj => by omega)⟩
    have : QBox w1 b most (.slice A n c) mp s := (hbel.block b hbw).trans hq'
    simpa using this
  rw [hw1]
  have HX := Lib.hid hxb1
  have H0 := Lib.hid h0
  have HT1 := Lib.hid ht1
  have HBL := Lib.hid hbel
  -- the cells that a compare with the h-th reads, and what it does
  have hcell : ∀ (p q h : Nat) (wr : World) (y : QI), SrchAt b mp most s (.slice A n c) L (x0, x1) B p q w1 wr → L[h]? = some y →
      ∃ g, A = some ⟨g, 0, none⟩ ∧ g ≠ b ∧ g < w1.heap.size ∧ wr.cell? ⟨g, h * 2, none⟩ = some (.int .i64 y.1) ∧ wr.cell? ⟨g, h * 2 + 1, none⟩ = some (.int .i64 y.2) ∧ wr.cell? ⟨w.heap.size, 0, none⟩ = some (.int .i64 x0) ∧ wr.cell? ⟨w.heap.size, 1, none⟩ = some (.int .i64 x1) := by
    intro p q h wr y hS hy
    obtain ⟨k, e, hke, hpq, hsr, hqb, ht⟩ := hS
    obtain ⟨g, c', hv, hgw, _, c0, c1⟩ := HR.out.get hy
    injection hv with hv1
    subst hv1
    have hgb : g ≠ b := fun e => hne (by rw [e]; rfl)
    have hg1 : g < w1.heap.size := by have := HBL.out.size; omega
    have eg : wr.heap[g]? = w.heap[g]? := (ht.block g hg1 hgb).trans (HBL.out.block g hgw)
    have ex : wr.heap[w.heap.size]? = some (.cells #[.int .i64 x0, .int .i64 x1] 136 (0, 0)) := (ht.block _ (Array.getElem?_eq_some_iff.1 HX.out).1 (by omega)).trans HX.out
    refine ⟨g, rfl, hgb, hg1, ?_, ?_, ?_, ?_⟩
    · rw [← c0]; exact World.cell?_of_block (a := ⟨g, h * 2, none⟩) eg
    · rw [← c1]; exact World.cell?_of_block (a := ⟨g, h * 2 + 1, none⟩) eg
    · simp [World.cell?, ex]
    · simp [World.cell?, ex]
  have HC := Lib.hid hcell
  have hHw : w.heap.size < w1.heap.size := (Array.getElem?_eq_some_iff.1 hxb1).1
  clear hxb hxb1 hw1 h0 hcell ht1 hbel hq'
  go_loopw [9, 10] (fun vp vq wr => ∃ p q : Nat, vp = .int .i64 p ∧ vq = .int .i64 q ∧ p ≤ q ∧ q ≤ n ∧ Hid (SrchAt b mp most s (.slice A n c) L (x0, x1) B p q w1 wr)) (fun vp vq _ => (intOf vq - intOf vp).toNat)
  case atStart => exact ⟨0, n, rfl, rfl, Nat.zero_le _, Nat.le_refl _, H0⟩
  case round =>
    obtain ⟨p, q, rfl, rfl, hpq, hqn, HS⟩ := hrel
    by_cases hlt : p < q
    · obtain ⟨h, hh⟩ : ∃ h, h = (p + q) / 2 := ⟨_, rfl⟩
      have hh1 : p ≤ h := by omega
      have hh2 : h < q := by omega
      have eh : ((p : Int) + (q : Int)) / 2 = (h : Int) := by omega
      have hhn : h < n := by omega
      have hhl : h < L.length := by rw [HN.out]; exact hhn
      obtain ⟨y, hy⟩ : ∃ y, L[h]? = some y := ⟨_, List.getElem?_eq_getElem hhl⟩
      have HY := Lib.hid hy
      obtain ⟨g, rfl, hgb, hgw, c0, c1, c2, c3⟩ := HC.out p q h wr y HS.out hy
      obtain ⟨cc, hcc⟩ : ∃ cc, cmpQ y (x0, x1) = cc := ⟨_, rfl⟩
      have KC := Lib.hid (srch_cmp HS.out hs hs' hB' hgb (by omega) hgw hHw c0 c1 c2 c3)
      rw [hcc] at KC
      have HCC := Lib.hid (show decide (cc < 0) = befQ y (x0, x1) by rw [← hcc]; exact cmpQ_neg _ _)
      have HEH := Lib.hid hh
      obtain ⟨y0, y1⟩ := y
      clear hh hy hcc hhl HC
      simp only at c0 c1 KC
      go_upto_region 5 with (fail)
      go_cut [31] (fun v31 wx => v31 = .bool (decide (cc < 0)) ∧ Hid (AfterCmp b mp most s (.slice (some ⟨g, 0, none⟩) n c) w1 wr wx))
      case first =>
        go_region_held3 (fun w' => w'.cell? ⟨g, h * 2, none⟩ = some (.int .i64 y0) ∧ w'.cell? ⟨g, h * 2 + 1, none⟩ = some (.int .i64 y1) ∧ w'.cell? ⟨w.heap.size, 0, none⟩ = some (.int .i64 x0) ∧ w'.cell? ⟨w.heap.size, 1, none⟩ = some (.int .i64 x1)) (first | exact ⟨c0, c1, c2, c3⟩ | exact KS | go_keep)
          (first
            | (go_at_call 103; refine (KC.out).mono ?_; rintro e w' ⟨rfl, KS, hA⟩; have HA := Lib.hid hA; clear hA))
        all_goals
          go_wp2_with fail
          go_meet
          exact ⟨rfl, HA⟩
      case rest =>
        obtain ⟨rfl, HA⟩ := hcut
        clear KC c0 c1 c2 c3
        by_cases hneg : cc < 0
        · have HN2 : Hid (SrchAt b mp most s (.slice (some ⟨g, 0, none⟩) n c) L (x0, x1) B (h + 1) q w1 wc) := Lib.hid (HS.out.up HA.out HO.out HY.out (by rw [← HCC.out]; exact decide_eq_true hneg) HEH.out hlt)
          clear HS HA
          go_wp2_with fail
          go_roundw
          case rel => exact ⟨h + 1, q, by go_num, rfl, by omega, hqn, HN2⟩
          case measure => simp [intOf]; omega
        · have HN2 : Hid (SrchAt b mp most s (.slice (some ⟨g, 0, none⟩) n c) L (x0, x1) B p h w1 wc) := Lib.hid (HS.out.down HA.out HO.out HY.out (by rw [← HCC.out]; exact decide_eq_false hneg) HEH.out hlt)
          clear HS HA
          go_wp2_with fail
          go_roundw
          case rel => exact ⟨p, h, rfl, rfl, by omega, by omega, HN2⟩
          case measure => simp [intOf]; omega
    · obtain rfl : p = q := by omega
      have HP := Lib.hid (HS.out.finish (w0 := w) rfl)
      by_cases hpn : p < n
      · have hpl : p < L.length := by rw [HN.out]; exact hpn
        obtain ⟨y, hy⟩ : ∃ y, L[p]? = some y := ⟨_, List.getElem?_eq_getElem hpl⟩
        obtain ⟨g, rfl, hgb, hgw, c0, c1, c2, c3⟩ := HC.out p p p wr y HS.out hy
        obtain ⟨cc, hcc⟩ : ∃ cc, cmpQ y (x0, x1) = cc := ⟨_, rfl⟩
        have KC := Lib.hid (srch_cmp HS.out hs hs' hB' hgb (by omega) hgw hHw c0 c1 c2 c3)
        rw [hcc] at KC
        obtain ⟨y0, y1⟩ := y
        clear hcc hy hpl HC HS
        simp only at c0 c1 KC
        have hpd : decide ((p : Int) < (n : Int)) = true := decide_eq_true (by omega)
        go_wp2_with fail
        go_region_held3 (fun w' => w'.cell? ⟨g, p * 2, none⟩ = some (.int .i64 y0) ∧ w'.cell? ⟨g, p * 2 + 1, none⟩ = some (.int .i64 y1) ∧ w'.cell? ⟨w.heap.size, 0, none⟩ = some (.int .i64 x0) ∧ w'.cell? ⟨w.heap.size, 1, none⟩ = some (.int .i64 x1)) (first | exact ⟨c0, c1, c2, c3⟩ | exact KS | go_keep)
          (first
            | (go_at_call 103; refine (KC.out).mono ?_; rintro e w' ⟨rfl, KS, hA⟩; have HA := Lib.hid hA; clear hA))
        all_goals
          go_wp2_with fail
          go_ret2
          exact ⟨p, _, rfl, HP.out.1 HA.out HT1.out⟩
      · obtain rfl : p = n := by omega
        clear HC HS
        have hpd : decide ((p : Int) < (p : Int)) = false := decide_eq_false (by omega)
        go_wp2_with fail
        go_quiet (fail)
        go_wp2_with fail
        go_ret2
        exact ⟨p, _, rfl, HP.out.2 _ HT1.out⟩
end Go.Proofs.YtandmngfajoinaaGreat
