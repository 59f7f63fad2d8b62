/- The reference's queue: Form; a form in the reference's words. The law's own: a form in the reference's words. The reference's New; two of its forms that are the same. The reference's Pick of the second policy: Cur goes on until it is too far ahead. -/
import Derived.Test.YtnfcapeajhegmaaGreatMv
import Derived.Test.YtnfcapeajhegmaaGreatYc
import Derived.Test.YtnfcapeajhegmaaGreatOl
import Derived.Test.YtnfcapeajhegmaaGreatMu
namespace Go.Proofs.YtnfcapeajhegmaaGreat
open Go.RowKit

theorem info_fi : (Tryz.prog.info? 67).map (fun i => (i.zero, i.size, i.bytes)) = some (some (.agg #[.int .i64 0, .int .i64 0, .int .i64 0]), 3, 24) := by kernel_rfl
theorem encF_cells {w : World} {g : Nat} {t : TypeId} {x : RI} (h : w.heap[g]? = some (.cells #[.int .i64 x.1, .int .i64 x.2.1, .int .i64 x.2.2] t (0, 0))) : ∀ j u, (encR x)[j]? = some u → w.cell? ((⟨g, 0, none⟩ : Addr).add j) = some u := by
  intro j u hu
  have ha : (⟨g, 0, none⟩ : Addr).add j = ⟨g, j, none⟩ := by unfold Addr.add; split <;> simp_all
  rw [ha]
  simp [World.cell?, h]
  exact hu
theorem encF_one (x : RI) : ∀ u ∈ encR x, u.oneCell' = true := by
  intro u hu
  simp [encR] at hu
  rcases hu with rfl | rfl | rfl <;> rfl
theorem flatF_snoc (l : List RI) (x : RI) : flatR (l ++ [x]) = flatR l ++ encR x := by rw [flatR_append]; simp [flatR]
theorem cellB {w w' : World} {a : Addr} (h : w'.heap[a.block]? = w.heap[a.block]?) : w'.cell? a = w.cell? a := World.cell?_of_block (w := w) h
theorem take_snoc {l : List RI} {k : Nat} {x : RI} (h : l[k]? = some x) : l.take (k + 1) = l.take k ++ [x] := by rw [List.take_add_one, h]; rfl
theorem trow_own {w : World} {base : Nat} {e : TypeId} {v : Value} {l : List RI} (h : w.ownsRow base e 3 v l.length (flatR l)) : ∃ A c, v = .slice A l.length c ∧ TRow w A l := by
  rcases h.2 with ⟨h1, h2⟩ | ⟨g, cap, cur, h1, _⟩
  · have : l = [] := List.eq_nil_of_length_eq_zero h2
    subst this
    exact ⟨none, 0, h1, TRow.nil⟩
  · subst h1
    exact ⟨_, _, rfl, TRow.of_own h⟩

/-- A form of the reference's that is being made: the result's box, the form's, what it owns. -/
def AccAt (W : World) (B : Nat) (cur : Int) (v : Value) (xs : List RI) (wr : World) : Prop :=
  wr.heap[B + 1]? = some (.cells #[.int .i64 cur, v] 36 (0, 0)) ∧ wr.heap[B]? = some (.cells #[.int .i64 0, .slice none 0 0] 36 (0, 0)) ∧ wr.ownsRow (B + 2) 67 3 v xs.length (flatR xs) ∧ Below B W wr ∧ B + 2 ≤ wr.heap.size
theorem AccAt.next {W wr w5 : World} {B : Nat} {cur : Int} {v v' : Value} {xs : List RI} {y : RI} {o : Obj} (_hW : B ≤ W.heap.size) (h : AccAt W B cur v xs wr) (r1 : w5.ownsRow (B + 2) 67 3 v' (xs.length + 1) (flatR xs ++ encR y)) (r2 : ((wr.alloc o).drew).grownBy w5 v.ownBlock) :
    AccAt W B cur v' (xs ++ [y]) (w5.setCell ⟨B + 1, 1, none⟩ v') ∧ w5.cell? ⟨B + 1, 1, none⟩ = some v ∧ w5.frozen? ⟨B + 1, 1, none⟩ = false := by
  obtain ⟨h1, h2, h3, h4, h5⟩ := h
  have hv : ∀ g, v.ownBlock = some g → B + 2 ≤ g := fun g hg => (World.ownsRow.lt h3 g hg).1
  have hv' : ∀ g, v'.ownBlock = some g → B + 2 ≤ g := fun g hg => (World.ownsRow.lt r1 g hg).1
  have hsz : ((wr.alloc o).drew).heap.size = wr.heap.size + 1 := by show (wr.alloc o).heap.size = _; simp
  have hs5 : wr.heap.size + 1 ≤ w5.heap.size := by have := r2.size; omega
  have hk : ∀ k, k < B + 2 → w5.heap[k]? = wr.heap[k]? := fun k hlt => (r2.block k (by omega) (fun e => by have := hv k e.symm; omega)).trans (Below.heap_alloc wr o k (by omega))
  have e1 := (hk (B + 1) (by omega)).trans h1
  have hne : ∀ k, k ≠ B + 1 → (w5.setCell ⟨B + 1, 1, none⟩ v').heap[k]? = w5.heap[k]? := fun k hk => Below.heap_setCell w5 _ _ k hk
  have hss : (w5.setCell ⟨B + 1, 1, none⟩ v').heap.size = w5.heap.size := by simp [World.setCell]
  refine ⟨⟨set_heap e1 _, (hne B (by omega)).trans ((hk B (by omega)).trans h2), ?_, ⟨?_, ?_, ?_, by have := h4.size; omega, fun k hlt => (hne k (by omega)).trans ((hk k (by omega)).trans (h4.block k hlt))⟩, by omega⟩, by simp [World.cell?, e1], by simp [World.frozen?, e1]⟩
  · rw [List.length_append, List.length_singleton, flatF_snoc]
    exact own_keep r1 (fun g hg => hne g (by have := hv' g hg; omega))
  · exact r2.os.trans h4.os
  · exact r2.tape.trans h4.tape
  · exact r2.output.trans h4.output
/-- .. it is copied to the result's box. -/
theorem AccAt.done {W wr : World} {B : Nat} {cur : Int} {v : Value} {xs : List RI} (h : AccAt W B cur v xs wr) :
    ((wr.setCell ⟨B, 0, none⟩ (.int .i64 cur)).setCell ⟨B, 1, none⟩ v).heap[B]? = some (.cells #[.int .i64 cur, v] 36 (0, 0)) ∧ Below B W ((wr.setCell ⟨B, 0, none⟩ (.int .i64 cur)).setCell ⟨B, 1, none⟩ v) ∧ ((wr.setCell ⟨B, 0, none⟩ (.int .i64 cur)).setCell ⟨B, 1, none⟩ v).ownsRow (B + 2) 67 3 v xs.length (flatR xs) := by
  obtain ⟨h1, h2, h3, h4, h5⟩ := h
  have hv : ∀ g, v.ownBlock = some g → B + 2 ≤ g := fun g hg => (World.ownsRow.lt h3 g hg).1
  have hne : ∀ k, k ≠ B → ((wr.setCell ⟨B, 0, none⟩ (.int .i64 cur)).setCell ⟨B, 1, none⟩ v).heap[k]? = wr.heap[k]? := fun k hk => (Below.heap_setCell _ _ _ k hk).trans (Below.heap_setCell wr _ _ k hk)
  have hss : ((wr.setCell ⟨B, 0, none⟩ (.int .i64 cur)).setCell ⟨B, 1, none⟩ v).heap.size = wr.heap.size := by simp [World.setCell]
  refine ⟨set_heap (set_heap h2 _) _, ⟨h4.os, h4.tape, h4.output, by have := h4.size; omega, fun k hlt => (hne k (by omega)).trans (h4.block k hlt)⟩, own_keep h3 (fun g hg => hne g (by have := hv g hg; omega))⟩
theorem AccAt.cells {W wr : World} {B : Nat} {cur : Int} {v : Value} {xs : List RI} (h : AccAt W B cur v xs wr) : wr.cell? ⟨B + 1, 0, none⟩ = some (.int .i64 cur) ∧ wr.cell? ⟨B + 1, 1, none⟩ = some v ∧ wr.cell? ⟨B, 0, none⟩ = some (.int .i64 0) ∧ wr.cell? ⟨B, 1, none⟩ = some (.slice none 0 0) ∧ wr.frozen? ⟨B, 0, none⟩ = false ∧ wr.frozen? ⟨B, 1, none⟩ = false := by
  obtain ⟨h1, h2, _⟩ := h
  refine ⟨?_, ?_, ?_, ?_, ?_, ?_⟩ <;> simp [World.cell?, World.frozen?, h1, h2]
theorem AccAt.start {W : World} {B : Nat} (cur : Int) (hB : W.heap.size = B) : AccAt W B cur (.slice none 0 0) [] (((W.alloc (.cells #[.int .i64 0, .slice none 0 0] 36)).alloc (.cells #[.int .i64 cur, .slice none 0 0] 36))) := by
  subst hB
  exact ⟨heap_alloc2_new W _ _, heap_alloc2_old W _ _, World.ownsRow_nil _ _ _ _, ((Below.refl _ W).alloc (Nat.le_refl _) _).alloc (by simp) _, by simp⟩

def formT (base : Int) (l : List TI) : List RI := l.map (fun x => (x.1, x.2.1, base - x.2.2.1))
/-- A form comes back. -/
def FPost (cur : Int) (xs : List RI) (w : World) (e : Ending) (w' : World) : Prop := ∃ A c, e = .returned (.agg #[.int .i64 cur, .slice A xs.length c]) ∧ TRow w' A xs ∧ Below w.heap.size w w'
set_option linter.unusedSimpArgs false in
set_option maxRecDepth 100000 in
set_option maxHeartbeats 16000000 in
theorem rform_c (p : Nat) (tag base cur : Int) (v0 : Value) (l : List TI) (w : World) (h : IsT w p tag base cur v0 l) (hl : l.length ≤ 1000000) (hb1 : -4000000000000000000 ≤ base) (hb2 : base ≤ 4000000000000000000) (hv : ∀ x ∈ l, -4000000000000000000 ≤ x.2.2.1 ∧ x.2.2.1 ≤ 4000000000000000000) :
    Calls Tryz.prog 40 #[.pointer (some ⟨p, 0, none⟩)] w (FPost cur (formT base l) w) := by
  obtain ⟨n, hn⟩ : ∃ n, l.length = n := ⟨_, rfl⟩
  have HN := Lib.hid hn
  have HH := Lib.hid h
  have HV := Lib.hid hv
  have HS := Lib.hid (AccAt.start (W := w) cur rfl)
  have hpl := h.ltp
  obtain ⟨i0, hi, hz0, hz1, hz2⟩ := info_partsT info_fi
  obtain ⟨c0, c1, c2, c3⟩ := h.cells
  obtain ⟨A0, c, rfl⟩ := h.2.1.form
  rw [hn] at c3 hl
  clear h hv hn
  go_enter Tryz.func40, Tryz.ntmps40
  go_wp2_with fail
  go_loopw [4] (fun iv wr => ∃ (k : Nat) (v : Value), iv = .int .i64 k ∧ k ≤ n ∧ Hid (AccAt w w.heap.size cur v ((formT base l).take k) wr)) (fun iv _ => n - (intOf iv).toNat)
  case atStart => exact ⟨0, _, rfl, by omega, HS⟩
  case round =>
    clear HS c0 c1 c2 c3
    obtain ⟨k, v, rfl, hk, HA⟩ := hrel
    have hq := HH.out.below HA.out.2.2.2.1
    obtain ⟨c0, c1, c2, c3⟩ := hq.cells
    rw [HN.out] at c3
    obtain ⟨a0, a1, a2, a3, a4, a5⟩ := HA.out.cells
    by_cases hlt : k < n
    · obtain ⟨x, hx⟩ : ∃ x, l[k]? = some x := ⟨_, List.getElem?_eq_getElem (by rw [HN.out]; exact hlt)⟩
      obtain ⟨g, cc, hv, hgw, _, d0, d1, d2, -⟩ := hq.2.1.get hx
      rw [HN.out] at hv
      injection hv with hv1 hv2 hv3
      subst hv1 hv3
      have hvb := HV.out x (List.mem_of_getElem? hx)
      have hgn : g < w.heap.size := (World.ownsRow.lt HH.out.2.1 g rfl).2
      have hfx : (formT base l)[k]? = some (x.1, x.2.1, base - x.2.2.1) := by unfold formT; rw [List.getElem?_map, hx]; rfl
      have HT := Lib.hid (take_snoc hfx)
      have hlen : ((formT base l).take k).length = k := by
        rw [List.length_take]
        unfold formT
        rw [List.length_map, HN.out]
        omega
      have HLEN := Lib.hid hlen
      obtain ⟨x0, x1, xv, x3⟩ := x
      simp only at d0 d1 d2 hvb HT
      obtain ⟨hv1, hv2⟩ := hvb
      have hw1 : IntKind.i64.wrap (base - xv) = base - xv := by rw [IntKind.wrap_i64]; omega
      generalize (formT base l).take k = xs at *
      have hkm : (k : Int) < (n : Int) := by omega
      have hk0 : (0 : Int) ≤ (k : Int) := by omega
      clear hx hv2 hq hfx hlen
      have hsz := HA.out.2.2.2.2
      have hbs := HA.out.2.2.2.1.size
      have KEEP : Hid (∀ w2 : World, (∀ j, j < w.heap.size + 2 → w2.heap[j]? = wr.heap[j]?) → (fun w' => w'.cell? ⟨w.heap.size + 1, 1, none⟩ = some v ∧ w'.cell? ⟨p, 1, none⟩ = some (.int .i64 base) ∧ w'.cell? ⟨p, 3, none⟩ = some (.slice (some ⟨g, 0, none⟩) n c) ∧ w'.cell? ⟨g, k * 4, none⟩ = some (.int .i64 x0) ∧ w'.cell? ⟨g, k * 4 + 1, none⟩ = some (.int .i64 x1) ∧ w'.cell? ⟨g, k * 4 + 2, none⟩ = some (.int .i64 xv)) w2) := Lib.hid (fun w2 hs => ⟨(cellB (a := ⟨w.heap.size + 1, 1, none⟩) (hs _ (by show w.heap.size + 1 < _; omega))).trans a1, (cellB (a := ⟨p, 1, none⟩) (hs _ (by show p < _; omega))).trans c1, (cellB (a := ⟨p, 3, none⟩) (hs _ (by show p < _; omega))).trans c3, (cellB (a := ⟨g, k * 4, none⟩) (hs _ (by show g < _; omega))).trans d0, (cellB (a := ⟨g, k * 4 + 1, none⟩) (hs _ (by show g < _; omega))).trans d1, (cellB (a := ⟨g, k * 4 + 2, none⟩) (hs _ (by show g < _; omega))).trans d2⟩)
      have S0 := Lib.hid (KEEP.out wr.drew (fun _ _ => rfl))
      clear a0 a2 a3 a4 a5
      go_wp2_with fail
      refine wp_region_phase 34 (by kernel_rfl) (by kernel_rfl) (fun w' => w'.cell? ⟨w.heap.size + 1, 1, none⟩ = some v ∧ w'.cell? ⟨p, 1, none⟩ = some (.int .i64 base) ∧ w'.cell? ⟨p, 3, none⟩ = some (.slice (some ⟨g, 0, none⟩) n c) ∧ w'.cell? ⟨g, k * 4, none⟩ = some (.int .i64 x0) ∧ w'.cell? ⟨g, k * 4 + 1, none⟩ = some (.int .i64 x1) ∧ w'.cell? ⟨g, k * 4 + 2, none⟩ = some (.int .i64 xv)) ?_
      refine wpAnyH_take (i := 0) (v := .pointer (some ⟨w.heap.size + 1, 1, none⟩)) rfl (by kernel_rfl) (by kernel_rfl) (by kernel_rfl) (fun _ _ _ h => h) (Or.inl ⟨by rfl, ?_⟩) S0.out ?_
      · rintro w' ⟨s1, s2, s3, s4, s5, s6⟩; go_simp
      simp only [Act.put, List.setIfInBounds_toArray, List.set_cons_zero, List.set_cons_succ]
      refine wpAnyH_take (i := 1) (v := v) rfl (by kernel_rfl) (by kernel_rfl) (by kernel_rfl) (fun _ _ _ h => h) (Or.inl ⟨by rfl, ?_⟩) S0.out ?_
      · rintro w' ⟨s1, s2, s3, s4, s5, s6⟩; go_simp
      simp only [Act.put, List.setIfInBounds_toArray, List.set_cons_zero, List.set_cons_succ]
      refine wpAnyH_take (i := 2) (v := .pointer (some ⟨p, 0, none⟩)) rfl (by kernel_rfl) (by kernel_rfl) (by kernel_rfl) (fun _ _ _ h => h) (Or.inl ⟨by rfl, ?_⟩) S0.out ?_
      · rintro w' ⟨s1, s2, s3, s4, s5, s6⟩; go_simp
      simp only [Act.put, List.setIfInBounds_toArray, List.set_cons_zero, List.set_cons_succ]
      refine wpAnyH_take (i := 3) (v := .pointer (some ⟨p, 0, none⟩)) rfl (by kernel_rfl) (by kernel_rfl) (by kernel_rfl) (fun _ _ _ h => h) (Or.inl ⟨by rfl, ?_⟩) S0.out ?_
      · rintro w' ⟨s1, s2, s3, s4, s5, s6⟩; go_simp
      simp only [Act.put, List.setIfInBounds_toArray, List.set_cons_zero, List.set_cons_succ]
      refine wpAnyH_take (i := 4) (v := .pointer (some ⟨p, 3, none⟩)) rfl (by kernel_rfl) (by kernel_rfl) (by kernel_rfl) (fun _ _ _ h => h) (Or.inl ⟨by rfl, ?_⟩) S0.out ?_
      · rintro w' ⟨s1, s2, s3, s4, s5, s6⟩; go_simp
      simp only [Act.put, List.setIfInBounds_toArray, List.set_cons_zero, List.set_cons_succ]
      refine wpAnyH_take (i := 5) (v := .slice (some ⟨g, 0, none⟩) n c) rfl (by kernel_rfl) (by kernel_rfl) (by kernel_rfl) (fun _ _ _ h => h) (Or.inl ⟨by rfl, ?_⟩) S0.out ?_
      · rintro w' ⟨s1, s2, s3, s4, s5, s6⟩; go_simp
      simp only [Act.put, List.setIfInBounds_toArray, List.set_cons_zero, List.set_cons_succ]
      refine wpAnyH_take (i := 6) (v := .int .i64 k) rfl (by kernel_rfl) (by kernel_rfl) (by kernel_rfl) (fun _ _ _ h => h) (Or.inl ⟨by rfl, ?_⟩) S0.out ?_
      · rintro w' ⟨s1, s2, s3, s4, s5, s6⟩; go_simp
      simp only [Act.put, List.setIfInBounds_toArray, List.set_cons_zero, List.set_cons_succ]
      refine wpAnyH_take (i := 7) (v := .pointer (some ⟨g, k * 4, none⟩)) rfl (by kernel_rfl) (by kernel_rfl) (by kernel_rfl) (fun _ _ _ h => h) (Or.inl ⟨by rfl, ?_⟩) S0.out ?_
      · rintro w' ⟨s1, s2, s3, s4, s5, s6⟩; go_simp
      simp only [Act.put, List.setIfInBounds_toArray, List.set_cons_zero, List.set_cons_succ]
      refine wpAnyH_take (i := 8) (v := .pointer (some ⟨g, k * 4, none⟩)) rfl (by kernel_rfl) (by kernel_rfl) (by kernel_rfl) (fun _ _ _ h => h) (Or.inl ⟨by rfl, ?_⟩) S0.out ?_
      · rintro w' ⟨s1, s2, s3, s4, s5, s6⟩; go_simp
      simp only [Act.put, List.setIfInBounds_toArray, List.set_cons_zero, List.set_cons_succ]
      refine wpAnyH_take (i := 9) (v := .int .i64 x0) rfl (by kernel_rfl) (by kernel_rfl) (by kernel_rfl) (fun _ _ _ h => h) (Or.inl ⟨by rfl, ?_⟩) S0.out ?_
      · rintro w' ⟨s1, s2, s3, s4, s5, s6⟩; go_simp
      simp only [Act.put, List.setIfInBounds_toArray, List.set_cons_zero, List.set_cons_succ]
      refine wpAnyH_take (i := 10) (v := .pointer (some ⟨p, 0, none⟩)) rfl (by kernel_rfl) (by kernel_rfl) (by kernel_rfl) (fun _ _ _ h => h) (Or.inl ⟨by rfl, ?_⟩) S0.out ?_
      · rintro w' ⟨s1, s2, s3, s4, s5, s6⟩; go_simp
      simp only [Act.put, List.setIfInBounds_toArray, List.set_cons_zero, List.set_cons_succ]
      refine wpAnyH_take (i := 11) (v := .pointer (some ⟨p, 0, none⟩)) rfl (by kernel_rfl) (by kernel_rfl) (by kernel_rfl) (fun _ _ _ h => h) (Or.inl ⟨by rfl, ?_⟩) S0.out ?_
      · rintro w' ⟨s1, s2, s3, s4, s5, s6⟩; go_simp
      simp only [Act.put, List.setIfInBounds_toArray, List.set_cons_zero, List.set_cons_succ]
      refine wpAnyH_take (i := 12) (v := .pointer (some ⟨p, 3, none⟩)) rfl (by kernel_rfl) (by kernel_rfl) (by kernel_rfl) (fun _ _ _ h => h) (Or.inl ⟨by rfl, ?_⟩) S0.out ?_
      · rintro w' ⟨s1, s2, s3, s4, s5, s6⟩; go_simp
      simp only [Act.put, List.setIfInBounds_toArray, List.set_cons_zero, List.set_cons_succ]
      refine wpAnyH_take (i := 13) (v := .slice (some ⟨g, 0, none⟩) n c) rfl (by kernel_rfl) (by kernel_rfl) (by kernel_rfl) (fun _ _ _ h => h) (Or.inl ⟨by rfl, ?_⟩) S0.out ?_
      · rintro w' ⟨s1, s2, s3, s4, s5, s6⟩; go_simp
      simp only [Act.put, List.setIfInBounds_toArray, List.set_cons_zero, List.set_cons_succ]
      refine wpAnyH_take (i := 14) (v := .int .i64 k) rfl (by kernel_rfl) (by kernel_rfl) (by kernel_rfl) (fun _ _ _ h => h) (Or.inl ⟨by rfl, ?_⟩) S0.out ?_
      · rintro w' ⟨s1, s2, s3, s4, s5, s6⟩; go_simp
      simp only [Act.put, List.setIfInBounds_toArray, List.set_cons_zero, List.set_cons_succ]
      refine wpAnyH_take (i := 15) (v := .pointer (some ⟨g, k * 4, none⟩)) rfl (by kernel_rfl) (by kernel_rfl) (by kernel_rfl) (fun _ _ _ h => h) (Or.inl ⟨by rfl, ?_⟩) S0.out ?_
      · rintro w' ⟨s1, s2, s3, s4, s5, s6⟩; go_simp
      simp only [Act.put, List.setIfInBounds_toArray, List.set_cons_zero, List.set_cons_succ]
      refine wpAnyH_take (i := 16) (v := .pointer (some ⟨g, k * 4 + 1, none⟩)) rfl (by kernel_rfl) (by kernel_rfl) (by kernel_rfl) (fun _ _ _ h => h) (Or.inl ⟨by rfl, ?_⟩) S0.out ?_
      · rintro w' ⟨s1, s2, s3, s4, s5, s6⟩; go_simp
      simp only [Act.put, List.setIfInBounds_toArray, List.set_cons_zero, List.set_cons_succ]
      refine wpAnyH_take (i := 17) (v := .int .i64 x1) rfl (by kernel_rfl) (by kernel_rfl) (by kernel_rfl) (fun _ _ _ h => h) (Or.inl ⟨by rfl, ?_⟩) S0.out ?_
      · rintro w' ⟨s1, s2, s3, s4, s5, s6⟩; go_simp
      simp only [Act.put, List.setIfInBounds_toArray, List.set_cons_zero, List.set_cons_succ]
      refine wpAnyH_take (i := 18) (v := .pointer (some ⟨p, 0, none⟩)) rfl (by kernel_rfl) (by kernel_rfl) (by kernel_rfl) (fun _ _ _ h => h) (Or.inl ⟨by rfl, ?_⟩) S0.out ?_
      · rintro w' ⟨s1, s2, s3, s4, s5, s6⟩; go_simp
      simp only [Act.put, List.setIfInBounds_toArray, List.set_cons_zero, List.set_cons_succ]
      refine wpAnyH_take (i := 19) (v := .pointer (some ⟨p, 0, none⟩)) rfl (by kernel_rfl) (by kernel_rfl) (by kernel_rfl) (fun _ _ _ h => h) (Or.inl ⟨by rfl, ?_⟩) S0.out ?_
      · rintro w' ⟨s1, s2, s3, s4, s5, s6⟩; go_simp
      simp only [Act.put, List.setIfInBounds_toArray, List.set_cons_zero, List.set_cons_succ]
      refine wpAnyH_take (i := 20) (v := .pointer (some ⟨p, 1, none⟩)) rfl (by kernel_rfl) (by kernel_rfl) (by kernel_rfl) (fun _ _ _ h => h) (Or.inl ⟨by rfl, ?_⟩) S0.out ?_
      · rintro w' ⟨s1, s2, s3, s4, s5, s6⟩; go_simp
      simp only [Act.put, List.setIfInBounds_toArray, List.set_cons_zero, List.set_cons_succ]
      refine wpAnyH_take (i := 21) (v := .int .i64 base) rfl (by kernel_rfl) (by kernel_rfl) (by kernel_rfl) (fun _ _ _ h => h) (Or.inl ⟨by rfl, ?_⟩) S0.out ?_
      · rintro w' ⟨s1, s2, s3, s4, s5, s6⟩; go_simp
      simp only [Act.put, List.setIfInBounds_toArray, List.set_cons_zero, List.set_cons_succ]
      refine wpAnyH_take (i := 22) (v := .pointer (some ⟨p, 0, none⟩)) rfl (by kernel_rfl) (by kernel_rfl) (by kernel_rfl) (fun _ _ _ h => h) (Or.inl ⟨by rfl, ?_⟩) S0.out ?_
      · rintro w' ⟨s1, s2, s3, s4, s5, s6⟩; go_simp
      simp only [Act.put, List.setIfInBounds_toArray, List.set_cons_zero, List.set_cons_succ]
      refine wpAnyH_take (i := 23) (v := .pointer (some ⟨p, 0, none⟩)) rfl (by kernel_rfl) (by kernel_rfl) (by kernel_rfl) (fun _ _ _ h => h) (Or.inl ⟨by rfl, ?_⟩) S0.out ?_
      · rintro w' ⟨s1, s2, s3, s4, s5, s6⟩; go_simp
      simp only [Act.put, List.setIfInBounds_toArray, List.set_cons_zero, List.set_cons_succ]
      refine wpAnyH_take (i := 24) (v := .pointer (some ⟨p, 3, none⟩)) rfl (by kernel_rfl) (by kernel_rfl) (by kernel_rfl) (fun _ _ _ h => h) (Or.inl ⟨by rfl, ?_⟩) S0.out ?_
      · rintro w' ⟨s1, s2, s3, s4, s5, s6⟩; go_simp
      simp only [Act.put, List.setIfInBounds_toArray, List.set_cons_zero, List.set_cons_succ]
      refine wpAnyH_take (i := 25) (v := .slice (some ⟨g, 0, none⟩) n c) rfl (by kernel_rfl) (by kernel_rfl) (by kernel_rfl) (fun _ _ _ h => h) (Or.inl ⟨by rfl, ?_⟩) S0.out ?_
      · rintro w' ⟨s1, s2, s3, s4, s5, s6⟩; go_simp
      simp only [Act.put, List.setIfInBounds_toArray, List.set_cons_zero, List.set_cons_succ]
      refine wpAnyH_take (i := 26) (v := .int .i64 k) rfl (by kernel_rfl) (by kernel_rfl) (by kernel_rfl) (fun _ _ _ h => h) (Or.inl ⟨by rfl, ?_⟩) S0.out ?_
      · rintro w' ⟨s1, s2, s3, s4, s5, s6⟩; go_simp
      simp only [Act.put, List.setIfInBounds_toArray, List.set_cons_zero, List.set_cons_succ]
      refine wpAnyH_take (i := 27) (v := .pointer (some ⟨g, k * 4, none⟩)) rfl (by kernel_rfl) (by kernel_rfl) (by kernel_rfl) (fun _ _ _ h => h) (Or.inl ⟨by rfl, ?_⟩) S0.out ?_
      · rintro w' ⟨s1, s2, s3, s4, s5, s6⟩; go_simp
      simp only [Act.put, List.setIfInBounds_toArray, List.set_cons_zero, List.set_cons_succ]
      refine wpAnyH_take (i := 28) (v := .pointer (some ⟨g, k * 4 + 2, none⟩)) rfl (by kernel_rfl) (by kernel_rfl) (by kernel_rfl) (fun _ _ _ h => h) (Or.inl ⟨by rfl, ?_⟩) S0.out ?_
      · rintro w' ⟨s1, s2, s3, s4, s5, s6⟩; go_simp
      simp only [Act.put, List.setIfInBounds_toArray, List.set_cons_zero, List.set_cons_succ]
      refine wpAnyH_take (i := 29) (v := .int .i64 xv) rfl (by kernel_rfl) (by kernel_rfl) (by kernel_rfl) (fun _ _ _ h => h) (Or.inl ⟨by rfl, ?_⟩) S0.out ?_
      · rintro w' ⟨s1, s2, s3, s4, s5, s6⟩; go_simp
      simp only [Act.put, List.setIfInBounds_toArray, List.set_cons_zero, List.set_cons_succ]
      refine wpAnyH_take (i := 30) (v := .int .i64 (base - xv)) rfl (by kernel_rfl) (by kernel_rfl) (by kernel_rfl) (fun _ _ _ h => h) (Or.inl ⟨by rfl, ?_⟩) S0.out ?_
      · rintro w' ⟨s1, s2, s3, s4, s5, s6⟩; go_simp
      simp only [Act.put, List.setIfInBounds_toArray, List.set_cons_zero, List.set_cons_succ]
      refine wpAnyH_take (i := 31) (v := .agg #[.int .i64 x0, .int .i64 x1, .int .i64 (base - xv)]) rfl (by kernel_rfl) (by kernel_rfl) (by kernel_rfl) (fun _ _ _ h => h) (Or.inl ⟨by rfl, ?_⟩) S0.out ?_
      · rintro w' ⟨s1, s2, s3, s4, s5, s6⟩; go_simp
      simp only [Act.put, List.setIfInBounds_toArray, List.set_cons_zero, List.set_cons_succ]
      refine wpAnyH_ready (rs := [32]) (by kernel_rfl) (by simp) ?_
      refine AllReadyH.cons rfl (fun K hK => ?_) AllReadyH.nil
      go_simp
      have hsa : (wr.alloc (.cells #[.int .i64 x0, .int .i64 x1, .int .i64 (base - xv)] 67)).drew.heap.size = wr.heap.size + 1 := by show (wr.alloc _).heap.size = _; simp
      refine hK.out _ _ (KEEP.out _ (fun j hj => Below.heap_alloc wr _ j (by omega))) (fun _ => ?_)
      clear hK
      refine wpAnyH_ready (rs := [33]) (by kernel_rfl) (by simp) ?_
      refine AllReadyH.cons rfl (fun K hK => ?_) AllReadyH.nil
      obtain ⟨v', w5, hrun, r1, r2, r3⟩ := run_append_where (P := Tryz.prog) (wr.alloc (.cells #[.int .i64 x0, .int .i64 x1, .int .i64 (base - xv)] 67)).drew (w.heap.size + 2) 34 34 67 i0 (.agg #[.int .i64 0, .int .i64 0, .int .i64 0]) 3 24 Tryz.underlying34 hi hz0 hz1 hz2 rfl (by decide) v _ _ ((HA.out.2.2.1).alloc _) ⟨wr.heap.size, 0, none⟩ 1 1 (encR (x0, x1, base - xv)) rfl (encF_cells (World.alloc_heap_new wr _)) (encF_one _) (by have := HLEN.out; unfold maxLen; omega) (by have := HLEN.out; omega) (by omega)
      obtain ⟨A2, m2, rfl⟩ := row_form r1
      obtain ⟨hn1, hn2, hn3⟩ := HA.out.next (by omega) r1 r2
      have hvB : ∀ g, v.ownBlock = some g → w.heap.size + 2 ≤ g := fun g hg => (World.ownsRow.lt HA.out.2.2.1 g hg).1
      refine step_appN rfl _ _ _ _ rfl hrun rfl rfl ?_
      refine hK.out _ _ (KEEP.out _ (fun j hj => (r2.block j (by omega) (fun e => by have := hvB j e.symm; omega)).trans (Below.heap_alloc wr _ j (by omega)))) (fun _ => ?_)
      rw [← HT.out] at hn1
      have HNX := Lib.hid hn1
      clear hK hrun r1 r2 r3 hn1 hvB
      refine wpAnyH_done (by kernel_rfl) ?_ _
      refine phase_tail (by kernel_rfl) ?_
      simp only [List.drop_succ_cons, List.drop_zero]
      go_wp2_with fail
      go_roundw
      case rel => exact ⟨k + 1, _, by go_num, by omega, HNX⟩
      case measure => simp [intOf]; omega
    · obtain rfl : k = n := by omega
      have hall : (formT base l).take k = formT base l := List.take_of_length_le (by unfold formT; rw [List.length_map, HN.out]; omega)
      have ha := HA.out
      rw [hall] at ha
      obtain ⟨q1, q2, q3⟩ := ha.done
      obtain ⟨A2, m2, hv2, hT⟩ := trow_own q3
      subst hv2
      have Q1 := Lib.hid q1
      have Q2 := Lib.hid q2
      have QT := Lib.hid hT
      clear ha hall q1 q2 q3 hT
      go_wp2_with fail
      refine bodyPost_ret (res_box1 rfl _ w.heap.size _ _ rfl Q1.out Tryz.underlying36 rfl (by kernel_rfl)) rfl ?_
      exact ⟨A2, m2, rfl, QT.out, Q2.out⟩
end Go.Proofs.YtnfcapeajhegmaaGreat

namespace Go.Proofs.YtnfcapeajhegmaaGreat
open Go.RowKit

set_option linter.unusedSimpArgs false in
set_option maxRecDepth 100000 in
set_option maxHeartbeats 16000000 in
theorem own_c (f0 : Int) (A : Option Addr) (n c : Nat) (l : List RI) (w : World) (hn : l.length = n) (hl : n ≤ 1000000) (hr : TRow w A l) :
    Calls Tryz.prog 15 #[.agg #[.int .i64 f0, .slice A n c]] w (FPost f0 l w) := by
  have HN := Lib.hid hn
  have HR := Lib.hid hr
  have HB := Lib.hid ((Below.refl _ w).alloc (Nat.le_refl _) (.cells #[.int .i64 f0, .slice A n c] 24))
  have hX : (w.alloc (.cells #[.int .i64 f0, .slice A n c] 24)).heap[w.heap.size]? = some (.cells #[.int .i64 f0, .slice A n c] 24 (0, 0)) := World.alloc_heap_new w _
  have HX := Lib.hid hX
  have hsW : (w.alloc (.cells #[.int .i64 f0, .slice A n c] 24)).heap.size = w.heap.size + 1 := by simp
  have HSW := Lib.hid hsW
  have HS := Lib.hid (AccAt.start (W := w.alloc (.cells #[.int .i64 f0, .slice A n c] 24)) f0 hsW)
  obtain ⟨i0, hi, hz0, hz1, hz2⟩ := info_partsT info_fi
  clear hr hn hX hsW
  go_enter Tryz.func15, Tryz.ntmps15
  go_wp2_with fail
  go_loopw [4] (fun iv wr => ∃ (k : Nat) (v : Value), iv = .int .i64 k ∧ k ≤ n ∧ Hid (AccAt (w.alloc (.cells #[.int .i64 f0, .slice A n c] 24)) (w.heap.size + 1) f0 v (l.take k) wr)) (fun iv _ => n - (intOf iv).toNat)
  case atStart => exact ⟨0, _, rfl, by omega, HS⟩
  case round =>
    clear HS
    obtain ⟨k, v, rfl, hk, HA⟩ := hrel
    have hbw : Below w.heap.size w wr := HB.out.trans (HA.out.2.2.2.1.mono (by omega))
    obtain ⟨a0, a1, a2, a3, a4, a5⟩ := HA.out.cells
    have hbx : wr.heap[w.heap.size]? = some (.cells #[.int .i64 f0, .slice A n c] 24 (0, 0)) := (HA.out.2.2.2.1.block _ (by omega)).trans HX.out
    have b1 : wr.cell? ⟨w.heap.size, 1, none⟩ = some (.slice A n c) := by simp [World.cell?, hbx]
    by_cases hlt : k < n
    · obtain ⟨x, hx⟩ : ∃ x, l[k]? = some x := ⟨_, List.getElem?_eq_getElem (by rw [HN.out]; exact hlt)⟩
      obtain ⟨ad, rfl, d0, d1, d2⟩ := (HR.out.below hbw (Nat.le_refl _)).at hx
      have hadl : (ad.add (k * 3)).block < w.heap.size := by
        obtain ⟨ad', he, e0, -, -⟩ := HR.out.at hx
        obtain rfl := Option.some.inj he
        exact cell_lt0 e0
      have HT := Lib.hid (take_snoc hx)
      have hlen : (l.take k).length = k := by rw [List.length_take, HN.out]; omega
      have HLEN := Lib.hid hlen
      obtain ⟨x0, x1, xv⟩ := x
      simp only at d0 d1 d2 HT
      generalize l.take k = xs at *
      have hkm : (k : Int) < (n : Int) := by omega
      have hk0 : (0 : Int) ≤ (k : Int) := by omega
      clear hx hlen hbx
      have hsz := HA.out.2.2.2.2
      have hbs := HA.out.2.2.2.1.size
      have KEEP : Hid (∀ w2 : World, (∀ j, j < (w.heap.size + 1) + 2 → w2.heap[j]? = wr.heap[j]?) → (fun w' => w'.cell? ⟨w.heap.size + 2, 1, none⟩ = some v ∧ w'.cell? ⟨w.heap.size, 1, none⟩ = some (.slice (some ad) n c) ∧ w'.cell? (ad.add (k * 3)) = some (.int .i64 x0) ∧ w'.cell? ⟨(ad.add (k * 3)).block, (ad.add (k * 3)).off + 1, none⟩ = some (.int .i64 x1) ∧ w'.cell? ⟨(ad.add (k * 3)).block, (ad.add (k * 3)).off + 2, none⟩ = some (.int .i64 xv)) w2) := Lib.hid (fun w2 hs => ⟨(cellB (a := ⟨w.heap.size + 2, 1, none⟩) (hs _ (by show w.heap.size + 2 < _; omega))).trans a1, (cellB (a := ⟨w.heap.size, 1, none⟩) (hs _ (by show w.heap.size < _; omega))).trans b1, (cellB (hs _ (by omega))).trans d0, (cellB (a := ⟨(ad.add (k * 3)).block, (ad.add (k * 3)).off + 1, none⟩) (hs _ (by show (ad.add (k * 3)).block < _; omega))).trans d1, (cellB (a := ⟨(ad.add (k * 3)).block, (ad.add (k * 3)).off + 2, none⟩) (hs _ (by show (ad.add (k * 3)).block < _; omega))).trans d2⟩)
      have S0 := Lib.hid (KEEP.out wr.drew (fun _ _ => rfl))
      clear a0 a2 a3 a4 a5 hbw
      go_wp2_with fail
      refine wp_region_phase 23 (by kernel_rfl) (by kernel_rfl) (fun w' => w'.cell? ⟨w.heap.size + 2, 1, none⟩ = some v ∧ w'.cell? ⟨w.heap.size, 1, none⟩ = some (.slice (some ad) n c) ∧ w'.cell? (ad.add (k * 3)) = some (.int .i64 x0) ∧ w'.cell? ⟨(ad.add (k * 3)).block, (ad.add (k * 3)).off + 1, none⟩ = some (.int .i64 x1) ∧ w'.cell? ⟨(ad.add (k * 3)).block, (ad.add (k * 3)).off + 2, none⟩ = some (.int .i64 xv)) ?_
      refine wpAnyH_take (i := 0) (v := .pointer (some ⟨w.heap.size + 2, 1, none⟩)) rfl (by kernel_rfl) (by kernel_rfl) (by kernel_rfl) (fun _ _ _ h => h) (Or.inl ⟨by rfl, ?_⟩) S0.out ?_
      · rintro w' ⟨s1, s2, s3, s4, s5⟩; go_simp
      simp only [Act.put, List.setIfInBounds_toArray, List.set_cons_zero, List.set_cons_succ]
      refine wpAnyH_take (i := 1) (v := v) rfl (by kernel_rfl) (by kernel_rfl) (by kernel_rfl) (fun _ _ _ h => h) (Or.inl ⟨by rfl, ?_⟩) S0.out ?_
      · rintro w' ⟨s1, s2, s3, s4, s5⟩; go_simp
      simp only [Act.put, List.setIfInBounds_toArray, List.set_cons_zero, List.set_cons_succ]
      refine wpAnyH_take (i := 2) (v := .pointer (some ⟨w.heap.size, 1, none⟩)) rfl (by kernel_rfl) (by kernel_rfl) (by kernel_rfl) (fun _ _ _ h => h) (Or.inl ⟨by rfl, ?_⟩) S0.out ?_
      · rintro w' ⟨s1, s2, s3, s4, s5⟩; go_simp
      simp only [Act.put, List.setIfInBounds_toArray, List.set_cons_zero, List.set_cons_succ]
      refine wpAnyH_take (i := 3) (v := .slice (some ad) n c) rfl (by kernel_rfl) (by kernel_rfl) (by kernel_rfl) (fun _ _ _ h => h) (Or.inl ⟨by rfl, ?_⟩) S0.out ?_
      · rintro w' ⟨s1, s2, s3, s4, s5⟩; go_simp
      simp only [Act.put, List.setIfInBounds_toArray, List.set_cons_zero, List.set_cons_succ]
      refine wpAnyH_take (i := 4) (v := .int .i64 k) rfl (by kernel_rfl) (by kernel_rfl) (by kernel_rfl) (fun _ _ _ h => h) (Or.inl ⟨by rfl, ?_⟩) S0.out ?_
      · rintro w' ⟨s1, s2, s3, s4, s5⟩; go_simp
      simp only [Act.put, List.setIfInBounds_toArray, List.set_cons_zero, List.set_cons_succ]
      refine wpAnyH_take (i := 5) (v := .pointer (some (ad.add (k * 3)))) rfl (by kernel_rfl) (by kernel_rfl) (by kernel_rfl) (fun _ _ _ h => h) (Or.inl ⟨by rfl, ?_⟩) S0.out ?_
      · rintro w' ⟨s1, s2, s3, s4, s5⟩; go_simp
      simp only [Act.put, List.setIfInBounds_toArray, List.set_cons_zero, List.set_cons_succ]
      refine wpAnyH_take (i := 6) (v := .pointer (some (ad.add (k * 3)))) rfl (by kernel_rfl) (by kernel_rfl) (by kernel_rfl) (fun _ _ _ h => h) (Or.inl ⟨by rfl, ?_⟩) S0.out ?_
      · rintro w' ⟨s1, s2, s3, s4, s5⟩; go_simp
      simp only [Act.put, List.setIfInBounds_toArray, List.set_cons_zero, List.set_cons_succ]
      refine wpAnyH_take (i := 7) (v := .int .i64 x0) rfl (by kernel_rfl) (by kernel_rfl) (by kernel_rfl) (fun _ _ _ h => h) (Or.inl ⟨by rfl, ?_⟩) S0.out ?_
      · rintro w' ⟨s1, s2, s3, s4, s5⟩; go_simp
      simp only [Act.put, List.setIfInBounds_toArray, List.set_cons_zero, List.set_cons_succ]
      refine wpAnyH_take (i := 8) (v := .pointer (some ⟨w.heap.size, 1, none⟩)) rfl (by kernel_rfl) (by kernel_rfl) (by kernel_rfl) (fun _ _ _ h => h) (Or.inl ⟨by rfl, ?_⟩) S0.out ?_
      · rintro w' ⟨s1, s2, s3, s4, s5⟩; go_simp
      simp only [Act.put, List.setIfInBounds_toArray, List.set_cons_zero, List.set_cons_succ]
      refine wpAnyH_take (i := 9) (v := .slice (some ad) n c) rfl (by kernel_rfl) (by kernel_rfl) (by kernel_rfl) (fun _ _ _ h => h) (Or.inl ⟨by rfl, ?_⟩) S0.out ?_
      · rintro w' ⟨s1, s2, s3, s4, s5⟩; go_simp
      simp only [Act.put, List.setIfInBounds_toArray, List.set_cons_zero, List.set_cons_succ]
      refine wpAnyH_take (i := 10) (v := .int .i64 k) rfl (by kernel_rfl) (by kernel_rfl) (by kernel_rfl) (fun _ _ _ h => h) (Or.inl ⟨by rfl, ?_⟩) S0.out ?_
      · rintro w' ⟨s1, s2, s3, s4, s5⟩; go_simp
      simp only [Act.put, List.setIfInBounds_toArray, List.set_cons_zero, List.set_cons_succ]
      refine wpAnyH_take (i := 11) (v := .pointer (some (ad.add (k * 3)))) rfl (by kernel_rfl) (by kernel_rfl) (by kernel_rfl) (fun _ _ _ h => h) (Or.inl ⟨by rfl, ?_⟩) S0.out ?_
      · rintro w' ⟨s1, s2, s3, s4, s5⟩; go_simp
      simp only [Act.put, List.setIfInBounds_toArray, List.set_cons_zero, List.set_cons_succ]
      refine wpAnyH_take (i := 12) (v := .pointer (some ⟨(ad.add (k * 3)).block, (ad.add (k * 3)).off + 1, none⟩)) rfl (by kernel_rfl) (by kernel_rfl) (by kernel_rfl) (fun _ _ _ h => h) (Or.inl ⟨by rfl, ?_⟩) S0.out ?_
      · rintro w' ⟨s1, s2, s3, s4, s5⟩; go_simp
      simp only [Act.put, List.setIfInBounds_toArray, List.set_cons_zero, List.set_cons_succ]
      refine wpAnyH_take (i := 13) (v := .int .i64 x1) rfl (by kernel_rfl) (by kernel_rfl) (by kernel_rfl) (fun _ _ _ h => h) (Or.inl ⟨by rfl, ?_⟩) S0.out ?_
      · rintro w' ⟨s1, s2, s3, s4, s5⟩; go_simp
      simp only [Act.put, List.setIfInBounds_toArray, List.set_cons_zero, List.set_cons_succ]
      refine wpAnyH_take (i := 14) (v := .pointer (some ⟨w.heap.size, 1, none⟩)) rfl (by kernel_rfl) (by kernel_rfl) (by kernel_rfl) (fun _ _ _ h => h) (Or.inl ⟨by rfl, ?_⟩) S0.out ?_
      · rintro w' ⟨s1, s2, s3, s4, s5⟩; go_simp
      simp only [Act.put, List.setIfInBounds_toArray, List.set_cons_zero, List.set_cons_succ]
      refine wpAnyH_take (i := 15) (v := .slice (some ad) n c) rfl (by kernel_rfl) (by kernel_rfl) (by kernel_rfl) (fun _ _ _ h => h) (Or.inl ⟨by rfl, ?_⟩) S0.out ?_
      · rintro w' ⟨s1, s2, s3, s4, s5⟩; go_simp
      simp only [Act.put, List.setIfInBounds_toArray, List.set_cons_zero, List.set_cons_succ]
      refine wpAnyH_take (i := 16) (v := .int .i64 k) rfl (by kernel_rfl) (by kernel_rfl) (by kernel_rfl) (fun _ _ _ h => h) (Or.inl ⟨by rfl, ?_⟩) S0.out ?_
      · rintro w' ⟨s1, s2, s3, s4, s5⟩; go_simp
      simp only [Act.put, List.setIfInBounds_toArray, List.set_cons_zero, List.set_cons_succ]
      refine wpAnyH_take (i := 17) (v := .pointer (some (ad.add (k * 3)))) rfl (by kernel_rfl) (by kernel_rfl) (by kernel_rfl) (fun _ _ _ h => h) (Or.inl ⟨by rfl, ?_⟩) S0.out ?_
      · rintro w' ⟨s1, s2, s3, s4, s5⟩; go_simp
      simp only [Act.put, List.setIfInBounds_toArray, List.set_cons_zero, List.set_cons_succ]
      refine wpAnyH_take (i := 18) (v := .pointer (some ⟨(ad.add (k * 3)).block, (ad.add (k * 3)).off + 2, none⟩)) rfl (by kernel_rfl) (by kernel_rfl) (by kernel_rfl) (fun _ _ _ h => h) (Or.inl ⟨by rfl, ?_⟩) S0.out ?_
      · rintro w' ⟨s1, s2, s3, s4, s5⟩; go_simp
      simp only [Act.put, List.setIfInBounds_toArray, List.set_cons_zero, List.set_cons_succ]
      refine wpAnyH_take (i := 19) (v := .int .i64 xv) rfl (by kernel_rfl) (by kernel_rfl) (by kernel_rfl) (fun _ _ _ h => h) (Or.inl ⟨by rfl, ?_⟩) S0.out ?_
      · rintro w' ⟨s1, s2, s3, s4, s5⟩; go_simp
      simp only [Act.put, List.setIfInBounds_toArray, List.set_cons_zero, List.set_cons_succ]
      refine wpAnyH_take (i := 20) (v := .agg #[.int .i64 x0, .int .i64 x1, .int .i64 xv]) rfl (by kernel_rfl) (by kernel_rfl) (by kernel_rfl) (fun _ _ _ h => h) (Or.inl ⟨by rfl, ?_⟩) S0.out ?_
      · rintro w' ⟨s1, s2, s3, s4, s5⟩; go_simp
      simp only [Act.put, List.setIfInBounds_toArray, List.set_cons_zero, List.set_cons_succ]
      refine wpAnyH_ready (rs := [21]) (by kernel_rfl) (by simp) ?_
      refine AllReadyH.cons rfl (fun K hK => ?_) AllReadyH.nil
      go_simp
      have hsa : (wr.alloc (.cells #[.int .i64 x0, .int .i64 x1, .int .i64 xv] 67)).drew.heap.size = wr.heap.size + 1 := by show (wr.alloc _).heap.size = _; simp
      refine hK.out _ _ (KEEP.out _ (fun j hj => Below.heap_alloc wr _ j (by omega))) (fun _ => ?_)
      clear hK
      refine wpAnyH_ready (rs := [22]) (by kernel_rfl) (by simp) ?_
      refine AllReadyH.cons rfl (fun K hK => ?_) AllReadyH.nil
      obtain ⟨v', w5, hrun, r1, r2, r3⟩ := run_append_where (P := Tryz.prog) (wr.alloc (.cells #[.int .i64 x0, .int .i64 x1, .int .i64 xv] 67)).drew ((w.heap.size + 1) + 2) 34 34 67 i0 (.agg #[.int .i64 0, .int .i64 0, .int .i64 0]) 3 24 Tryz.underlying34 hi hz0 hz1 hz2 rfl (by decide) v _ _ ((HA.out.2.2.1).alloc _) ⟨wr.heap.size, 0, none⟩ 1 1 (encR (x0, x1, xv)) rfl (encF_cells (World.alloc_heap_new wr _)) (encF_one _) (by have := HLEN.out; unfold maxLen; omega) (by have := HLEN.out; omega) (by omega)
      obtain ⟨A2, m2, rfl⟩ := row_form r1
      obtain ⟨hn1, hn2, hn3⟩ := HA.out.next (by have := HSW.out; omega) r1 r2
      have hvB : ∀ g, v.ownBlock = some g → (w.heap.size + 1) + 2 ≤ g := fun g hg => (World.ownsRow.lt HA.out.2.2.1 g hg).1
      refine step_appN rfl _ _ _ _ rfl hrun rfl rfl ?_
      refine hK.out _ _ (KEEP.out _ (fun j hj => (r2.block j (by omega) (fun e => by have := hvB j e.symm; omega)).trans (Below.heap_alloc wr _ j (by omega)))) (fun _ => ?_)
      rw [← HT.out] at hn1
      have HNX := Lib.hid hn1
      clear hK hrun r1 r2 r3 hn1 hvB
      refine wpAnyH_done (by kernel_rfl) ?_ _
      refine phase_tail (by kernel_rfl) ?_
      simp only [List.drop_succ_cons, List.drop_zero]
      go_wp2_with fail
      go_roundw
      case rel => exact ⟨k + 1, _, by go_num, by omega, HNX⟩
      case measure => simp [intOf]; omega
    · obtain rfl : k = n := by omega
      have hall : l.take k = l := List.take_of_length_le (by rw [HN.out]; omega)
      have ha := HA.out
      rw [hall] at ha
      obtain ⟨q1, q2, q3⟩ := ha.done
      obtain ⟨A2, m2, hv2, hT⟩ := trow_own q3
      subst hv2
      have Q1 := Lib.hid q1
      have Q2 := Lib.hid q2
      have QT := Lib.hid hT
      clear ha hall q1 q2 q3 hT
      go_wp2_with fail
      refine bodyPost_ret (res_box1 rfl _ (w.heap.size + 1) _ _ rfl Q1.out Tryz.underlying36 rfl (by kernel_rfl)) rfl ?_
      exact ⟨A2, m2, rfl, QT.out, HB.out.trans (Q2.out.mono (by omega))⟩
end Go.Proofs.YtnfcapeajhegmaaGreat

namespace Go.Proofs.YtnfcapeajhegmaaGreat
open Go.RowKit

set_option maxRecDepth 100000 in
set_option maxHeartbeats 2000000 in
theorem rnew_c (tag base : Int) (w : World) (ht : tag = 0 ∨ tag = 1 ∨ tag = 2) (h1 : -1152921504606846976 ≤ base) (h2 : base ≤ 1152921504606846976) :
    Calls Tryz.prog 24 #[.int .i64 tag, .int .i64 base] w fun e w' => e = .returned (.tuple #[.pointer (some ⟨w.heap.size, 0, none⟩), .int .i64 0]) ∧ w' = w.alloc (.cells #[.int .i64 tag, .int .i64 base, .int .i64 (-1), .slice none 0 0] 70) := by
  have h3 : 0 ≤ tag := by omega
  have h4 : tag ≤ 2 := by omega
  clear ht
  go_enter Tryz.func24, Tryz.ntmps24
  go_wp2_with fail
  go_ret2
  exact ⟨rfl, rfl⟩
set_option maxRecDepth 100000 in
set_option maxHeartbeats 2000000 in
theorem rnew_no (tag base : Int) (w : World) (ht : tag = 0 ∨ tag = 1 ∨ tag = 2) (h : base < -1152921504606846976 ∨ 1152921504606846976 < base) :
    Calls Tryz.prog 24 #[.int .i64 tag, .int .i64 base] w fun e w' => e = .returned (.tuple #[.pointer none, .int .i64 1]) ∧ w = w' := by
  have h3 : 0 ≤ tag := by omega
  have h4 : tag ≤ 2 := by omega
  clear ht
  by_cases h1 : 1152921504606846976 < base
  · clear h
    go_enter Tryz.func24, Tryz.ntmps24
    go_wp2_with fail
    go_ret2
    exact ⟨rfl, rfl⟩
  · have h2 : base < -1152921504606846976 := by omega
    clear h
    go_enter Tryz.func24, Tryz.ntmps24
    go_wp2_with fail
    go_ret2
    exact ⟨rfl, rfl⟩
theorem rnew_is {w : World} (tag base : Int) : IsT (w.alloc (.cells #[.int .i64 tag, .int .i64 base, .int .i64 (-1), .slice none 0 0] 70)) w.heap.size tag base (-1) (.slice none 0 0) [] :=
  ⟨World.alloc_heap_new w _, World.ownsRow_nil _ _ _ _, by simp [Value.ownBlock]⟩

set_option maxRecDepth 100000 in
set_option maxHeartbeats 4000000 in
theorem rsame_c (f0 : Int) (A B : Option Addr) (n ca cb : Nat) (l : List RI) (w : World) (hn : l.length = n) (hl : n ≤ 1000000) (hr : TRow w A l) (hs : TRow w B l) :
    Calls Tryz.prog 39 #[.agg #[.int .i64 f0, .slice A n ca], .agg #[.int .i64 f0, .slice B n cb]] w (Ret10 (.bool true) w) := by
  obtain ⟨W, hW⟩ : ∃ W, (w.alloc (.cells #[.int .i64 f0, .slice A n ca] 36)).alloc (.cells #[.int .i64 f0, .slice B n cb] 36) = W := ⟨_, rfl⟩
  have hb : Below w.heap.size w W := by rw [← hW]; exact ((Below.refl _ w).alloc (Nat.le_refl _) _).alloc (by simp) _
  have hA : W.heap[w.heap.size]? = some (.cells #[.int .i64 f0, .slice A n ca] 36 (0, 0)) := by rw [← hW]; exact heap_alloc2_old w _ _
  have hB : W.heap[w.heap.size + 1]? = some (.cells #[.int .i64 f0, .slice B n cb] 36 (0, 0)) := by rw [← hW]; exact heap_alloc2_new w _ _
  have a0 : W.cell? ⟨w.heap.size, 0, none⟩ = some (.int .i64 f0) := by simp [World.cell?, hA]
  have a1 : W.cell? ⟨w.heap.size, 1, none⟩ = some (.slice A n ca) := by simp [World.cell?, hA]
  have b0 : W.cell? ⟨w.heap.size + 1, 0, none⟩ = some (.int .i64 f0) := by simp [World.cell?, hB]
  have b1 : W.cell? ⟨w.heap.size + 1, 1, none⟩ = some (.slice B n cb) := by simp [World.cell?, hB]
  have HR := Lib.hid (hr.below hb (Nat.le_refl _))
  have HS := Lib.hid (hs.below hb (Nat.le_refl _))
  have HB := Lib.hid hb
  have HN := Lib.hid hn
  have HW := Lib.hid hW
  clear hr hs hb hn hW hA hB
  go_enter Tryz.func39, Tryz.ntmps39
  go_wp2_with fail
  rw [HW.out]
  go_wp2_with fail
  go_loopw [5] (fun iv wr => ∃ k q : Nat, iv = .int .i64 k ∧ k ≤ n ∧ wr = W.drewN q) (fun iv _ => n - (intOf iv).toNat)
  case atStart => exact ⟨0, 0, rfl, by omega, rfl⟩
  case round =>
    obtain ⟨k, q, rfl, hk, rfl⟩ := hrel
    by_cases hlt : k < n
    · obtain ⟨x, hx⟩ : ∃ x, l[k]? = some x := ⟨_, List.getElem?_eq_getElem (by rw [HN.out]; exact hlt)⟩
      obtain ⟨ad, rfl, d0, d1, d2⟩ := HR.out.at hx
      obtain ⟨ae, rfl, t0, t1, t2⟩ := HS.out.at hx
      obtain ⟨x0, x1, x2⟩ := x
      simp only at d0 d1 d2 t0 t1 t2
      have hkm : (k : Int) < (n : Int) := by omega
      clear hx
      go_wp2_with fail
      go_big_quiet (fail)
      go_wp2_with fail
      go_roundw
      case rel => exact ⟨k + 1, _, by go_num, by omega, rfl⟩
      case measure => simp [intOf]; omega
    · obtain rfl : k = n := by omega
      go_wp2_with fail
      go_ret
      exact ⟨rfl, below_drewN HB.out _⟩
end Go.Proofs.YtnfcapeajhegmaaGreat

namespace Go.Proofs.YtnfcapeajhegmaaGreat
open Go.RowKit

/-- Who runs: Cur, if it is there and the least one is not too far behind it; else the least one. -/
def GoesOn (l : List TI) (cur : Int) (x : TI) (c : Int) : Prop :=
  (atT cur l 0 = -1 ∧ c = x.1) ∨ ∃ (k : Nat) (y : TI), atT cur l 0 = ((k : Nat) : Int) ∧ l[k]? = some y ∧ y.1 = cur ∧ c = if y.2.2.1 - 465585120 ≤ x.2.2.1 then cur else x.1

set_option maxRecDepth 100000 in
set_option maxHeartbeats 8000000 in
theorem rpick1_some (p : Nat) (base cur : Int) (v : Value) (l : List TI) (w : World) (h : IsT w p 1 base cur v l) (hl : l.length ≤ 1000000) (hne : l ≠ []) (hlo : ∀ y ∈ l, -4000000000000000000 ≤ y.2.2.1 ∧ y.2.2.1 ≤ 4000000000000000000) :
    Calls Tryz.prog 36 #[.pointer (some ⟨p, 0, none⟩)] w fun e w' => ∃ b x c, FirstT l b x ∧ GoesOn l cur x c ∧ e = .returned (.tuple #[.int .i64 c, .bool true]) ∧ RPost p 1 v base c l w w' := by
  obtain ⟨n, hn⟩ : ∃ n, l.length = n := ⟨_, rfl⟩
  have hn0 : 0 < n := by rw [← hn]; exact List.length_pos_iff.2 hne
  obtain ⟨c0, c1, c2, c3⟩ := h.cells
  have f2 := h.free 2
  have HS := Lib.hid (BestAt.start (l := l) (by omega))
  have HN := Lib.hid hn
  have HH := Lib.hid h
  have HLO := Lib.hid hlo
  have HNE := Lib.hid hl
  obtain ⟨A, c, rfl⟩ := h.2.1.form
  rw [hn] at c3 hl
  have hnz : ((n : Int) == 0) = false := by simp; omega
  clear h hne hn hlo
  go_enter Tryz.func36, Tryz.ntmps36
  go_wp2_with fail
  go_loopw [4, 6, 7, 8] (fun fb sm al iv wr => ∃ (i b q : Nat) (s a : Int), iv = .int .i64 i ∧ fb = .int .i64 b ∧ sm = .int .i64 s ∧ al = .int .i64 a ∧ i ≤ n ∧ b < n ∧ Hid (BestAt l i b) ∧ wr = w.drewN q) (fun _ _ _ iv _ => n - (intOf iv).toNat)
  case atStart => exact ⟨0, 0, 0, 0, 0, rfl, rfl, rfl, rfl, by omega, hn0, HS, rfl⟩
  case round =>
    clear HS
    obtain ⟨i, b, q, s, a, rfl, rfl, rfl, rfl, hi, hb, HB, rfl⟩ := hrel
    obtain ⟨x, hx⟩ : ∃ x, l[b]? = some x := ⟨_, List.getElem?_eq_getElem (by rw [HN.out]; exact hb)⟩
    obtain ⟨g, cc, hv, _, _, d0, -, d2, -⟩ := HH.out.2.1.get hx
    rw [HN.out] at hv
    injection hv with hv1 hv2 hv3
    subst hv1 hv3
    have HX := Lib.hid hx
    clear hx hv2
    have hb0 : (0 : Int) ≤ (b : Int) := by omega
    have hbn : (b : Int) < (n : Int) := by omega
    by_cases hlt : i < n
    · obtain ⟨y, hy⟩ : ∃ y, l[i]? = some y := ⟨_, List.getElem?_eq_getElem (by rw [HN.out]; exact hlt)⟩
      obtain ⟨g', cc', hv, _, _, t0, t1, t2, t3⟩ := HH.out.2.1.get hy
      rw [HN.out] at hv
      injection hv with hv1 hv2 hv3
      obtain rfl : g = g' := by injection hv1 with hv1; injection hv1
      have HY := Lib.hid hy
      have hin : (i : Int) < (n : Int) := by omega
      clear hy hv1 hv2 hv3 t0 t3
      by_cases hc : y.2.2.1 < x.2.2.1
      · have HNX := Lib.hid (HB.out.take HX.out HY.out hc)
        obtain ⟨x0, x1, xv, x3⟩ := x
        obtain ⟨y0, y1, yv, y3⟩ := y
        simp only at d0 d2 t1 t2 hc
        go_wp2_with fail
        go_big_quiet (fail)
        go_wp2_with fail
        go_big_quiet (fail)
        go_wp2_with fail
        go_roundw
        case rel => exact ⟨i + 1, i, _, _, _, by go_num, rfl, rfl, rfl, by omega, hlt, HNX, rfl⟩
        case measure => simp [intOf]; omega
      · have HNX := Lib.hid (HB.out.skip HX.out HY.out hc)
        obtain ⟨x0, x1, xv, x3⟩ := x
        obtain ⟨y0, y1, yv, y3⟩ := y
        simp only at d0 d2 t1 t2 hc
        go_wp2_with fail
        go_big_quiet (fail)
        go_wp2_with fail
        go_big_quiet (fail)
        go_wp2_with fail
        go_roundw
        case rel => exact ⟨i + 1, b, _, _, _, by go_num, rfl, rfl, rfl, by omega, hb, HNX, rfl⟩
        case measure => simp [intOf]; omega
    · obtain rfl : i = n := by omega
      have hd := HB.out
      rw [← HN.out] at hd
      have HD := Lib.hid (hd.done HX.out)
      clear hd HB
      obtain ⟨w1, hw1⟩ : ∃ w1, w.drewN q = w1 := ⟨_, rfl⟩
      have hq1 : IsT w1 p 1 base cur (.slice (some ⟨g, 0, none⟩) l.length c) l := by rw [← hw1]; exact HH.out
      have HT1 : Hid (Trip (TOf p (.slice (some ⟨g, 0, none⟩) l.length c)) w (TOf p (.slice (some ⟨g, 0, none⟩) l.length c)) w1) := Lib.hid (by rw [← hw1]; exact tripN HH.out.self q)
      have HQ1 := Lib.hid hq1
      obtain ⟨u0, u1, u2, u3⟩ := hq1.cells
      rw [HN.out] at u3
      have KA := Lib.hid (rat_c p 1 base cur cur _ l w1 hq1 HNE.out)
      rw [hw1]
      clear hw1 hq1 c0 c1 c2 c3 f2 d0 d2
      rcases atT_found cur l 0 with ⟨h1, h2⟩ | ⟨k, y, h1, h2, h3⟩
      · rw [h1] at KA
        have HF : Hid (GoesOn l cur x x.1) := Lib.hid (.inl ⟨h1, rfl⟩)
        clear h1 h2
        obtain ⟨g', c', hv, _, _, d0, -⟩ := HQ1.out.2.1.get HX.out
        injection hv with hv1 hv2 hv3
        obtain rfl : g = g' := by injection hv1 with hv1; injection hv1
        clear hv1 hv2 hv3
        generalize hx0 : x.1 = x0 at *
        go_wp2_with fail
        refine KA.out.mono ?_; rintro e w' ⟨rfl, rfl⟩
        clear KA
        go_wp2_with fail
        go_big_quiet (fail)
        obtain ⟨w2, hw2⟩ : ∃ w2, w1.drewN nq = w2 := ⟨_, rfl⟩
        have hq2 : IsT w2 p 1 base cur (.slice (some ⟨g, 0, none⟩) l.length c) l := by rw [← hw2]; exact HQ1.out
        have HT2 : Hid (Trip (TOf p (.slice (some ⟨g, 0, none⟩) l.length c)) w (TOf p (.slice (some ⟨g, 0, none⟩) l.length c)) w2) := Lib.hid (by rw [← hw2]; exact tripN HT1.out nq)
        obtain ⟨s0, s1, s2, s3⟩ := hq2.cells
        rw [HN.out] at s3
        have e0 : w2.cell? ⟨g, b * 4, none⟩ = some (.int .i64 x0) := by rw [← hw2]; exact d0
        have g2 := hq2.free 2
        have pst := hq2.setC x0
        have v2 := pst.1.cells.2.2.1
        have POST := Lib.hid pst
        rw [hw2]
        clear hw2 hq2 pst u0 u1 u2 u3 d0
        go_wp2_with fail
        go_ret2
        exact ⟨_, _, _, HD.out, HF.out, rfl, _, POST.out.1, HT2.out.trans POST.out.2⟩
      · rw [Nat.zero_add] at h1
        rw [h1] at KA
        subst h3
        have HLY := Lib.hid (HLO.out y (List.mem_of_getElem? h2))
        obtain ⟨g', c', hv, _, _, d0, d1, d2, d3⟩ := HQ1.out.2.1.get HX.out
        injection hv with hv1 hv2 hv3
        obtain rfl : g = g' := by injection hv1 with hv1; injection hv1
        obtain ⟨g', c'', hw, _, _, t0, t1, t2, t3⟩ := HQ1.out.2.1.get h2
        injection hw with hw1 hw2 hw3
        obtain rfl : g = g' := by injection hw1 with hw1; injection hw1
        have HY := Lib.hid (And.intro h1 h2)
        have hkn : k < i := by rw [← HN.out]; exact (List.getElem?_eq_some_iff.1 h2).1
        have hk0 : (0 : Int) ≤ (k : Int) := by omega
        have hkn' : (k : Int) < (i : Int) := by omega
        clear hv1 hv2 hv3 hw1 hw2 hw3 h1 h2 d1 d3 t0 t1 t3
        obtain ⟨x0, x1, xv, x3⟩ := x
        obtain ⟨y0, y1, yv, y3⟩ := y
        simp only at d0 d2 t2 HLY HQ1 KA u2 HY HX
        have hwr : IntKind.i64.wrap (yv - 465585120) = yv - 465585120 := by have := HLY.out; rw [IntKind.wrap_i64]; omega
        by_cases hf : yv - 465585120 ≤ xv
        · have HF : Hid (GoesOn l y0 (x0, x1, xv, x3) y0) := Lib.hid (.inr ⟨k, _, HY.out.1, HY.out.2, rfl, (if_pos hf).symm⟩)
          go_wp2_with fail
          refine KA.out.mono ?_; rintro e w' ⟨rfl, rfl⟩
          clear KA
          go_wp2_with fail
          go_big_quiet (fail)
          obtain ⟨w2, hw2⟩ : ∃ w2, w1.drewN nq = w2 := ⟨_, rfl⟩
          have hq2 : IsT w2 p 1 base y0 (.slice (some ⟨g, 0, none⟩) l.length c) l := by rw [← hw2]; exact HQ1.out
          have HT2 : Hid (Trip (TOf p (.slice (some ⟨g, 0, none⟩) l.length c)) w (TOf p (.slice (some ⟨g, 0, none⟩) l.length c)) w2) := Lib.hid (by rw [← hw2]; exact tripN HT1.out nq)
          obtain ⟨s0, s1, s2, s3⟩ := hq2.cells
          rw [HN.out] at s3
          rw [hw2]
          have HQ2 := Lib.hid hq2
          clear hw2 hq2 u0 u1 u2 u3
          go_wp2_with fail
          go_ret2
          exact ⟨b, x0, x1, xv, x3, HD.out, y0, HF.out, rfl, _, HQ2.out, HT2.out⟩
        · have HF : Hid (GoesOn l y0 (x0, x1, xv, x3) x0) := Lib.hid (.inr ⟨k, _, HY.out.1, HY.out.2, rfl, (if_neg hf).symm⟩)
          go_wp2_with fail
          refine KA.out.mono ?_; rintro e w' ⟨rfl, rfl⟩
          clear KA
          go_wp2_with fail
          go_big_quiet (fail)
          obtain ⟨w2, hw2⟩ : ∃ w2, w1.drewN nq = w2 := ⟨_, rfl⟩
          have hq2 : IsT w2 p 1 base y0 (.slice (some ⟨g, 0, none⟩) l.length c) l := by rw [← hw2]; exact HQ1.out
          have HT2 : Hid (Trip (TOf p (.slice (some ⟨g, 0, none⟩) l.length c)) w (TOf p (.slice (some ⟨g, 0, none⟩) l.length c)) w2) := Lib.hid (by rw [← hw2]; exact tripN HT1.out nq)
          obtain ⟨s0, s1, s2, s3⟩ := hq2.cells
          rw [HN.out] at s3
          have e0 : w2.cell? ⟨g, b * 4, none⟩ = some (.int .i64 x0) := by rw [← hw2]; exact d0
          have g2 := hq2.free 2
          have pst := hq2.setC x0
          have v2 := pst.1.cells.2.2.1
          have POST := Lib.hid pst
          rw [hw2]
          clear hw2 hq2 pst u0 u1 u2 u3 d0
          go_wp2_with fail
          go_ret2
          exact ⟨b, x0, x1, xv, x3, HD.out, x0, HF.out, rfl, _, POST.out.1, HT2.out.trans POST.out.2⟩
end Go.Proofs.YtnfcapeajhegmaaGreat
