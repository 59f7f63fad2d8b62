/- Rows of the reference: Put, of one that is new. -/
import Derived.Test.YtaodkfnbmpbcfaaQe
namespace Go.Proofs.Ytaodkfnbmpbcfaa
open Go.RowKit

theorem below_row {w w' : World} {b : Nat} {most : Int} {v : Value} {l : List RI} (h : IsRow w b most v l) (hb : Below w.heap.size w w') : IsRow w' b most v l := by
  have hbl : b < w.heap.size := (Array.getElem?_eq_some_iff.1 h.1).1
  refine h.keep (fun j hj => hb.block j ?_)
  rcases hj with rfl | hj
  · exact hbl
  · exact (World.ownsRow.lt h.2.1 j hj).2

theorem alloc_at' {w : World} (o : Obj) {k : Nat} (hk : k = w.heap.size) : (w.alloc o).heap[k]? = some o := by rw [hk]; exact World.alloc_heap_new w o
theorem own_empty' {w : World} {e : TypeId} {k base : Nat} (hk : k = w.heap.size) (hb : base ≤ k) : (w.alloc (.cells #[] e)).ownsRow base e 3 (.slice (some ⟨k, 0, none⟩) 0 0) 0 [] :=
  ⟨rfl, .inr ⟨k, 0, #[], rfl, hb, alloc_at' _ hk, Nat.le_refl _, Nat.zero_le _, rfl, rfl⟩⟩
theorem encR_at {w : World} {g : Nat} {t : TypeId} {x : RI} (h : w.heap[g]? = some (.cells #[.int .i64 x.1, .int .i64 x.2.1, .int .i64 x.2.2] t (0, 0))) : ∀ j u, (encR x)[j]? = some u → w.cell? ((⟨g, 0, none⟩ : Addr).add j) = some u := by
  intro j u hu
  have ha : (⟨g, 0, none⟩ : Addr).add j = ⟨g, j, none⟩ := by unfold Addr.add; split <;> simp_all
  rw [ha]
  simp [World.cell?, h]
  exact hu
theorem encR1 (x : RI) : ∀ u ∈ encR x, u.oneCell' = true := by
  intro u hu
  simp [encR] at hu
  rcases hu with rfl | rfl | rfl <;> rfl
/-- Behind the store. -/
theorem put_post {w w1 wL w6 : World} {b g c n k g6 c6 : Nat} {most : Int} {l : List RI} {x : RI} (h0 : IsRow w b most (.slice (some ⟨g, 0, none⟩) l.length c) l) (hb1 : Below w.heap.size w w1) (hbL : Below w1.heap.size w1 wL) (hrow : IsRow w1 b most (.slice (some ⟨g, 0, none⟩) l.length c) l)
    (hins : insT l x = l.take k ++ [x] ++ l.drop k) (hn : l.length = n) (hk : k ≤ n) (hB : Below wL.heap.size wL w6) (ho : w6.ownsRow wL.heap.size 38 3 (.slice (some ⟨g6, 0, none⟩) (k + 1 + (n - k)) c6) (k + 1 + (n - k)) ([] ++ flatR (l.take k) ++ encR x ++ flatR (l.drop k))) :
    ∃ v', IsRow (w6.setCell ⟨b, 1, none⟩ (.slice (some ⟨g6, 0, none⟩) (k + 1 + (n - k)) c6)) b most v' (insT l x) ∧ (∀ j, v'.ownBlock = some j → w.heap.size ≤ j) ∧ Trip (fun j => j = b) w (fun j => j = b) (w6.setCell ⟨b, 1, none⟩ (.slice (some ⟨g6, 0, none⟩) (k + 1 + (n - k)) c6)) := by
  have hbl : b < w.heap.size := (Array.getElem?_eq_some_iff.1 h0.1).1
  have hs1 := hb1.size
  have hsL := hbL.size
  have e : flatR (insT l x) = [] ++ flatR (l.take k) ++ encR x ++ flatR (l.drop k) := by rw [hins, flatR_append, flatR_append]; simp [flatR]
  rw [← e] at ho
  obtain ⟨v', h1, h2, h3⟩ := row_post (w2 := wL) (most := most) (b := b) rfl ((hbL.block b (by omega)).trans hrow.1) hB ho (by rw [length_insT, hn]; omega)
  refine ⟨v', h1, fun j hj => by have := h2 j hj; omega, ?_⟩
  have hbw : Below w.heap.size w wL := hb1.trans (hbL.mono hs1)
  have ht : Trip (fun j => j = b) w (fun j => j = b) wL := ⟨hbw.os, hbw.tape, hbw.output, hbw.size, fun k hk _ => hbw.block k hk, fun _ h => .inl h, fun k hk => by have := hbw.size; omega⟩
  exact ht.trans h3

set_option linter.unusedSimpArgs false in
set_option maxRecDepth 100000 in
set_option maxHeartbeats 4000000 in
theorem rowPut_new (b g c : Nat) (most : Int) (x : RI) (l : List RI) (w : World) (h : IsRow w b most (.slice (some ⟨g, 0, none⟩) l.length c) l) (hl : l.length ≤ 1000000) (hk : atR x.2.2 l 0 = -1) (hf : (l.length : Int) < most) :
    Calls Try.prog 9 #[.pointer (some ⟨b, 0, none⟩), .agg (encR x).toArray] w fun e w' => e = .returned (.int .i64 0) ∧ ∃ v', IsRow w' b most v' (insT l x) ∧ (∀ j, v'.ownBlock = some j → w.heap.size ≤ j) ∧ Trip (fun j => j = b) w (fun j => j = b) w' := by
  have k1 := fun (o : Obj) => rowAt_c b most x.2.2 _ l (w.alloc o) (h.alloc o) hl
  rw [hk] at k1
  have K1 := Lib.hid k1
  have hbl : b < w.heap.size := (Array.getElem?_eq_some_iff.1 h.1).1
  obtain ⟨x0, x1, x2⟩ := x
  obtain ⟨w1, hw1⟩ : ∃ w1, w.alloc (.cells #[.int .i64 x0, .int .i64 x1, .int .i64 x2] 38) = w1 := ⟨_, rfl⟩
  have hb1 : Below w.heap.size w w1 := by rw [← hw1]; exact (Below.refl _ w).alloc (Nat.le_refl _) _
  have hs1 : w1.heap.size = w.heap.size + 1 := by rw [← hw1]; simp
  have hx1 : w1.heap[w.heap.size]? = some (.cells #[.int .i64 x0, .int .i64 x1, .int .i64 x2] 38 (0, 0)) := by rw [← hw1]; exact World.alloc_heap_new _ _
  have hrow1 := below_row h hb1
  obtain ⟨n, hn⟩ : ∃ n, l.length = n := ⟨_, rfl⟩
  have q0 : ∀ w', Below w1.heap.size w1 w' → w'.cell? ⟨b, 0, none⟩ = some (.int .i64 most) ∧ w'.cell? ⟨b, 1, none⟩ = some (.slice (some ⟨g, 0, none⟩) n c) ∧ w'.cell? ⟨w.heap.size, 0, none⟩ = some (.int .i64 x0) ∧ w'.cell? ⟨w.heap.size, 1, none⟩ = some (.int .i64 x1) ∧ w'.cell? ⟨w.heap.size, 2, none⟩ = some (.int .i64 x2) := fun w' hb => by
    have e1 := (hb.block b (by omega)).trans hrow1.1
    have e2 := (hb.block w.heap.size (by omega)).trans hx1
    exact ⟨by simp [World.cell?, e1], by simp [World.cell?, e1, hn], by simp [World.cell?, e2], by simp [World.cell?, e2], by simp [World.cell?, e2]⟩
  have F0 : Hid (∀ w', Below w1.heap.size w1 w' → w'.frozen? ⟨b, 1, none⟩ = false) := Lib.hid (fun w' hb => by
    have e1 := (hb.block b (by omega)).trans hrow1.1
    simp [World.frozen?, e1])
  have Q0 := Lib.hid q0
  have HN := Lib.hid hn
  have HROW := Lib.hid hrow1
  have HB1 := Lib.hid hb1
  have HS1 := Lib.hid hs1
  have HH := Lib.hid h
  simp only [encR] at K1 ⊢
  rw [hn] at hl hf
  have hd : decide (most ≤ (n : Int)) = false := decide_eq_false (by omega)
  have HW1 := Lib.hid hw1
  clear h hrow1 hx1 hn q0 k1 hk hb1 hs1 hw1
  go_enter Try.func9, Try.ntmps9
  go_wp2_with fail
  refine (K1.out _).mono ?_
  rintro e w' ⟨rfl, rfl⟩
  rw [HW1.out]
  obtain ⟨a0, a1, a2, a3, a4⟩ := Q0.out w1 (Below.refl _ w1)
  clear K1
  go_wp2_with fail
  go_still (by kernel_rfl)
  go_wp2_with fail
  clear a0 a1 a2 a3 a4
  go_loopw [5] (fun i wr => ∃ k : Nat, i = .int .i64 k ∧ k ≤ n ∧ Hid (Below w1.heap.size w1 wr ∧ ∀ z ∈ l.take k, befB z (x0, x1, x2) = true)) (fun i _ => n - (intOf i).toNat)
  case atStart => exact ⟨0, rfl, Nat.zero_le _, Lib.hid ⟨(Below.refl _ w1).drew, by simp⟩⟩
  case round =>
    obtain ⟨k, rfl, hk, HK⟩ := hrel
    obtain ⟨a0, a1, a2, a3, a4⟩ := Q0.out wr HK.out.1
    by_cases hgo : ∃ y, l[k]? = some y ∧ befB y (x0, x1, x2) = true
    · obtain ⟨y, hy, hbef⟩ := hgo
      have hlt : k < n := by rw [← HN.out]; exact (List.getElem?_eq_some_iff.1 hy).1
      obtain ⟨g', cc, hv, _, _, c0, c1, c2⟩ := (below_row HROW.out HK.out.1).2.1.get hy
      obtain rfl : g = g' := by injection hv with hv1; injection hv1 with hv1; injection hv1 with hv1
      have kb := before_c y (x0, x1, x2) wr.drew
      rw [hbef] at kb
      have KB := Lib.hid kb
      clear kb
      have htk : ∀ z ∈ l.take (k + 1), befB z (x0, x1, x2) = true := by
        rw [List.take_add_one, hy]
        intro z hz
        rcases List.mem_append.1 hz with h | h
        · exact HK.out.2 z h
        · simp at h; subst h; exact hbef
      have HTK := Lib.hid htk
      obtain ⟨y0, y1, y2⟩ := y
      simp only [encR] at c0 c1 c2 KB
      have hkm : (k : Int) < (n : Int) := by omega
      clear hv hy hbef htk
      go_wp2_with fail
      go_still_tail 16, (by kernel_rfl)
      change wpList _ _ _ _ _ wr.drew
      go_wp2_with fail
      refine (KB.out).mono ?_
      rintro e w3 ⟨rfl, hb3⟩
      have HB3 : Hid (Below w1.heap.size w1 w3) := Lib.hid (HK.out.1.drew.trans (hb3.mono HK.out.1.size))
      clear hb3 KB HK c0 c1 c2 a0 a1 a2 a3 a4
      go_wp2_with fail
      go_roundw
      case rel => exact ⟨k + 1, by go_num, by omega, Lib.hid ⟨HB3.out, HTK.out⟩⟩
      case measure => simp [intOf]; omega
    · have hex : (k < n ∧ ∃ y, l[k]? = some y ∧ befB y (x0, x1, x2) = false) ∨ k = n := by
        by_cases hlt : k < n
        · have hkl : k < l.length := by rw [HN.out]; exact hlt
          refine .inl ⟨hlt, l[k], List.getElem?_eq_getElem hkl, ?_⟩
          cases hb : befB l[k] (x0, x1, x2) with
          | false => rfl
          | true => exact absurd ⟨_, List.getElem?_eq_getElem hkl, hb⟩ hgo
        · exact .inr (by omega)
      have hins : insT l (x0, x1, x2) = l.take k ++ [(x0, x1, x2)] ++ l.drop k := insT_here (by rw [HN.out]; exact hk) HK.out.2 (fun y hy => by
        cases hb : befB y (x0, x1, x2) with
        | false => rfl
        | true => exact absurd ⟨y, hy, hb⟩ hgo)
      have HINS := Lib.hid hins
      clear hgo hins
      rcases hex with ⟨hlt, y, hy, hbef⟩ | hkn
      case' inl =>
        obtain ⟨g', cc, hv, _, _, c0, c1, c2⟩ := (below_row HROW.out HK.out.1).2.1.get hy
        obtain rfl : g = g' := by injection hv with hv1; injection hv1 with hv1; injection hv1 with hv1
        have kb := before_c y (x0, x1, x2) wr.drew
        rw [hbef] at kb
        have KB := Lib.hid kb
        clear kb
        obtain ⟨y0, y1, y2⟩ := y
        simp only [encR] at c0 c1 c2 KB
        have hkm : (k : Int) < (n : Int) := by omega
        clear hv hy hbef
        go_wp2_with fail
        go_still_tail 16, (by kernel_rfl)
        change wpList _ _ _ _ _ wr.drew
        go_wp2_with fail
        refine (KB.out).mono ?_
        rintro e wL ⟨rfl, hb3⟩
        have HBL : Hid (Below w1.heap.size w1 wL) := Lib.hid (HK.out.1.drew.trans (hb3.mono HK.out.1.size))
        have hkn' : k ≤ n := hk
        clear hb3 KB HK c0 c1 c2 a0 a1 a2 a3 a4 hlt hkm
        go_wp2_with fail
      case' inr =>
        have hkf : decide (k < n) = false := decide_eq_false (by omega)
        have hkf' : decide ((k : Int) < (n : Int)) = false := decide_eq_false (by omega)
        go_wp2_with fail
        go_big_quiet (fail)
        rename_i nq
        obtain ⟨wL, hwL⟩ : ∃ wL, wr.drewN nq = wL := ⟨_, rfl⟩
        have HBL : Hid (Below w1.heap.size w1 wL) := Lib.hid (by rw [← hwL]; exact below_drewN HK.out.1 nq)
        rw [hwL]
        have hkn' : k ≤ n := hk
        clear hwL HK a0 a1 a2 a3 a4 hkf hkf' hkn
        go_wp2_with fail
      all_goals
       skip
       have hcc : n ≤ c := by
         rcases HROW.out.2.1.2 with ⟨h1, _⟩ | ⟨g1, cap, cur, h1, _, _, h4, _⟩
         · cases h1
         · injection h1 with _ _ h3; rw [HN.out] at h4; omega
       have hgw : g < w.heap.size := (World.ownsRow.lt HH.out.2.1 g rfl).2
       have hk0 : (0 : Int) ≤ (k : Int) := by omega
       have hkc : (k : Int) ≤ (c : Int) := by omega
       have hknI : (k : Int) ≤ (n : Int) := by omega
       have hncI : (n : Int) ≤ (c : Int) := by omega
       obtain ⟨AD, hAD⟩ : ∃ AD, (if c = k then some (⟨g, 0, none⟩ : Addr) else some ⟨g, k * 3, none⟩) = some AD := by split <;> exact ⟨_, rfl⟩
       have SS : Hid (∀ w', Below wL.heap.size wL w' → w'.cell? ⟨b, 1, none⟩ = some (.slice (some ⟨g, 0, none⟩) n c) ∧ w'.cell? ⟨w.heap.size, 0, none⟩ = some (.int .i64 x0) ∧ w'.cell? ⟨w.heap.size, 1, none⟩ = some (.int .i64 x1) ∧ w'.cell? ⟨w.heap.size, 2, none⟩ = some (.int .i64 x2)) := Lib.hid (fun w' hb => (Q0.out w' (HBL.out.trans (hb.mono HBL.out.size))).2)
       have HB0 : Hid (Below wL.heap.size wL wL.drew) := Lib.hid (Below.refl _ wL).drew
       obtain ⟨i0, hi, hz0, hz1, hz2⟩ := info_parts info_ri
       have hrw : ∀ w', Below wL.heap.size wL w' → RowV w' (.slice (some ⟨g, 0, none⟩) l.length c) l := fun w' hb => (below_row HROW.out (HBL.out.trans (hb.mono HBL.out.size))).2.1
       have hP1 : Hid (∀ w', Below wL.heap.size wL w' → SrcAt w' (some ⟨g, 0, none⟩) k c (flatR (l.take k))) := Lib.hid (fun w' hb => .inr ⟨_, rfl, fun j u hu => by
         have ha : ∀ i, (⟨g, 0, none⟩ : Addr).add i = ⟨g, i, none⟩ := fun i => by unfold Addr.add; split <;> simp_all
         rw [ha]
         have := (hrw w' hb).part 0 (t := l.take k) (by rw [List.drop_zero]; exact List.take_prefix _ _) j u hu
         simpa using this⟩)
       have hP2 : Hid (∀ w', Below wL.heap.size wL w' → SrcAt w' (some AD) (n - k) (c - k) (flatR (l.drop k))) := Lib.hid (fun w' hb => .inr ⟨_, rfl, fun j u hu => by
         by_cases hcc' : c = k
         · have h1 : l.drop k = [] := List.drop_eq_nil_of_le (by rw [HN.out]; omega)
           rw [h1] at hu
           simp [flatR] at hu
         · rw [if_neg hcc'] at hAD
           injection hAD with hAD
           subst hAD
           have ha : ∀ o i, (⟨g, o, none⟩ : Addr).add i = ⟨g, o + i, none⟩ := fun o i => by unfold Addr.add; split <;> simp_all
           rw [ha]
           exact (hrw w' hb).part k (t := l.drop k) (List.prefix_refl _) j u hu⟩)
       have HL1 : Hid ((flatR (l.take k)).length = k * 3) := Lib.hid (by rw [flatR_length, List.length_take, HN.out]; omega)
       have HL2 : Hid ((flatR (l.drop k)).length = (n - k) * 3) := Lib.hid (by rw [flatR_length, List.length_drop, HN.out])
       clear hrw
       refine wp_region_phase 19 (by kernel_rfl) (by kernel_rfl) (fun w' => w'.cell? ⟨b, 1, none⟩ = some (.slice (some ⟨g, 0, none⟩) n c) ∧ w'.cell? ⟨w.heap.size, 0, none⟩ = some (.int .i64 x0) ∧ w'.cell? ⟨w.heap.size, 1, none⟩ = some (.int .i64 x1) ∧ w'.cell? ⟨w.heap.size, 2, none⟩ = some (.int .i64 x2)) ?_
       refine wpAnyH_take (i := 0) (v := .pointer (some ⟨b, 0, none⟩)) rfl (by kernel_rfl) (by kernel_rfl) (by kernel_rfl) (fun _ _ _ h => h) (Or.inl ⟨by rfl, ?_⟩) (SS.out _ HB0.out) ?_
       · rintro w' ⟨s1, s2, s3, s4⟩; go_simp
       simp only [Act.put, List.setIfInBounds_toArray, List.set_cons_zero, List.set_cons_succ]
       refine wpAnyH_take (i := 2) (v := .pointer (some ⟨b, 0, none⟩)) rfl (by kernel_rfl) (by kernel_rfl) (by kernel_rfl) (fun _ _ _ h => h) (Or.inl ⟨by rfl, ?_⟩) (SS.out _ HB0.out) ?_
       · rintro w' ⟨s1, s2, s3, s4⟩; go_simp
       simp only [Act.put, List.setIfInBounds_toArray, List.set_cons_zero, List.set_cons_succ]
       refine wpAnyH_take (i := 3) (v := .pointer (some ⟨b, 0, none⟩)) rfl (by kernel_rfl) (by kernel_rfl) (by kernel_rfl) (fun _ _ _ h => h) (Or.inl ⟨by rfl, ?_⟩) (SS.out _ HB0.out) ?_
       · rintro w' ⟨s1, s2, s3, s4⟩; go_simp
       simp only [Act.put, List.setIfInBounds_toArray, List.set_cons_zero, List.set_cons_succ]
       refine wpAnyH_take (i := 4) (v := .pointer (some ⟨b, 1, none⟩)) rfl (by kernel_rfl) (by kernel_rfl) (by kernel_rfl) (fun _ _ _ h => h) (Or.inl ⟨by rfl, ?_⟩) (SS.out _ HB0.out) ?_
       · rintro w' ⟨s1, s2, s3, s4⟩; go_simp
       simp only [Act.put, List.setIfInBounds_toArray, List.set_cons_zero, List.set_cons_succ]
       refine wpAnyH_take (i := 5) (v := .slice (some ⟨g, 0, none⟩) n c) rfl (by kernel_rfl) (by kernel_rfl) (by kernel_rfl) (fun _ _ _ h => h) (Or.inl ⟨by rfl, ?_⟩) (SS.out _ HB0.out) ?_
       · rintro w' ⟨s1, s2, s3, s4⟩; go_simp
       simp only [Act.put, List.setIfInBounds_toArray, List.set_cons_zero, List.set_cons_succ]
       refine wpAnyH_take (i := 6) (v := .int .i64 k) rfl (by kernel_rfl) (by kernel_rfl) (by kernel_rfl) (fun _ _ _ h => h) (Or.inl ⟨by rfl, ?_⟩) (SS.out _ HB0.out) ?_
       · rintro w' ⟨s1, s2, s3, s4⟩; go_simp
       simp only [Act.put, List.setIfInBounds_toArray, List.set_cons_zero, List.set_cons_succ]
       refine wpAnyH_take (i := 7) (v := .slice (some ⟨g, 0, none⟩) k c) rfl (by kernel_rfl) (by kernel_rfl) (by kernel_rfl) (fun _ _ _ h => h) (Or.inl ⟨by rfl, ?_⟩) (SS.out _ HB0.out) ?_
       · rintro w' ⟨s1, s2, s3, s4⟩; go_simp
       simp only [Act.put, List.setIfInBounds_toArray, List.set_cons_zero, List.set_cons_succ]
       refine wpAnyH_take (i := 9) (v := .agg #[.int .i64 x0, .int .i64 x1, .int .i64 x2]) rfl (by kernel_rfl) (by kernel_rfl) (by kernel_rfl) (fun _ _ _ h => h) (Or.inl ⟨by rfl, ?_⟩) (SS.out _ HB0.out) ?_
       · rintro w' ⟨s1, s2, s3, s4⟩; go_simp
       simp only [Act.put, List.setIfInBounds_toArray, List.set_cons_zero, List.set_cons_succ]
       refine wpAnyH_take (i := 12) (v := .pointer (some ⟨b, 0, none⟩)) rfl (by kernel_rfl) (by kernel_rfl) (by kernel_rfl) (fun _ _ _ h => h) (Or.inl ⟨by rfl, ?_⟩) (SS.out _ HB0.out) ?_
       · rintro w' ⟨s1, s2, s3, s4⟩; go_simp
       simp only [Act.put, List.setIfInBounds_toArray, List.set_cons_zero, List.set_cons_succ]
       refine wpAnyH_take (i := 13) (v := .pointer (some ⟨b, 0, none⟩)) rfl (by kernel_rfl) (by kernel_rfl) (by kernel_rfl) (fun _ _ _ h => h) (Or.inl ⟨by rfl, ?_⟩) (SS.out _ HB0.out) ?_
       · rintro w' ⟨s1, s2, s3, s4⟩; go_simp
       simp only [Act.put, List.setIfInBounds_toArray, List.set_cons_zero, List.set_cons_succ]
       refine wpAnyH_take (i := 14) (v := .pointer (some ⟨b, 1, none⟩)) rfl (by kernel_rfl) (by kernel_rfl) (by kernel_rfl) (fun _ _ _ h => h) (Or.inl ⟨by rfl, ?_⟩) (SS.out _ HB0.out) ?_
       · rintro w' ⟨s1, s2, s3, s4⟩; go_simp
       simp only [Act.put, List.setIfInBounds_toArray, List.set_cons_zero, List.set_cons_succ]
       refine wpAnyH_take (i := 15) (v := .slice (some ⟨g, 0, none⟩) n c) rfl (by kernel_rfl) (by kernel_rfl) (by kernel_rfl) (fun _ _ _ h => h) (Or.inl ⟨by rfl, ?_⟩) (SS.out _ HB0.out) ?_
       · rintro w' ⟨s1, s2, s3, s4⟩; go_simp
       simp only [Act.put, List.setIfInBounds_toArray, List.set_cons_zero, List.set_cons_succ]
       refine wpAnyH_take (i := 16) (v := .int .i64 k) rfl (by kernel_rfl) (by kernel_rfl) (by kernel_rfl) (fun _ _ _ h => h) (Or.inl ⟨by rfl, ?_⟩) (SS.out _ HB0.out) ?_
       · rintro w' ⟨s1, s2, s3, s4⟩; go_simp
       simp only [Act.put, List.setIfInBounds_toArray, List.set_cons_zero, List.set_cons_succ]
       refine wpAnyH_take (i := 17) (v := .slice (some AD) (n - k) (c - k)) rfl (by kernel_rfl) (by kernel_rfl) (by kernel_rfl) (fun _ _ _ h => h) (Or.inl ⟨by rfl, ?_⟩) (SS.out _ HB0.out) ?_
       · rintro w' ⟨s1, s2, s3, s4⟩; go_simp
       simp only [Act.put, List.setIfInBounds_toArray, List.set_cons_zero, List.set_cons_succ]
       refine wpAnyH_ready (rs := [1, 10]) (by kernel_rfl) (by simp) ?_
       refine AllReadyH.cons rfl (fun K hK => ?_) (AllReadyH.cons rfl (fun K hK => ?_) AllReadyH.nil)
       · go_simp
         have hBe : Below wL.heap.size wL (wL.alloc (.cells #[] 38)).drew := ((Below.refl _ wL).alloc (Nat.le_refl _) _).drew
         refine hK.out _ _ (SS.out _ hBe) (fun _ => ?_)
         clear hK
         refine wpAnyH_ready (rs := [8, 10]) (by kernel_rfl) (by simp) ?_
         refine AllReadyH.cons rfl (fun K hK => ?_) (AllReadyH.cons rfl (fun K hK => ?_) AllReadyH.nil)
         · refine stepw_src (by rfl) _ _ 27 (by rfl) wL.heap.size 38 i0 (.agg #[.int .i64 0, .int .i64 0, .int .i64 0]) 3 24 Try.underlying27 hi hz0 hz1 hz2 (by rfl) (by omega) wL.heap.size 0 0 _ (by rfl) (own_empty wL _) (some ⟨g, 0, none⟩) k c (flatR (l.take k)) (by rfl) HL1.out (hP1.out _ hBe) (flatR_one _) (by unfold maxLen; omega) (by omega) (hBe).size ?_
           intro g3 c3 w3 ho3 hg3 hw3
           rw [Nat.zero_add] at ho3 ⊢
           have hB3 : Below wL.heap.size wL w3 := grown_below hBe hg3 (Nat.le_refl _) (hBe).size
           refine hK.out _ _ (SS.out _ hB3) (fun _ => ?_)
           clear hK
           refine wpAnyH_ready (rs := [10]) (by kernel_rfl) (by simp) ?_
           refine AllReadyH.cons rfl (fun K hK => ?_) AllReadyH.nil
           go_simp
           have hBx : Below wL.heap.size wL (w3.alloc (.cells #[.int .i64 x0, .int .i64 x1, .int .i64 x2] 38)) := (hB3).alloc (hB3).size _
           refine hK.out _ _ (SS.out _ hBx) (fun _ => ?_)
           clear hK
           refine wpAnyH_ready (rs := [11]) (by kernel_rfl) (by simp) ?_
           refine AllReadyH.cons rfl (fun K hK => ?_) AllReadyH.nil
           refine stepw_src (by rfl) _ _ 27 (by rfl) wL.heap.size 38 i0 (.agg #[.int .i64 0, .int .i64 0, .int .i64 0]) 3 24 Try.underlying27 hi hz0 hz1 hz2 (by rfl) (by omega) g3 c3 k _ (by rfl) (ho3.alloc _) (some ⟨w3.heap.size, 0, none⟩) 1 1 (encR (x0, x1, x2)) (by rfl) rfl (.inr ⟨_, rfl, encR_at (World.alloc_heap_new w3 _)⟩) (encR1 _) (by unfold maxLen; omega) (by omega) (hBx).size ?_
           intro g5 c5 w5 ho5 hg5 hw5
           have hB5 : Below wL.heap.size wL w5 := grown_below hBx hg5 (World.ownsRow.lt ho3 _ rfl).1 (hBx).size
           refine hK.out _ _ (SS.out _ hB5) (fun _ => ?_)
           clear hK
           refine wpAnyH_ready (rs := [18]) (by kernel_rfl) (by simp) ?_
           refine AllReadyH.cons rfl (fun K hK => ?_) AllReadyH.nil
           refine stepw_src (by rfl) _ _ 27 (by rfl) wL.heap.size 38 i0 (.agg #[.int .i64 0, .int .i64 0, .int .i64 0]) 3 24 Try.underlying27 hi hz0 hz1 hz2 (by rfl) (by omega) g5 c5 (k + 1) _ (by rfl) ho5 (some AD) (n - k) (c - k) (flatR (l.drop k)) (by rfl) HL2.out (hP2.out _ hB5) (flatR_one _) (by unfold maxLen; omega) (by omega) (hB5).size ?_
           intro g6 c6 w6 ho6 hg6 hw6
           have hB6 : Below wL.heap.size wL w6 := grown_below hB5 hg6 (World.ownsRow.lt ho5 _ rfl).1 (hB5).size
           refine hK.out _ _ (SS.out _ hB6) (fun _ => ?_)
           clear hK
           refine wpAnyH_done (by kernel_rfl) ?_ _
           refine phase_tail (by kernel_rfl) ?_
           have POST := Lib.hid (put_post HH.out HB1.out HBL.out HROW.out HINS.out HN.out hkn' hB6 ho6)
           have f6 := F0.out w6 (HBL.out.trans (hB6.mono HBL.out.size))
           have s6 := (SS.out _ hB6).1
           clear hB6 hB5 ho6 ho5 hg6 hg5 hw6 hw5
           simp only [List.drop_succ_cons, List.drop_zero]
           go_wp2_with fail
           go_ret
           exact ⟨rfl, POST.out⟩
         · go_simp
           have hBx : Below wL.heap.size wL ((wL.alloc (.cells #[] 38)).drew.alloc (.cells #[.int .i64 x0, .int .i64 x1, .int .i64 x2] 38)) := (hBe).alloc (hBe).size _
           refine hK.out _ _ (SS.out _ hBx) (fun _ => ?_)
           clear hK
           refine wpAnyH_ready (rs := [8]) (by kernel_rfl) (by simp) ?_
           refine AllReadyH.cons rfl (fun K hK => ?_) AllReadyH.nil
           refine stepw_src (by rfl) _ _ 27 (by rfl) wL.heap.size 38 i0 (.agg #[.int .i64 0, .int .i64 0, .int .i64 0]) 3 24 Try.underlying27 hi hz0 hz1 hz2 (by rfl) (by omega) wL.heap.size 0 0 _ (by rfl) ((own_empty wL _).alloc _) (some ⟨g, 0, none⟩) k c (flatR (l.take k)) (by rfl) HL1.out (hP1.out _ hBx) (flatR_one _) (by unfold maxLen; omega) (by omega) (hBx).size ?_
           intro g3 c3 w3 ho3 hg3 hw3
           rw [Nat.zero_add] at ho3 ⊢
           have hB3 : Below wL.heap.size wL w3 := grown_below hBx hg3 (Nat.le_refl _) (hBx).size
           refine hK.out _ _ (SS.out _ hB3) (fun _ => ?_)
           clear hK
           have ex3 : w3.heap[wL.heap.size + 1]? = some (.cells #[.int .i64 x0, .int .i64 x1, .int .i64 x2] 38 (0, 0)) := (grown_other hg3 (by show _ < (World.alloc _ _).heap.size; rw [World.size_alloc]; show _ < (wL.alloc _).heap.size + 1; rw [World.size_alloc]; omega) (by omega)).trans (alloc_at' _ (by show _ = (wL.alloc _).heap.size; rw [World.size_alloc]))
           refine wpAnyH_ready (rs := [11]) (by kernel_rfl) (by simp) ?_
           refine AllReadyH.cons rfl (fun K hK => ?_) AllReadyH.nil
           refine stepw_src (by rfl) _ _ 27 (by rfl) wL.heap.size 38 i0 (.agg #[.int .i64 0, .int .i64 0, .int .i64 0]) 3 24 Try.underlying27 hi hz0 hz1 hz2 (by rfl) (by omega) g3 c3 k _ (by rfl) ho3 (some ⟨wL.heap.size + 1, 0, none⟩) 1 1 (encR (x0, x1, x2)) (by rfl) rfl (.inr ⟨_, rfl, encR_at ex3⟩) (encR1 _) (by unfold maxLen; omega) (by omega) (hB3).size ?_
           intro g5 c5 w5 ho5 hg5 hw5
           have hB5 : Below wL.heap.size wL w5 := grown_below hB3 hg5 (World.ownsRow.lt ho3 _ rfl).1 (hB3).size
           refine hK.out _ _ (SS.out _ hB5) (fun _ => ?_)
           clear hK
           refine wpAnyH_ready (rs := [18]) (by kernel_rfl) (by simp) ?_
           refine AllReadyH.cons rfl (fun K hK => ?_) AllReadyH.nil
           refine stepw_src (by rfl) _ _ 27 (by rfl) wL.heap.size 38 i0 (.agg #[.int .i64 0, .int .i64 0, .int .i64 0]) 3 24 Try.underlying27 hi hz0 hz1 hz2 (by rfl) (by omega) g5 c5 (k + 1) _ (by rfl) ho5 (some AD) (n - k) (c - k) (flatR (l.drop k)) (by rfl) HL2.out (hP2.out _ hB5) (flatR_one _) (by unfold maxLen; omega) (by omega) (hB5).size ?_
           intro g6 c6 w6 ho6 hg6 hw6
           have hB6 : Below wL.heap.size wL w6 := grown_below hB5 hg6 (World.ownsRow.lt ho5 _ rfl).1 (hB5).size
           refine hK.out _ _ (SS.out _ hB6) (fun _ => ?_)
           clear hK
           refine wpAnyH_done (by kernel_rfl) ?_ _
           refine phase_tail (by kernel_rfl) ?_
           have POST := Lib.hid (put_post HH.out HB1.out HBL.out HROW.out HINS.out HN.out hkn' hB6 ho6)
           have f6 := F0.out w6 (HBL.out.trans (hB6.mono HBL.out.size))
           have s6 := (SS.out _ hB6).1
           clear hB6 hB5 ho6 ho5 hg6 hg5 hw6 hw5
           simp only [List.drop_succ_cons, List.drop_zero]
           go_wp2_with fail
           go_ret
           exact ⟨rfl, POST.out⟩
       · go_simp
         have hBx : Below wL.heap.size wL (wL.alloc (.cells #[.int .i64 x0, .int .i64 x1, .int .i64 x2] 38)).drew := ((Below.refl _ wL).alloc (Nat.le_refl _) _).drew
         refine hK.out _ _ (SS.out _ hBx) (fun _ => ?_)
         clear hK
         refine wpAnyH_ready (rs := [1]) (by kernel_rfl) (by simp) ?_
         refine AllReadyH.cons rfl (fun K hK => ?_) AllReadyH.nil
         go_simp
         have hBe : Below wL.heap.size wL ((wL.alloc (.cells #[.int .i64 x0, .int .i64 x1, .int .i64 x2] 38)).drew.alloc (.cells #[] 38)) := (hBx).alloc (hBx).size _
         refine hK.out _ _ (SS.out _ hBe) (fun _ => ?_)
         clear hK
         refine wpAnyH_ready (rs := [8]) (by kernel_rfl) (by simp) ?_
         refine AllReadyH.cons rfl (fun K hK => ?_) AllReadyH.nil
         refine stepw_src (by rfl) _ _ 27 (by rfl) wL.heap.size 38 i0 (.agg #[.int .i64 0, .int .i64 0, .int .i64 0]) 3 24 Try.underlying27 hi hz0 hz1 hz2 (by rfl) (by omega) (wL.heap.size + 1) 0 0 _ (by rfl) (own_empty' (by show _ = (wL.alloc _).heap.size; rw [World.size_alloc]) (by omega)) (some ⟨g, 0, none⟩) k c (flatR (l.take k)) (by rfl) HL1.out (hP1.out _ hBe) (flatR_one _) (by unfold maxLen; omega) (by omega) (hBe).size ?_
         intro g3 c3 w3 ho3 hg3 hw3
         rw [Nat.zero_add] at ho3 ⊢
         have hB3 : Below wL.heap.size wL w3 := grown_below hBe hg3 (by omega) (hBe).size
         refine hK.out _ _ (SS.out _ hB3) (fun _ => ?_)
         clear hK
         have ex3 : w3.heap[wL.heap.size]? = some (.cells #[.int .i64 x0, .int .i64 x1, .int .i64 x2] 38 (0, 0)) := (grown_other hg3 (by show _ < (World.alloc _ _).heap.size; rw [World.size_alloc]; show _ < (wL.alloc _).heap.size + 1; rw [World.size_alloc]; omega) (by omega)).trans ((Below.heap_alloc _ _ _ (by show _ < (wL.alloc _).heap.size; rw [World.size_alloc]; omega)).trans (World.alloc_heap_new wL _))
         refine wpAnyH_ready (rs := [11]) (by kernel_rfl) (by simp) ?_
         refine AllReadyH.cons rfl (fun K hK => ?_) AllReadyH.nil
         refine stepw_src (by rfl) _ _ 27 (by rfl) wL.heap.size 38 i0 (.agg #[.int .i64 0, .int .i64 0, .int .i64 0]) 3 24 Try.underlying27 hi hz0 hz1 hz2 (by rfl) (by omega) g3 c3 k _ (by rfl) ho3 (some ⟨wL.heap.size, 0, none⟩) 1 1 (encR (x0, x1, x2)) (by rfl) rfl (.inr ⟨_, rfl, encR_at ex3⟩) (encR1 _) (by unfold maxLen; omega) (by omega) (hB3).size ?_
         intro g5 c5 w5 ho5 hg5 hw5
         have hB5 : Below wL.heap.size wL w5 := grown_below hB3 hg5 (World.ownsRow.lt ho3 _ rfl).1 (hB3).size
         refine hK.out _ _ (SS.out _ hB5) (fun _ => ?_)
         clear hK
         refine wpAnyH_ready (rs := [18]) (by kernel_rfl) (by simp) ?_
         refine AllReadyH.cons rfl (fun K hK => ?_) AllReadyH.nil
         refine stepw_src (by rfl) _ _ 27 (by rfl) wL.heap.size 38 i0 (.agg #[.int .i64 0, .int .i64 0, .int .i64 0]) 3 24 Try.underlying27 hi hz0 hz1 hz2 (by rfl) (by omega) g5 c5 (k + 1) _ (by rfl) ho5 (some AD) (n - k) (c - k) (flatR (l.drop k)) (by rfl) HL2.out (hP2.out _ hB5) (flatR_one _) (by unfold maxLen; omega) (by omega) (hB5).size ?_
         intro g6 c6 w6 ho6 hg6 hw6
         have hB6 : Below wL.heap.size wL w6 := grown_below hB5 hg6 (World.ownsRow.lt ho5 _ rfl).1 (hB5).size
         refine hK.out _ _ (SS.out _ hB6) (fun _ => ?_)
         clear hK
         refine wpAnyH_done (by kernel_rfl) ?_ _
         refine phase_tail (by kernel_rfl) ?_
         have POST := Lib.hid (put_post HH.out HB1.out HBL.out HROW.out HINS.out HN.out hkn' hB6 ho6)
         have f6 := F0.out w6 (HBL.out.trans (hB6.mono HBL.out.size))
         have s6 := (SS.out _ hB6).1
         clear hB6 hB5 ho6 ho5 hg6 hg5 hw6 hw5
         simp only [List.drop_succ_cons, List.drop_zero]
         go_wp2_with fail
         go_ret
         exact ⟨rfl, POST.out⟩
end Go.Proofs.Ytaodkfnbmpbcfaa
