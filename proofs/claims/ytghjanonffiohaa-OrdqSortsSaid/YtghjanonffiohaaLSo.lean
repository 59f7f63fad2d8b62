/- OrdqSorts: its walk. -/
import Derived.Test.YtghjanonffiohaaOr
import Derived.BigQuiet
namespace Go.Proofs.Ytghjanonffiohaa
open Go.RowKit

set_option maxRecDepth 100000 in
set_option maxHeartbeats 60000000 in
theorem ordqSorts_c (A : Option Addr) (c : Nat) (l : List Int) (W : World) (hl : l.length ≤ c) (_ : c ≤ maxLen) (hr : IRow .i64 W W.heap.size A l) (hw : ∀ z ∈ l, (Lit.int .i64 z).wf = true) :
    Calls Try.prog 5 #[.slice A l.length c] W fun e w' => e = .returned (.bool true) ∧ Below W.heap.size W w' := by
  obtain ⟨n, hn⟩ : ∃ n, l.length = n := ⟨_, rfl⟩
  have HN := Lib.hid hn
  have HR := Lib.hid hr
  have HW := Lib.hid hw
  rw [hn] at hl ⊢
  clear hn hr hw
  go_enter Try.func5, Try.ntmps5
  go_wp2_with fail
  refine (awake4_c W).mono ?_
  rintro e w1 ⟨rfl, hb1⟩
  have HB1 := Lib.hid hb1
  clear hb1
  by_cases hbig : 200 < n
  · go_wp2_with fail
    go_ret
    exact ⟨rfl, HB1.out⟩
  have hn2 : n ≤ 200 := by omega
  clear hbig
  go_wp2_with fail
  refine (qnew_in W w1 HB1.out 200 (fun _ => False) (fun _ h => h.elim)).mono ?_
  rintro e w2 ⟨rfl, hq, _⟩
  have e4 : clampQ 200 = 200 := by decide
  rw [e4] at hq
  have H2 := Lib.hid hq
  clear hq e4 HB1
  obtain ⟨b, hb⟩ : ∃ b, w1.heap.size + 1 = b := ⟨_, rfl⟩
  rw [hb] at H2 ⊢
  clear hb
  go_wp2_with fail
  go_loopw [4] (fun i wr => ∃ k : Nat, i = .int .i64 k ∧ k ≤ n ∧ Hid (QIn W wr b 200 (k * 21) (qsTo l k) (fun _ => False))) (fun i _ => n - (intOf i).toNat)
  case atStart => exact ⟨0, rfl, Nat.zero_le _, by simpa [qsTo] using H2⟩
  case round =>
    obtain ⟨k, rfl, hk, HK⟩ := hrel
    by_cases hlt : k < n
    · have hkl : k < l.length := by rw [HN.out]; exact hlt
      obtain ⟨ad, rfl, hadb, hcell⟩ := HR.out.at hkl
      have hc := (HK.out.frame.cell (p := ad.add k) (by rw [add_block]; exact hadb)).trans hcell
      have hwk : wf64 l[k] := HW.out _ (List.getElem_mem hkl)
      have hp := putV_qs (l := l) (k := k) (most := 200) (by omega)
      rw [getD_at hkl] at hp
      obtain ⟨x, hx⟩ : ∃ x, x = l[k] := ⟨_, rfl⟩
      rw [← hx] at hc hwk hp
      have KP := Lib.hid (qput_in (x, (k : Int)) HK.out hwk (wf64_nat (by omega)) (by rw [qsTo_length]; omega) (by omega))
      rw [hp] at KP
      clear hp hx hcell hadb hwk
      go_wp2_with fail
      refine (KP.out).mono ?_
      rintro e w3 ⟨rfl, hq, _⟩
      have H3 := Lib.hid hq
      clear hq KP HK
      go_wp2_with fail
      go_roundw
      case rel => exact ⟨k + 1, by go_num, by omega, by have := H3; rwa [show k * 21 + 21 = (k + 1) * 21 by omega] at this⟩
      case measure => simp [intOf]; omega
    · obtain rfl : k = n := by omega
      obtain ⟨L, hL⟩ : ∃ L, qsTo l k = L := ⟨_, rfl⟩
      have HL := Lib.hid hL
      have hLl : L.length = k := by rw [← hL]; exact qsTo_length l k
      rw [hL] at HK
      have HOR := Lib.hid (HK.out.ord.1)
      clear hL H2
      go_wp2_with fail
      refine (qlist_in HK.out (by omega)).mono ?_
      rintro e w4 ⟨v, rfl, hM, hq, hb4⟩
      have hrow : QRow w4 26 v L := base_zero hM
      have hq4 := HK.out.more (G := fun j => v.ownBlock = some j) hb4 (fun j hj => .inr (World.ownsRow.lt hM j hj))
      obtain ⟨Av, cv, rfl, hcv, hcv2⟩ := hrow.form
      rw [hLl] at hrow hq4 hcv ⊢
      unfold maxLen at hcv2
      have H4 : Hid (QIn W w4 b 200 (k * 21 + 0 * 21) (L.drop 0) (fun j => (Value.slice Av k cv).ownBlock = some j)) := Lib.hid (by rw [List.drop_zero, Nat.zero_mul, Nat.add_zero]; exact hq4)
      have HROW := Lib.hid hrow
      clear hM hq hb4 hrow hq4 HK
      go_wp2_with fail
      go_loopw [6] (fun i wr => ∃ q : Nat, i = .int .i64 q ∧ q ≤ k ∧ Hid (QIn W wr b 200 (k * 21 + q * 21) (L.drop q) (fun j => (Value.slice Av k cv).ownBlock = some j)) ∧ Hid (QRow wr 26 (.slice Av k cv) L)) (fun i _ => k - (intOf i).toNat)
      case atStart => exact ⟨0, rfl, Nat.zero_le _, H4, HROW⟩
      case round =>
        obtain ⟨q, rfl, hq, HQ, HV⟩ := hrel
        by_cases hlt2 : q < k
        · have hql : q < L.length := by omega
          obtain ⟨x, hx⟩ : ∃ x, L[q]? = some x := ⟨_, List.getElem?_eq_getElem hql⟩
          have hdrop : L.drop q = x :: L.drop (q + 1) := by
            rw [List.drop_eq_getElem_cons hql]
            congr 1
            rw [List.getElem?_eq_getElem hql] at hx
            injection hx
          have hxm : x ∈ qsTo l k := by rw [HL.out]; exact List.mem_of_getElem? hx
          obtain ⟨j, hj, hxj⟩ := qsTo_mem.1 hxm
          have hjl : j < l.length := by rw [HN.out]; exact hj
          obtain ⟨ad, rfl, hadb, hcell⟩ := HR.out.at hjl
          rw [getD_at hjl] at hxj
          obtain ⟨x0, hx0⟩ : ∃ x0, x0 = l[j] := ⟨_, rfl⟩
          rw [← hx0] at hxj hcell
          subst hxj
          have KM := Lib.hid (qmin_in HQ.out (by rw [List.length_drop]; omega))
          have HQ' := HQ
          rw [hdrop] at HQ' KM
          simp only [minV] at KM
          have HD := Lib.hid hdrop
          have HX := Lib.hid hx
          clear hx0 hdrop hxm hx HQ
          go_wp2_with fail
          refine (KM.out).mono ?_
          rintro e w5 ⟨rfl, hq5, hb5⟩
          have H5 := Lib.hid hq5
          have HB5 := Lib.hid hb5
          clear hq5 hb5 KM HQ'
          go_wp2_with fail
          have hq6 := H5.out.more (w' := w5.alloc (.cells #[.int .i64 x0, .int .i64 j] 26)) (G := fun i => (Value.slice Av k cv).ownBlock = some i ∨ i = w5.heap.size) ((Below.refl _ w5).alloc (Nat.le_refl _) _) (fun i hi => by
            rcases hi with h | h
            · exact .inl h
            · exact .inr (by rw [World.size_alloc]; omega))
          have KD := Lib.hid (qdrop_in (i := 0) (x := (x0, (j : Int))) hq6 (by rfl) (by rw [← HD.out, List.length_drop]; omega) (by omega))
          refine (KD.out).mono ?_
          rintro e w7 ⟨rfl, hq7, hk7⟩
          have hrow7 : QRow w7 26 (.slice Av k cv) L := HV.out.keep (fun g hg => by
            have h1 := HV.out.lt hg
            have h2 := HB5.out.size
            rw [hk7 g (.inl hg), Below.heap_alloc _ _ _ (by omega), HB5.out.block g h1])
          have hbox7 : w7.heap[w5.heap.size]? = some (.cells #[.int .i64 x0, .int .i64 j] 26 (0, 0)) := (hk7 _ (.inr rfl)).trans (World.alloc_heap_new _ _)
          simp only [List.eraseIdx_cons_zero] at hq7
          have hlt7 : w5.heap.size < w7.heap.size := (Array.getElem?_eq_some_iff.1 hbox7).1
          have hq8 : QIn W (w7.alloc (.cells #[.int .i64 x0, .int .i64 j] 26)) b 200 (k * 21 + q * 21 + 21) (L.drop (q + 1)) (fun j => (Value.slice Av k cv).ownBlock = some j) := hq7.more ((Below.refl _ w7).alloc (Nat.le_refl _) _) (fun i hi => .inl (.inl hi))
          obtain ⟨w8, hw8⟩ : ∃ w8, w7.alloc (.cells #[.int .i64 x0, .int .i64 j] 26) = w8 := ⟨_, rfl⟩
          have hb8 : Below w7.heap.size w7 w8 := by rw [← hw8]; exact (Below.refl _ w7).alloc (Nat.le_refl _) _
          rw [hw8] at hq8
          have eb : w8.heap[w7.heap.size]? = some (.cells #[.int .i64 x0, .int .i64 j] 26 (0, 0)) := by rw [← hw8]; exact World.alloc_heap_new _ _
          have ea : w8.heap[w5.heap.size]? = some (.cells #[.int .i64 x0, .int .i64 j] 26 (0, 0)) := (hb8.block _ hlt7).trans hbox7
          have hrow8 : QRow w8 26 (.slice Av k cv) L := hrow7.keep (fun g hg => hb8.block g (hrow7.lt hg))
          have a0 : w8.cell? ⟨w5.heap.size, 0, none⟩ = some (.int .i64 x0) := by simp [World.cell?, ea]
          have a1 : w8.cell? ⟨w5.heap.size, 1, none⟩ = some (.int .i64 j) := by simp [World.cell?, ea]
          have b0 : w8.cell? ⟨w7.heap.size, 0, none⟩ = some (.int .i64 x0) := by simp [World.cell?, eb]
          have b1 : w8.cell? ⟨w7.heap.size, 1, none⟩ = some (.int .i64 j) := by simp [World.cell?, eb]
          have ck := (hq8.frame.cell (p := ad.add j) (by rw [add_block]; exact hadb)).trans hcell
          obtain ⟨g, cg, hv, _, _, d0, d1⟩ := hrow8.get HX.out
          injection hv with hv1 hv2 hv3
          subst hv1 hv3
          simp only at d0 d1
          clear hv2
          have H8 : Hid (QIn W w8 b 200 (k * 21 + (q + 1) * 21) (L.drop (q + 1)) (fun j => (Value.slice (some ⟨g, 0, none⟩) k cv).ownBlock = some j)) := Lib.hid (by rw [show k * 21 + (q + 1) * 21 = k * 21 + q * 21 + 21 by omega]; exact hq8)
          have HR8 := Lib.hid hrow8
          clear hq7 hk7 hq6 KD hrow7 hbox7 hq8 hb8 eb ea hrow8 HV HB5 H5 H4 HROW
          have hj0 : ¬ ((j : Int) < 0) := by omega
          have hjk : ¬ ((k : Int) ≤ (j : Int)) := by omega
          clear hql hjl hcell hadb HR HN HL HW
          go_wp2_with fail
          go_cut [142] (fun v wx => v = .bool false ∧ ∃ nq, wx = w8.drewN nq)
          case rest =>
            obtain ⟨rfl, nq, rfl⟩ := hcut
            clear a0 a1 b0 b1 ck d0 d1
            go_wp2_with fail
            go_roundw
            case rel => exact ⟨q + 1, by go_num, by omega, Lib.hid (H8.out.below (below_drewN (Below.refl _ _) _)), Lib.hid (HR8.out.keep (fun _ _ => rfl))⟩
            case measure => simp [intOf]; omega
          case first =>
            have hjz : decide ((j : Int) < 0) = false := decide_eq_false (by omega)
            have hkj' : decide ((k : Int) ≤ (j : Int)) = false := decide_eq_false (by omega)
            by_cases hq0 : 0 < q
            · obtain ⟨m, hm'⟩ : ∃ m, q = m + 1 := ⟨q - 1, by omega⟩
              have hml : m < L.length := by omega
              obtain ⟨y, hy⟩ : ∃ y, L[m]? = some y := ⟨_, List.getElem?_eq_getElem hml⟩
              obtain ⟨g', cg', hv', _, _, f0, f1⟩ := HR8.out.get hy
              injection hv' with hv1' hv2' hv3'
              injection hv1' with hv1'
              injection hv1' with hv1'
              subst hv1'
              have hord : befQ y (x0, (j : Int)) = true := Ord.get HOR.out hy HX.out (by omega)
              have hqd : decide ((0 : Int) < (q : Int)) = true := decide_eq_true (by omega)
              have hwm : IntKind.i64.wrap ((q : Int) - 1) = (m : Int) := by rw [IntKind.wrap_i64]; omega
              have hmk : (m : Int) < (k : Int) := by omega
              have hqk : (q : Int) < (k : Int) := by omega
              obtain ⟨y0, y1⟩ := y
              simp only at f0 f1
              unfold befQ at hord
              simp at hord
              have hlt0 : decide (x0 < y0) = false := decide_eq_false (by omega)
              clear hv2' hv3' hy hml hm' H8 HR8 HX HOR HD
              by_cases he : y0 = x0
              · subst he
                have he1 : (y0 == y0) = true := by simp
                have he2 : decide ((j : Int) ≤ y1) = false := decide_eq_false (by omega)
                clear hord
                have hkj : decide (k ≤ j) = false := decide_eq_false (by omega)
                clear hl hlt hk hcv2 hcv hLl hw8 hlt7 hq hlt2 hj hn2
                dsimp only [List.append]
                go_big_quiet (fail)
                go_wp2_with fail
                go_meet
                exact ⟨rfl, _, rfl⟩
              · have he1 : (x0 == y0) = false := by simp; omega
                clear hord
                have hkj : decide (k ≤ j) = false := decide_eq_false (by omega)
                clear hl hlt hk hcv2 hcv hLl hw8 hlt7 hq hlt2 hj hn2
                dsimp only [List.append]
                go_big_quiet (fail)
                go_wp2_with fail
                go_meet
                exact ⟨rfl, _, rfl⟩
            · have hqd : decide ((0 : Int) < (q : Int)) = false := decide_eq_false (by omega)
              clear H8 HR8 HX HOR HD
              have hqk : (q : Int) < (k : Int) := by omega
              have hkj : decide (k ≤ j) = false := decide_eq_false (by omega)
              have hqz : decide (0 < q) = false := decide_eq_false hq0
              clear hl hlt hk hcv2 hcv hLl hw8 hlt7 hq hlt2 hj hn2 hq0
              dsimp only [List.append]
              go_big_quiet (fail)
              go_wp2_with fail
              go_meet
              exact ⟨rfl, _, rfl⟩
        · obtain rfl : q = k := by omega
          have hd : L.drop q = [] := List.drop_eq_nil_of_le (by omega)
          rw [hd] at HQ
          go_wp2_with fail
          refine (qlen_in HQ.out).mono ?_
          rintro e w5 ⟨rfl, rfl⟩
          go_wp2_with fail
          go_ret
          exact ⟨rfl, HQ.out.frame⟩
end Go.Proofs.Ytghjanonffiohaa
