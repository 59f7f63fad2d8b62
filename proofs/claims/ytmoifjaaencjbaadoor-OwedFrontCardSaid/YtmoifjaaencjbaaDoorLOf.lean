/- The walk of OwedFront. -/
import Derived.Test.YtmoifjaaencjbaaDoorZi
import Derived.Test.YtmoifjaaencjbaaDoorZj
namespace Go.Proofs.YtmoifjaaencjbaaDoor
open Go.RowKit Go.Shelf

theorem mem_take_succ {F y : RI} {l : List RI} {k : Nat} (h : l[k]? = some y) : F ∈ l.take (k + 1) ↔ F ∈ l.take k ∨ F = y := by
  obtain ⟨a1, a2⟩ := List.getElem?_eq_some_iff.1 h
  rw [List.take_succ_eq_append_getElem a1, a2]
  simp

set_option maxRecDepth 100000 in
set_option maxHeartbeats 8000000 in
theorem owedFront_c (f0 : Int) (A : Option Addr) (c : Nat) (l : List RI) (w : World) (hr : TRow w A l) (ht : Tab w) :
    Calls Tryd.prog 5 #[.agg #[.int .i64 f0, .slice A l.length c]] w (Ret10 (.bool true) w) := by
  obtain ⟨n, hn⟩ : ∃ n, l.length = n := ⟨_, rfl⟩
  have HB0 := Lib.hid ((Below.refl _ w).alloc (Nat.le_refl _) (.cells #[.int .i64 f0, .slice A n c] 25))
  have HF0 := Lib.hid (show FoAt (w.alloc (.cells #[.int .i64 f0, .slice A n c] 25)) w.heap.size f0 A n c from heap_alloc_new w _)
  have KA := Lib.hid (awake_c (w.alloc (.cells #[.int .i64 f0, .slice A n c] 25)) (ht.below HB0.out (Nat.le_refl _)))
  by_cases h80 : n ≤ 80
  case neg =>
    have hd1 : decide ((80 : Int) < (n : Int)) = true := by simp; omega
    rw [hn]
    clear hr ht hn h80
    go_enter Tryd.func5, Tryd.ntmps5
    go_wp2_with fail
    refine KA.out.mono ?_
    rintro e w1 ⟨rfl, hb⟩
    obtain ⟨u0, u1, -, -⟩ := (show FoAt w1 w.heap.size f0 A n c from BoxAt.next HF0.out hb (Nat.le_refl _)).cells
    have HB1 := Lib.hid (HB0.out.trans (hb.mono HB0.out.size))
    clear hb HB0 HF0 KA
    go_wp2_with fail
    go_ret
    exact ⟨rfl, HB1.out⟩
  have hd1 : decide ((80 : Int) < (n : Int)) = false := by simp; omega
  have hn2 : n ≤ 4611686018427387904 := by omega
  have KF : Hid (∀ W, Below w.heap.size w W → Calls Tryd.prog 12 #[.agg #[.int .i64 f0, .slice A n c]] W (Ret10 (.tuple #[.agg #[.int .i64 (frontV l).1, .int .i64 (frontV l).2.1, .int .i64 (frontV l).2.2], .bool (someL l)]) W)) := Lib.hid (fun W hb => front_c f0 A n c l W hn hn2 (hr.below hb (Nat.le_refl _)))
  have KG : Hid (∀ W, Below w.heap.size w W → Calls Tryd.prog 10 #[.agg #[.int .i64 f0, .slice A n c]] W (Ret10 (.bool (goodV f0 l)) W)) := Lib.hid (fun W hb => good_c f0 A n c l W hn hn2 (hr.below hb (Nat.le_refl _)))
  have HR := Lib.hid hr
  have HN := Lib.hid hn
  rw [hn]
  have HS : Hid (someL l = false → n = 0) := Lib.hid (fun h => by cases l with | nil => exact hn.symm | cons x xs => simp [someL] at h)
  have HM : Hid (someL l = true → frontV l ∈ l) := Lib.hid frontV_mem
  have HBst : Hid (∀ y ∈ l, ¬ ((frontV l).2.2 < y.2.2 ∨ (y.2.2 = (frontV l).2.2 ∧ y.1 < (frontV l).1))) := Lib.hid (fun y hy => frontV_best hy)
  have HGF : Hid (goodV f0 l = true → someL l = true → 0 ≤ (frontV l).2.2) := Lib.hid (fun h h2 => goodV_front h h2)
  generalize frontV l = F at *
  generalize someL l = SM at *
  generalize goodV f0 l = G at *
  obtain ⟨F0, F1, F2⟩ := F
  clear hr ht hn hn2
  go_enter Tryd.func5, Tryd.ntmps5
  go_wp2_with fail
  refine KA.out.mono ?_
  rintro e w1 ⟨rfl, hb⟩
  obtain ⟨u0, u1, -, -⟩ := (show FoAt w1 w.heap.size f0 A n c from BoxAt.next HF0.out hb (Nat.le_refl _)).cells
  have HF1 := Lib.hid (show FoAt w1 w.heap.size f0 A n c from BoxAt.next HF0.out hb (Nat.le_refl _))
  have HB1 := Lib.hid (HB0.out.trans (hb.mono HB0.out.size))
  clear hb HB0 HF0 KA
  go_wp2_with fail
  refine (KF.out _ HB1.out).mono ?_
  rintro e w2 ⟨rfl, hb⟩
  have hF2 : FoAt w2 w.heap.size f0 A n c := BoxAt.next HF1.out hb (Nat.le_refl _)
  have hB2 := HB1.out.trans (hb.mono HB1.out.size)
  have hb3 : Below w2.heap.size w2 (w2.alloc (.cells #[.int .i64 F0, .int .i64 F1, .int .i64 F2] 27)) := (Below.refl _ w2).alloc (Nat.le_refl _) _
  have hF3 : FoAt (w2.alloc (.cells #[.int .i64 F0, .int .i64 F1, .int .i64 F2] 27)) w.heap.size f0 A n c := BoxAt.next hF2 hb3 (Nat.le_refl _)
  have hX3 : ItAt (w2.alloc (.cells #[.int .i64 F0, .int .i64 F1, .int .i64 F2] 27)) w2.heap.size (F0, F1, F2) := heap_alloc_new w2 _
  have HB3 := Lib.hid (hB2.trans (hb3.mono hB2.size))
  have HX3 := Lib.hid hX3
  have HF3 := Lib.hid hF3
  obtain ⟨v0, v1, -, -⟩ := hF3.cells
  clear hb hF2 hB2 hb3 HF1 HB1 KF u0 u1 hX3 hF3
  cases SM
  · have hn0 : ((n : Int) == 0) = true := by have := HS.out rfl; simp; omega
    clear HS HM HGF HBst HX3 HF3
    go_wp2_with fail
    go_ret
    exact ⟨rfl, HB3.out⟩
  · have HM2 := Lib.hid (HM.out rfl)
    have HGF2 : Hid (G = true → 0 ≤ F2) := Lib.hid (fun h => HGF.out h rfl)
    clear HS HM HGF
    go_wp2_with fail
    obtain ⟨w3, hw3⟩ : ∃ w3, w2.alloc (.cells #[.int .i64 F0, .int .i64 F1, .int .i64 F2] 27) = w3 := ⟨_, rfl⟩
    obtain ⟨X, hX⟩ : ∃ X, w2.heap.size = X := ⟨_, rfl⟩
    rw [hw3] at HB3 HX3 HF3 v0 v1 ⊢
    rw [hX] at HX3 ⊢
    clear hw3 hX
    obtain ⟨p0, p1, p2, -, -, -⟩ := HX3.out.cells
    simp only at p0 p1 p2
    go_loopw [5, 6] (fun th i wr => ∃ (k q : Nat) (b : Bool), th = .bool b ∧ i = .int .i64 k ∧ k ≤ n ∧ (b = true ↔ (F0, F1, F2) ∈ l.take k) ∧ wr = w3.drewN q) (fun _ i _ => n - (intOf i).toNat)
    case atStart => exact ⟨0, 0, false, rfl, rfl, Nat.zero_le _, by simp, rfl⟩
    case round =>
      obtain ⟨k, q, b, rfl, rfl, hk, hat, hwr⟩ := hrel
      have HAT := Lib.hid hat
      clear hat
      subst hwr
      by_cases hlt : k < n
      · obtain ⟨y, hx⟩ : ∃ y, l[k]? = some y := ⟨_, List.getElem?_eq_getElem (by rw [HN.out]; exact hlt)⟩
        obtain ⟨ad, rfl, c0, c1, c2⟩ := (HR.out.below HB3.out (Nat.le_refl _)).at hx
        have HBY := Lib.hid (HBst.out y (List.mem_of_getElem? hx))
        have HT := Lib.hid (mem_take_succ (F := (F0, F1, F2)) hx)
        clear hx
        obtain ⟨y0, y1, y2⟩ := y
        simp only at c0 c1 c2
        have hlt' : (k : Int) < (n : Int) := by omega
        have hd2 : decide (F2 < y2) = false := by have := HBY.out; simp at this ⊢; omega
        by_cases h2 : y2 = F2
        · subst h2
          have hd3 : decide (y0 < F0) = false := by have := HBY.out; simp at this ⊢; omega
          go_wp2_with fail
          go_quiet (fail)
          go_wp2_with fail
          cases b
          · by_cases e0 : y0 = F0
            · subst e0
              by_cases e1 : y1 = F1
              · subst e1
                go_quiet (fail)
                go_wp2_with fail
                go_roundw
                case rel => exact ⟨k + 1, _, true, rfl, by go_num, by omega, by rw [HT.out]; simp, rfl⟩
                case measure => simp [intOf]; omega
              · have e1' : (y1 == F1) = false := by simp [e1]
                have HE : Hid (¬ F1 = y1) := Lib.hid (fun h => e1 h.symm)
                clear e1
                go_quiet (fail)
                go_wp2_with fail
                go_roundw
                case rel => exact ⟨k + 1, _, false, rfl, by go_num, by omega, by rw [HT.out, ← HAT.out]; simp [HE.out], rfl⟩
                case measure => simp [intOf]; omega
            · have e0' : (y0 == F0) = false := by simp [e0]
              have HE : Hid (¬ F0 = y0) := Lib.hid (fun h => e0 h.symm)
              clear e0
              go_quiet (fail)
              go_wp2_with fail
              go_roundw
              case rel => exact ⟨k + 1, _, false, rfl, by go_num, by omega, by rw [HT.out, ← HAT.out]; simp [HE.out], rfl⟩
              case measure => simp [intOf]; omega
          · go_quiet (fail)
            go_wp2_with fail
            go_roundw
            case rel => exact ⟨k + 1, _, true, rfl, by go_num, by omega, by rw [HT.out, ← HAT.out]; simp, rfl⟩
            case measure => simp [intOf]; omega
        · have h2' : (y2 == F2) = false := by simp [h2]
          have HE : Hid (¬ F2 = y2) := Lib.hid (fun h => h2 h.symm)
          clear h2
          go_wp2_with fail
          go_quiet (fail)
          go_wp2_with fail
          cases b
          · go_quiet (fail)
            go_wp2_with fail
            go_roundw
            case rel => exact ⟨k + 1, _, false, rfl, by go_num, by omega, by rw [HT.out, ← HAT.out]; simp [HE.out], rfl⟩
            case measure => simp [intOf]; omega
          · go_quiet (fail)
            go_wp2_with fail
            go_roundw
            case rel => exact ⟨k + 1, _, true, rfl, by go_num, by omega, by rw [HT.out, ← HAT.out]; simp, rfl⟩
            case measure => simp [intOf]; omega
      · obtain rfl : k = n := by omega
        obtain rfl : b = true := HAT.out.2 (by rw [List.take_of_length_le (by rw [HN.out]; exact Nat.le_refl _)]; exact HM2.out)
        have hbq : Below w.heap.size w (w3.drewN q) := below_drewN HB3.out q
        have KG1 := Lib.hid (KG.out _ hbq)
        have HBQ := Lib.hid hbq
        have HXQ := Lib.hid (show ItAt (w3.drewN q) X (F0, F1, F2) from HX3.out)
        clear hbq KG HAT HM2 HBst
        go_wp2_with fail
        refine KG1.out.mono ?_
        rintro e w4 ⟨rfl, hb⟩
        obtain ⟨q0, q1, q2, -, -, -⟩ := (show ItAt w4 X (F0, F1, F2) from BoxAt.next HXQ.out hb (Nat.le_refl _)).cells
        simp only at q0 q1 q2
        have HB4 := Lib.hid (HBQ.out.trans (hb.mono HBQ.out.size))
        clear hb KG1
        cases G
        · go_wp2_with fail
          go_ret
          exact ⟨rfl, HB4.out⟩
        · have hF : decide (0 ≤ F2) = true := by simpa using HGF2.out rfl
          go_wp2_with fail
          go_ret
          exact ⟨rfl, HB4.out⟩
end Go.Proofs.YtmoifjaaencjbaaDoor
