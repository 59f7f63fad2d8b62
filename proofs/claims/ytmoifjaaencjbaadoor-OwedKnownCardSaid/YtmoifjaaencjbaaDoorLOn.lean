/- The walk of OwedKnown. -/
import Derived.Test.YtmoifjaaencjbaaDoorZr
import Derived.Test.YtmoifjaaencjbaaDoorSq
import Derived.Deep.CutBlock
import Derived.Deep.DeepCutAuto
import Derived.Deep.DrawnRows
namespace Go.Proofs.YtmoifjaaencjbaaDoor
open Go.RowKit Go.Shelf
attribute [local go_sem ↓] Go.wp_at_zero Go.wp_at_succ

theorem mixedK : Tryd.prog.follows .mixedOrders = true := by kernel_rfl
theorem bad_put {c : Int} {l : List RI} (x : RI) (h : goodV c l = false) : putO c l x = (1, 0, []) := by unfold putO; rw [if_pos h]
theorem bad_drop {c : Int} {l : List RI} (id : Int) (h : goodV c l = false) : dropO c l id = (1, 0, []) := by unfold dropO; rw [if_pos h]

def aL : List RI := [(1, 2, 0), (2, 3, 7), (3, 1, -5)]
def fL : List RI := [(1, 2, 0)]
def hL : List RI := [(3, 1, -5)]
/-- What the last statement reads. -/
def LastR (w wx : World) (v7 v8 v9 v11 v13 v15 v16 v17 v18 v19 v21 v22 v23 v25 v26 v27 v29 : Value) : Prop :=
  ∃ (X7 X8 X16 X18 X22 X26 : Nat) (A8 : Option Addr) (c8 : Nat) (A16 : Option Addr) (c16 : Nat) (A18 : Option Addr) (c18 : Nat),
    v7 = .pointer (some ⟨X7, 0, none⟩) ∧ v8 = .pointer (some ⟨X8, 0, none⟩) ∧ v9 = .int .i64 0 ∧ v11 = .int .i64 4 ∧ v13 = .int .i64 1 ∧ v15 = .int .i64 1 ∧ v16 = .pointer (some ⟨X16, 0, none⟩) ∧ v17 = .int .i64 0 ∧ v18 = .pointer (some ⟨X18, 0, none⟩) ∧ v19 = .int .i64 0 ∧ v21 = .int .i64 2 ∧
    v22 = .pointer (some ⟨X22, 0, none⟩) ∧ v23 = .bool true ∧ v25 = .bool false ∧ v26 = .pointer (some ⟨X26, 0, none⟩) ∧ v27 = .bool true ∧ v29 = .bool false ∧
    Kn w wx [(X7, 25, #[.int .i64 (-1), .slice none 0 0]), (X8, 25, #[.int .i64 3, .slice A8 3 c8]), (X16, 25, #[.int .i64 (-1), .slice A16 1 c16]), (X18, 25, #[.int .i64 3, .slice A18 1 c18]),
      (X22, 27, #[.int .i64 2, .int .i64 3, .int .i64 7]), (X26, 27, #[.int .i64 3, .int .i64 1, .int .i64 (-5)])] [(A8, aL), (A16, fL), (A18, hL)]
theorem pA : putO 3 twoL (2, 3, 7) = (0, 3, aL) := by decide +kernel
theorem pC : putO 3 twoL (3, 3, 0) = (4, 0, []) := by decide +kernel
theorem pD : putO 3 twoL (2, 0, 0) = (1, 0, []) := by decide +kernel
theorem pE : putO (-1) [] (2, 1, -1) = (1, 0, []) := by decide +kernel
theorem dF : dropO 3 twoL 3 = (0, -1, fL) := by decide +kernel
theorem dH : dropO 3 twoL 1 = (0, 3, hL) := by decide +kernel
theorem dJ : dropO 3 twoL 2 = (2, 0, []) := by decide +kernel
theorem fA : frontV aL = (2, 3, 7) := by decide +kernel
theorem fAb : someL aL = true := by decide +kernel
theorem fN : frontV [] = (0, 0, 0) := rfl
theorem fNb : someL [] = false := rfl
theorem n3 : (findV 3 twoL).getD (0, 0, 0) = (3, 1, -5) := by decide +kernel
theorem n3b : (findV 3 twoL).isSome = true := by decide +kernel
theorem n4 : (findV 4 twoL).getD (0, 0, 0) = (0, 0, 0) := by decide +kernel
theorem n4b : (findV 4 twoL).isSome = false := by decide +kernel
theorem gH : goodV 3 hL = false := by decide +kernel
theorem gN : goodV (-1) [] = true := by decide +kernel
theorem qA : sameB 3 3 aL aL = true := by decide +kernel
theorem qT : sameB 3 3 aL twoL = false := by decide +kernel
theorem mA : sumL aL = 16 := by decide +kernel
theorem sum_lit {f0 z : Int} {A : Option Addr} {n c : Nat} {l : List RI} {w : World} (hv : sumL l = z) (hn : l.length = n) (h64 : n ≤ 64) (hr : TRow w A l) (hs : ∀ r ∈ l, -1000 ≤ r.2.2 * r.2.1 ∧ r.2.2 * r.2.1 ≤ 1000) :
    Calls Tryd.prog 15 #[.agg #[.int .i64 f0, .slice A n c]] w (Ret10 (.int .i64 z) w) := by
  have h := sum_c f0 A n c l w hn h64 hr hs
  rw [hv] at h
  exact h
theorem mS : ∀ r ∈ aL, -1000 ≤ r.2.2 * r.2.1 ∧ r.2.2 * r.2.1 ≤ 1000 := by decide +kernel
theorem sA : ∀ r ∈ aL, SmR r := by
  intro r hr
  simp [aL] at hr
  rcases hr with rfl | rfl | rfl <;> (refine ⟨⟨?_, ?_⟩, ⟨?_, ?_⟩, ⟨?_, ?_⟩⟩ <;> decide)
theorem sF : ∀ r ∈ fL, SmR r := by
  intro r hr
  simp [fL] at hr
  subst hr
  refine ⟨⟨?_, ?_⟩, ⟨?_, ?_⟩, ⟨?_, ?_⟩⟩ <;> decide
theorem sH : ∀ r ∈ hL, SmR r := by
  intro r hr
  simp [hL] at hr
  subst hr
  refine ⟨⟨?_, ?_⟩, ⟨?_, ?_⟩, ⟨?_, ?_⟩⟩ <;> decide
theorem digs : Lib.itoa 0 = [48] ∧ Lib.itoa 1 = [49] ∧ Lib.itoa 2 = [50] ∧ Lib.itoa 3 = [51] ∧ Lib.itoa 7 = [55] ∧ Lib.itoa (-5) = [45, 53] ∧ Lib.itoa (-1) = [45, 49] :=
  ⟨itoa_digit (n := 0) (by omega), itoa_digit (n := 1) (by omega), itoa_digit (n := 2) (by omega), itoa_digit (n := 3) (by omega), itoa_digit (n := 7) (by omega), itoa_minus (n := 5) (by omega) (by omega), itoa_minus (n := 1) (by omega) (by omega)⟩
theorem tA : textL 3 aL = [51, 58, 32, 49, 47, 50, 47, 48, 32, 50, 47, 51, 47, 55, 32, 51, 47, 49, 47, 45, 53] := by
  obtain ⟨e0, e1, e2, e3, e7, e5, em⟩ := digs
  simp [textL, itemsT, aL, itemT, e0, e1, e2, e3, e5, e7]
theorem tF : textL (-1) fL = [45, 49, 58, 32, 49, 47, 50, 47, 48] := by
  obtain ⟨e0, e1, e2, e3, e7, e5, em⟩ := digs
  simp [textL, itemsT, fL, itemT, e0, e1, e2, em]
theorem tH : textL 3 hL = [51, 58, 32, 51, 47, 49, 47, 45, 53] := by
  obtain ⟨e0, e1, e2, e3, e7, e5, em⟩ := digs
  simp [textL, itemsT, hL, itemT, e1, e3, e5]
theorem tN : textL (-1) [] = [45, 49, 58] := by
  obtain ⟨e0, e1, e2, e3, e7, e5, em⟩ := digs
  simp [textL, itemsT, em]

set_option maxRecDepth 1000000 in
set_option maxHeartbeats 40000000 in
theorem owedKnown_c (w : World) (ht : Tab w) : Calls Tryd.prog 3 #[] w (Ret10 (.bool true) w) := by
  have HT := Lib.hid ht
  clear ht
  go_enter Tryd.func3, Tryd.ntmps3
  go_wp2_with fail
  refine (awake_c w HT.out).mono ?_
  rintro e w1 ⟨rfl, hb⟩
  have HB1 := Lib.hid hb
  clear hb
  go_upto_region 4 with fail
  obtain ⟨hbad, hbw⟩ := bad_w w1
  generalize (((((((((w1.alloc (.cells #[.int .i64 (-1), .int .i64 1, .int .i64 0] 27)).alloc (.cells #[.int .i64 1073741825, .int .i64 1, .int .i64 0] 27)).alloc (.cells #[.int .i64 1, .int .i64 0, .int .i64 0] 27)).alloc (.cells #[.int .i64 1, .int .i64 21, .int .i64 0] 27)).alloc (.cells #[.int .i64 1, .int .i64 1, .int .i64 (-1)] 27)).alloc (.cells #[.int .i64 1, .int .i64 1, .int .i64 1125899906842625] 27)).alloc (.cells #[.int .i64 2, .int .i64 1, .int .i64 0, .int .i64 1, .int .i64 1, .int .i64 0] 27)).alloc (.cells #[.int .i64 2, .int .i64 1, .int .i64 0, .int .i64 2, .int .i64 1, .int .i64 0] 27)).alloc (.cells #[.int .i64 0, .slice none 0 0, .int .i64 1, .slice none 0 0, .int .i64 (-2), .slice none 0 0, .int .i64 (-1), .slice (some ⟨w1.heap.size, 0, none⟩) 1 1, .int .i64 (-1), .slice (some ⟨w1.heap.size + 1, 0, none⟩) 1 1, .int .i64 (-1), .slice (some ⟨w1.heap.size + 1 + 1, 0, none⟩) 1 1, .int .i64 (-1), .slice (some ⟨w1.heap.size + 1 + 1 + 1, 0, none⟩) 1 1, .int .i64 (-1), .slice (some ⟨w1.heap.size + 1 + 1 + 1 + 1, 0, none⟩) 1 1, .int .i64 (-1), .slice (some ⟨w1.heap.size + 1 + 1 + 1 + 1 + 1, 0, none⟩) 1 1, .int .i64 (-1), .slice (some ⟨w1.heap.size + 1 + 1 + 1 + 1 + 1 + 1, 0, none⟩) 2 2, .int .i64 (-1), .slice (some ⟨w1.heap.size + 1 + 1 + 1 + 1 + 1 + 1 + 1, 0, none⟩) 2 2] 25)) = W2 at *
  generalize w1.heap.size + 1 + 1 + 1 + 1 + 1 + 1 + 1 + 1 = G at *
  have HBAD := Lib.hid hbad
  have HB2 := Lib.hid (HB1.out.trans (hbw.mono HB1.out.size))
  clear hbad hbw HB1
  go_wp2_with fail
  go_loopw [2] (fun i wr => ∃ k : Nat, i = .int .i64 k ∧ k ≤ 11 ∧ Below W2.heap.size W2 wr) (fun i _ => 11 - (intOf i).toNat)
  case atStart => exact ⟨0, rfl, by omega, Below.refl _ _⟩
  case round =>
    obtain ⟨k, rfl, hk, hb⟩ := hrel
    have hbadr := HBAD.out.next hb (Nat.le_refl _)
    by_cases hlt : k < 11
    · have HB3 := Lib.hid hb
      obtain ⟨c, A, n, l, hn, hn2, c0, c1, hr, hz, hG⟩ := hbadr k hlt
      have KP := Lib.hid (put_lit (x0 := 9) (x1 := 1) (x2 := 0) (w := wr) (bad_put (9, 1, 0) hG) rfl hn (Nat.le_refl n) (by omega) hz hr)
      have KD : Hid (∀ W, Below wr.heap.size wr W → Calls Tryd.prog 9 #[.agg #[.int .i64 c, .slice A n n], .int .i64 9] W (FR 0 [] 0 1 W)) := Lib.hid (fun W hb => drop_lit (bad_drop 9 hG) rfl hn (Nat.le_refl n) (by omega) (hr.below hb (Nat.le_refl _)))
      have KG : Hid (∀ W, Below wr.heap.size wr W → Calls Tryd.prog 10 #[.agg #[.int .i64 c, .slice A n n]] W (Ret10 (.bool false) W)) := Lib.hid (fun W hb => good_lit hG hn (by omega) (hr.below hb (Nat.le_refl _)))
      have HC := Lib.hid (And.intro c0 c1)
      have hlt' : (k : Int) < 11 := by omega
      clear hb hbadr hn hn2 hr hz hG
      go_wp2_with fail
      refine KP.out.mono ?_
      rintro e w3 ⟨A3, c3, rfl, hr3, hb3⟩
      have HB4 := Lib.hid (hb3.alloc hb3.size (.cells #[.int .i64 0, .slice A3 0 c3] 25))
      have d0 := (HB4.out.cell (p := ⟨G, k * 2, none⟩) (cell_lt0 HC.out.1)).trans HC.out.1
      have d1 := (HB4.out.cell (p := ⟨G, k * 2 + 1, none⟩) (cell_lt0 HC.out.2)).trans HC.out.2
      clear c0 c1 hr3 hb3 KP
      go_wp2_with fail
      refine (KD.out _ HB4.out).mono ?_
      rintro e w5 ⟨A5, c5, rfl, hr5, hb5⟩
      have hb6 := HB4.out.trans (hb5.mono HB4.out.size)
      have HB6 := Lib.hid (hb6.alloc hb6.size (.cells #[.int .i64 0, .slice A5 0 c5] 25))
      have e0 := (HB6.out.cell (p := ⟨G, k * 2, none⟩) (cell_lt0 HC.out.1)).trans HC.out.1
      have e1 := (HB6.out.cell (p := ⟨G, k * 2 + 1, none⟩) (cell_lt0 HC.out.2)).trans HC.out.2
      clear d0 d1 hr5 hb5 KD hb6
      go_wp2_with fail
      refine (KG.out _ HB6.out).mono ?_
      rintro e w7 ⟨rfl, hb7⟩
      have HB7 := Lib.hid (HB3.out.trans ((HB6.out.trans (hb7.mono HB6.out.size)).mono HB3.out.size))
      clear e0 e1 hb7 KG HC HB4 HB6
      go_wp2_with fail
      go_roundw
      case rel => exact ⟨k + 1, by go_num, by omega, HB7.out⟩
      case measure => simp [intOf]; omega
    · obtain rfl : k = 11 := by omega
      have K0 := Lib.hid (show Kn w wr [] [] from ⟨HB2.out.trans (hb.mono HB2.out.size), fun p hp => by simp at hp, fun r hr => by simp at hr⟩)
      have K := Lib.hid (K0.out.push #[.int .i64 (-1), .slice none 0 0] 25)
      clear hb hbadr hk hlt HBAD HB2 K0
      go_wp2_with fail
      refine (two_c _).mono ?_
      rintro e x1 ⟨g1, rfl, hr, hb⟩
      have K' := Lib.hid ((K.out.step hb).row hr)
      clear K
      have K := K'
      clear K'
      clear hr hb
      go_wp2_with fail
      refine (put_lit (n := 2) (c := 2) pA rfl rfl (by omega) (by omega) (fun e => by cases e) (K.out.rows _ (.head _))).mono ?_
      rintro e x2 ⟨At8, ct8, rfl, hr, hb⟩
      have K' := Lib.hid (((K.out.step hb).row hr).push #[.int .i64 3, .slice At8 3 ct8] 25)
      clear K
      have K := K'
      clear K'
      clear hr hb
      go_wp2_with fail
      refine (two_c _).mono ?_
      rintro e x3 ⟨g3, rfl, hr, hb⟩
      have K' := Lib.hid ((K.out.step hb).row hr)
      clear K
      have K := K'
      clear K'
      clear hr hb
      go_wp2_with fail
      refine (put_lit (n := 2) (c := 2) pC rfl rfl (by omega) (by omega) (fun e => by cases e) (K.out.rows _ (.head _))).mono ?_
      rintro e x4 ⟨At10, ct10, rfl, hr, hb⟩
      have K' := Lib.hid (((K.out.step hb).row hr).push #[.int .i64 0, .slice At10 0 ct10] 25)
      clear K
      have K := K'
      clear K'
      clear hr hb
      go_wp2_with fail
      refine (two_c _).mono ?_
      rintro e x5 ⟨g5, rfl, hr, hb⟩
      have K' := Lib.hid ((K.out.step hb).row hr)
      clear K
      have K := K'
      clear K'
      clear hr hb
      go_wp2_with fail
      refine (put_lit (n := 2) (c := 2) pD rfl rfl (by omega) (by omega) (fun e => by cases e) (K.out.rows _ (.head _))).mono ?_
      rintro e x6 ⟨At12, ct12, rfl, hr, hb⟩
      have K' := Lib.hid (((K.out.step hb).row hr).push #[.int .i64 0, .slice At12 0 ct12] 25)
      clear K
      have K := K'
      clear K'
      clear hr hb
      obtain ⟨at7, bt7⟩ := K.out.form (b := wr.heap.size) (.tail _ (.tail _ (.tail _ (.head _))))
      go_wp2_with fail
      refine (put_lit (n := 0) (c := 0) pE rfl rfl (by omega) (by omega) (fun _ => rfl) TRow.nil).mono ?_
      rintro e x7 ⟨At14, ct14, rfl, hr, hb⟩
      clear at7 bt7
      have K' := Lib.hid (((K.out.step hb).row hr).push #[.int .i64 0, .slice At14 0 ct14] 25)
      clear K
      have K := K'
      clear K'
      clear hr hb
      go_wp2_with fail
      refine (two_c _).mono ?_
      rintro e x8 ⟨g8, rfl, hr, hb⟩
      have K' := Lib.hid ((K.out.step hb).row hr)
      clear K
      have K := K'
      clear K'
      clear hr hb
      go_wp2_with fail
      refine (drop_lit (n := 2) (c := 2) dF rfl rfl (by omega) (by omega) (K.out.rows _ (.head _))).mono ?_
      rintro e x9 ⟨At16, ct16, rfl, hr, hb⟩
      have K' := Lib.hid (((K.out.step hb).row hr).push #[.int .i64 (-1), .slice At16 1 ct16] 25)
      clear K
      have K := K'
      clear K'
      clear hr hb
      go_wp2_with fail
      refine (two_c _).mono ?_
      rintro e x10 ⟨g10, rfl, hr, hb⟩
      have K' := Lib.hid ((K.out.step hb).row hr)
      clear K
      have K := K'
      clear K'
      clear hr hb
      go_wp2_with fail
      refine (drop_lit (n := 2) (c := 2) dH rfl rfl (by omega) (by omega) (K.out.rows _ (.head _))).mono ?_
      rintro e x11 ⟨At18, ct18, rfl, hr, hb⟩
      have K' := Lib.hid (((K.out.step hb).row hr).push #[.int .i64 3, .slice At18 1 ct18] 25)
      clear K
      have K := K'
      clear K'
      clear hr hb
      go_wp2_with fail
      refine (two_c _).mono ?_
      rintro e x12 ⟨g12, rfl, hr, hb⟩
      have K' := Lib.hid ((K.out.step hb).row hr)
      clear K
      have K := K'
      clear K'
      clear hr hb
      go_wp2_with fail
      refine (drop_lit (n := 2) (c := 2) dJ rfl rfl (by omega) (by omega) (K.out.rows _ (.head _))).mono ?_
      rintro e x13 ⟨At20, ct20, rfl, hr, hb⟩
      have K' := Lib.hid (((K.out.step hb).row hr).push #[.int .i64 0, .slice At20 0 ct20] 25)
      clear K
      have K := K'
      clear K'
      clear hr hb
      obtain ⟨at8, bt8⟩ := K.out.form (b := x2.heap.size) (.tail _ (.tail _ (.tail _ (.tail _ (.tail _ (.tail _ (.head _)))))))
      go_wp2_with fail
      refine (front_lit (n := 3) fA fAb rfl (by omega) (K.out.rows _ (.tail _ (.tail _ (.tail _ (.tail _ (.tail _ (.tail _ (.tail _ (.tail _ (.tail _ (.tail _ (.tail _ (.head _)))))))))))))).mono ?_
      rintro e x14 ⟨rfl, hb⟩
      clear at8 bt8
      have K' := Lib.hid ((K.out.step hb).push #[.int .i64 2, .int .i64 3, .int .i64 7] 27)
      clear K
      have K := K'
      clear K'
      clear hb
      obtain ⟨at7, bt7⟩ := K.out.form (b := wr.heap.size) (.tail _ (.tail _ (.tail _ (.tail _ (.tail _ (.tail _ (.tail _ (.tail _ (.head _)))))))))
      go_wp2_with fail
      refine (front_lit (n := 0) fN fNb rfl (by omega) TRow.nil).mono ?_
      rintro e x15 ⟨rfl, hb⟩
      clear at7 bt7
      have K' := Lib.hid ((K.out.step hb).push #[.int .i64 0, .int .i64 0, .int .i64 0] 27)
      clear K
      have K := K'
      clear K'
      clear hb
      go_wp2_with fail
      refine (two_c _).mono ?_
      rintro e x16 ⟨g16, rfl, hr, hb⟩
      have K' := Lib.hid ((K.out.step hb).row hr)
      clear K
      have K := K'
      clear K'
      clear hr hb
      go_wp2_with fail
      refine (find_lit (n := 2) n3 n3b rfl (by omega) (K.out.rows _ (.head _))).mono ?_
      rintro e x17 ⟨rfl, hb⟩
      have K' := Lib.hid ((K.out.step hb).push #[.int .i64 3, .int .i64 1, .int .i64 (-5)] 27)
      clear K
      have K := K'
      clear K'
      clear hb
      go_upto_region 22 with fail
      go_cut [7, 8, 9, 11, 13, 15, 16, 17, 18, 19, 21, 22, 23, 25, 26, 27, 29] (fun v7 v8 v9 v11 v13 v15 v16 v17 v18 v19 v21 v22 v23 v25 v26 v27 v29 wx => LastR w wx v7 v8 v9 v11 v13 v15 v16 v17 v18 v19 v21 v22 v23 v25 v26 v27 v29)
      case first => as_aux_lemma =>
        go_wp2_with fail
        refine (two_c _).mono ?_
        rintro e x18 ⟨g18, rfl, hr, hb⟩
        have K' := Lib.hid ((K.out.step hb).row hr)
        clear K
        have K := K'
        clear K'
        clear hr hb
        go_wp2_with fail
        refine (find_lit (n := 2) n4 n4b rfl (by omega) (K.out.rows _ (.head _))).mono ?_
        rintro e x19 ⟨rfl, hb⟩
        have K' := Lib.hid ((K.out.step hb).push #[.int .i64 0, .int .i64 0, .int .i64 0] 27)
        clear K
        have K := K'
        clear K'
        clear hb
        go_wp2_with fail
        go_meet
        exact ⟨_, _, _, _, _, _, _, _, _, _, _, _, rfl, rfl, rfl, rfl, rfl, rfl, rfl, rfl, rfl, rfl, rfl, rfl, rfl, rfl, rfl, rfl, rfl, ⟨K.out.fr, fun p hp => by
            simp only [List.mem_cons, List.not_mem_nil, or_false] at hp
            rcases hp with rfl | rfl | rfl | rfl | rfl | rfl
            · exact K.out.bx _ (.tail _ (.tail _ (.tail _ (.tail _ (.tail _ (.tail _ (.tail _ (.tail _ (.tail _ (.tail _ (.tail _ (.head _))))))))))))
            · exact K.out.bx _ (.tail _ (.tail _ (.tail _ (.tail _ (.tail _ (.tail _ (.tail _ (.tail _ (.tail _ (.tail _ (.head _)))))))))))
            · exact K.out.bx _ (.tail _ (.tail _ (.tail _ (.tail _ (.tail _ (.tail _ (.head _)))))))
            · exact K.out.bx _ (.tail _ (.tail _ (.tail _ (.tail _ (.tail _ (.head _))))))
            · exact K.out.bx _ (.tail _ (.tail _ (.tail _ (.head _))))
            · exact K.out.bx _ (.tail _ (.head _)), fun r hr => by
            simp only [List.mem_cons, List.not_mem_nil, or_false] at hr
            rcases hr with rfl | rfl | rfl
            · exact K.out.rows _ (.tail _ (.tail _ (.tail _ (.tail _ (.tail _ (.tail _ (.tail _ (.tail _ (.tail _ (.tail _ (.tail _ (.tail _ (.tail _ (.head _))))))))))))))
            · exact K.out.rows _ (.tail _ (.tail _ (.tail _ (.tail _ (.tail _ (.tail _ (.head _)))))))
            · exact K.out.rows _ (.tail _ (.tail _ (.tail _ (.tail _ (.head _)))))⟩⟩
      case rest => as_aux_lemma =>
        obtain ⟨X7, X8, X16, X18, X22, X26, At8, ct8, At16, ct16, At18, ct18, rfl, rfl, rfl, rfl, rfl, rfl, rfl, rfl, rfl, rfl, rfl, rfl, rfl, rfl, rfl, rfl, rfl, hK⟩ := hcut
        generalize wc = xs at *
        have K := Lib.hid hK
        clear hK
        have HSA : Hid (∀ W', Below xs.heap.size xs W' → W'.cell? ⟨X8, 0, none⟩ = some (.int .i64 3) ∧ W'.cell? ⟨X8, 1, none⟩ = some (.slice At8 3 ct8) ∧ W'.cell? ⟨X16, 0, none⟩ = some (.int .i64 (-1)) ∧ W'.cell? ⟨X16, 1, none⟩ = some (.slice At16 1 ct16) ∧ W'.cell? ⟨X18, 0, none⟩ = some (.int .i64 3) ∧ W'.cell? ⟨X18, 1, none⟩ = some (.slice At18 1 ct18) ∧ W'.cell? ⟨X7, 0, none⟩ = some (.int .i64 (-1)) ∧ W'.cell? ⟨X7, 1, none⟩ = some (.slice none 0 0) ∧ W'.cell? ⟨X22, 0, none⟩ = some (.int .i64 2) ∧ W'.cell? ⟨X26, 2, none⟩ = some (.int .i64 (-5))) := Lib.hid (fun W' hb => by
          have K' := K.out.step hb
          obtain ⟨at8, bt8⟩ := K'.form (b := X8) (.tail _ (.head _))
          obtain ⟨at16, bt16⟩ := K'.form (b := X16) (.tail _ (.tail _ (.head _)))
          obtain ⟨at18, bt18⟩ := K'.form (b := X18) (.tail _ (.tail _ (.tail _ (.head _))))
          obtain ⟨at7, bt7⟩ := K'.form (b := X7) (.head _)
          obtain ⟨at22, bt22, ct22⟩ := K'.item (b := X22) (.tail _ (.tail _ (.tail _ (.tail _ (.head _)))))
          obtain ⟨at26, bt26, ct26⟩ := K'.item (b := X26) (.tail _ (.tail _ (.tail _ (.tail _ (.tail _ (.head _))))))
          exact ⟨at8, bt8, at16, bt16, at18, bt18, at7, bt7, at22, ct26⟩)
        have kT8 : Hid (∀ W', Hid (Below xs.heap.size xs W') → Calls Tryd.prog 14 #[.agg #[.int .i64 3, .slice At8 3 ct8]] W' fun e w'' => e = .returned (.string ⟨[51, 58, 32, 49, 47, 50, 47, 48, 32, 50, 47, 51, 47, 55, 32, 51, 47, 49, 47, 45, 53].toArray⟩) ∧ Below xs.heap.size xs w'') := Lib.hid (fun W' hb => (text_lit (n := 3) tA rfl (by omega) ((K.out.step hb.out).rows _ (.head _)) (HT.out.below (K.out.step hb.out).fr (Nat.le_refl _)) ⟨by decide, by decide⟩ sA).mono fun e w'' h => ⟨h.1, hb.out.trans (h.2.mono hb.out.size)⟩)
        have kT16 : Hid (∀ W', Hid (Below xs.heap.size xs W') → Calls Tryd.prog 14 #[.agg #[.int .i64 (-1), .slice At16 1 ct16]] W' fun e w'' => e = .returned (.string ⟨[45, 49, 58, 32, 49, 47, 50, 47, 48].toArray⟩) ∧ Below xs.heap.size xs w'') := Lib.hid (fun W' hb => (text_lit (n := 1) tF rfl (by omega) ((K.out.step hb.out).rows _ (.tail _ (.head _))) (HT.out.below (K.out.step hb.out).fr (Nat.le_refl _)) ⟨by decide, by decide⟩ sF).mono fun e w'' h => ⟨h.1, hb.out.trans (h.2.mono hb.out.size)⟩)
        have kT18 : Hid (∀ W', Hid (Below xs.heap.size xs W') → Calls Tryd.prog 14 #[.agg #[.int .i64 3, .slice At18 1 ct18]] W' fun e w'' => e = .returned (.string ⟨[51, 58, 32, 51, 47, 49, 47, 45, 53].toArray⟩) ∧ Below xs.heap.size xs w'') := Lib.hid (fun W' hb => (text_lit (n := 1) tH rfl (by omega) ((K.out.step hb.out).rows _ (.tail _ (.tail _ (.head _)))) (HT.out.below (K.out.step hb.out).fr (Nat.le_refl _)) ⟨by decide, by decide⟩ sH).mono fun e w'' h => ⟨h.1, hb.out.trans (h.2.mono hb.out.size)⟩)
        have kG18 : Hid (∀ W', Hid (Below xs.heap.size xs W') → Calls Tryd.prog 10 #[.agg #[.int .i64 3, .slice At18 1 ct18]] W' fun e w'' => e = .returned (.bool false) ∧ Below xs.heap.size xs w'') := Lib.hid (fun W' hb => (good_lit (n := 1) gH rfl (by omega) ((K.out.step hb.out).rows _ (.tail _ (.tail _ (.head _))))).mono fun e w'' h => ⟨h.1, hb.out.trans (h.2.mono hb.out.size)⟩)
        have kS8 : Hid (∀ W', Hid (Below xs.heap.size xs W') → Calls Tryd.prog 15 #[.agg #[.int .i64 3, .slice At8 3 ct8]] W' fun e w'' => e = .returned (.int .i64 16) ∧ Below xs.heap.size xs w'') := Lib.hid (fun W' hb => (sum_lit (n := 3) mA rfl (by omega) ((K.out.step hb.out).rows _ (.head _)) mS).mono fun e w'' h => ⟨h.1, hb.out.trans (h.2.mono hb.out.size)⟩)
        have kG7 : Hid (∀ W', Hid (Below xs.heap.size xs W') → Calls Tryd.prog 10 #[.agg #[.int .i64 (-1), .slice none 0 0]] W' fun e w'' => e = .returned (.bool true) ∧ Below xs.heap.size xs w'') := Lib.hid (fun W' hb => (good_lit (n := 0) gN rfl (by omega) TRow.nil).mono fun e w'' h => ⟨h.1, hb.out.trans (h.2.mono hb.out.size)⟩)
        have kT7 : Hid (∀ W', Hid (Below xs.heap.size xs W') → Calls Tryd.prog 14 #[.agg #[.int .i64 (-1), .slice none 0 0]] W' fun e w'' => e = .returned (.string ⟨[45, 49, 58].toArray⟩) ∧ Below xs.heap.size xs w'') := Lib.hid (fun W' hb => (text_lit (n := 0) tN rfl (by omega) TRow.nil (HT.out.below (K.out.step hb.out).fr (Nat.le_refl _)) ⟨by decide, by decide⟩ (fun r hr => by simp at hr)).mono fun e w'' h => ⟨h.1, hb.out.trans (h.2.mono hb.out.size)⟩)
        have kQ8 : Hid (∀ W', Hid (Below xs.heap.size xs W') → Calls Tryd.prog 16 #[.agg #[.int .i64 3, .slice At8 3 ct8], .agg #[.int .i64 3, .slice At8 3 ct8]] W' fun e w'' => e = .returned (.bool true) ∧ Below xs.heap.size xs w'') := Lib.hid (fun W' hb => (same_lit (n := 3) (n' := 3) qA rfl rfl (by omega) ((K.out.step hb.out).rows _ (.head _)) ((K.out.step hb.out).rows _ (.head _))).mono fun e w'' h => ⟨h.1, hb.out.trans (h.2.mono hb.out.size)⟩)
        have kQ9 : Hid (∀ W' g, Hid (Below xs.heap.size xs W') → Hid (TRow W' (some ⟨g, 0, none⟩) twoL) → Calls Tryd.prog 16 #[.agg #[.int .i64 3, .slice At8 3 ct8], .agg #[.int .i64 3, .slice (some ⟨g, 0, none⟩) 2 2]] W' fun e w'' => e = .returned (.bool false) ∧ Below xs.heap.size xs w'') := Lib.hid (fun W' g hb hr => (same_lit (n := 3) (n' := 2) qT rfl rfl (by omega) ((K.out.step hb.out).rows _ (.head _)) hr.out).mono fun e w'' h => ⟨h.1, hb.out.trans (h.2.mono hb.out.size)⟩)
        have HBd := Lib.hid (Below.refl xs.heap.size xs).drew
        have HFR := Lib.hid K.out.fr
        clear K
        go_wp2_with fail
        try dsimp only [List.append]
        refine wp_region_pre 85 11 mixedK (by kernel_rfl) ?_
        simp only [List.take_succ_cons, List.take_zero]
        change wpList _ _ _ _ _ xs.drew
        obtain ⟨at8, bt8, at16, bt16, at18, bt18, at7, bt7, at22, ct26⟩ := HSA.out _ HBd.out
        go_wp2_with fail
        refine (kT8.out _ HBd).mono ?_
        rintro e y1 ⟨rfl, hb⟩
        have HQ1 := Lib.hid hb
        clear hb at8 bt8 at16 bt16 at18 bt18 at7 bt7 at22 ct26 kT8 HBd
        obtain ⟨at8, bt8, at16, bt16, at18, bt18, at7, bt7, at22, ct26⟩ := HSA.out _ HQ1.out
        go_wp2_with fail
        refine (kT16.out _ HQ1).mono ?_
        rintro e y2 ⟨rfl, hb⟩
        have HQ2 := Lib.hid hb
        clear hb at8 bt8 at16 bt16 at18 bt18 at7 bt7 at22 ct26 kT16 HQ1
        obtain ⟨at8, bt8, at16, bt16, at18, bt18, at7, bt7, at22, ct26⟩ := HSA.out _ HQ2.out
        go_wp2_with fail
        refine (kT18.out _ HQ2).mono ?_
        rintro e y3 ⟨rfl, hb⟩
        have HQ3 := Lib.hid hb
        clear hb at8 bt8 at16 bt16 at18 bt18 at7 bt7 at22 ct26 kT18 HQ2
        obtain ⟨at8, bt8, at16, bt16, at18, bt18, at7, bt7, at22, ct26⟩ := HSA.out _ HQ3.out
        go_wp2_with fail
        refine (kG18.out _ HQ3).mono ?_
        rintro e y4 ⟨rfl, hb⟩
        have HQ4 := Lib.hid hb
        clear hb at8 bt8 at16 bt16 at18 bt18 at7 bt7 at22 ct26 kG18 HQ3
        obtain ⟨at8, bt8, at16, bt16, at18, bt18, at7, bt7, at22, ct26⟩ := HSA.out _ HQ4.out
        go_wp2_with fail
        refine (kS8.out _ HQ4).mono ?_
        rintro e y5 ⟨rfl, hb⟩
        have HQ5 := Lib.hid hb
        clear hb at8 bt8 at16 bt16 at18 bt18 at7 bt7 at22 ct26 kS8 HQ4
        obtain ⟨at8, bt8, at16, bt16, at18, bt18, at7, bt7, at22, ct26⟩ := HSA.out _ HQ5.out
        go_wp2_with fail
        refine (kG7.out _ HQ5).mono ?_
        rintro e y6 ⟨rfl, hb⟩
        have HQ6 := Lib.hid hb
        clear hb at8 bt8 at16 bt16 at18 bt18 at7 bt7 at22 ct26 kG7 HQ5
        obtain ⟨at8, bt8, at16, bt16, at18, bt18, at7, bt7, at22, ct26⟩ := HSA.out _ HQ6.out
        go_wp2_with fail
        refine (kT7.out _ HQ6).mono ?_
        rintro e y7 ⟨rfl, hb⟩
        have HQ7 := Lib.hid hb
        clear hb at8 bt8 at16 bt16 at18 bt18 at7 bt7 at22 ct26 kT7 HQ6
        obtain ⟨at8, bt8, at16, bt16, at18, bt18, at7, bt7, at22, ct26⟩ := HSA.out _ HQ7.out
        go_wp2_with fail
        change wpAny _ _ _ _ _ _ _ _
        refine wpAny_ready (rs := [85, 86]) (by kernel_rfl) (by simp) (AllReady.cons rfl (fun K hK => ?_) (AllReady.cons rfl (fun K hK => ?_) AllReady.nil))
        · go_simp
          refine hK _ _ ?_
          clear hK K
          refine wpAny_ready (rs := [86]) (by kernel_rfl) (by simp) (AllReady.cons rfl (fun K hK => ?_) AllReady.nil)
          go_simp
          refine hK _ _ ?_
          clear hK K
          refine wpAny_ready (rs := [87]) (by kernel_rfl) (by simp) (AllReady.cons rfl (fun K hK => ?_) AllReady.nil)
          go_simp
          refine (kQ8.out _ HQ7).mono ?_
          rintro e z1 ⟨rfl, hb⟩
          have HZ1 := Lib.hid hb
          refine hK _ _ ?_
          clear hK K hb at8 bt8 at16 bt16 at18 bt18 at7 bt7 at22 ct26 kQ8
          obtain ⟨at8, bt8, at16, bt16, at18, bt18, at7, bt7, at22, ct26⟩ := HSA.out _ HZ1.out
          refine wpAny_ready (rs := [88]) (by kernel_rfl) (by simp) (AllReady.cons rfl (fun K hK => ?_) AllReady.nil)
          go_simp
          refine hK _ _ ?_
          clear hK K
          refine wpAny_ready (rs := [89]) (by kernel_rfl) (by simp) (AllReady.cons rfl (fun K hK => ?_) AllReady.nil)
          go_simp
          refine hK _ _ ?_
          clear hK K
          refine wpAny_ready (rs := [90, 91]) (by kernel_rfl) (by simp) (AllReady.cons rfl (fun K hK => ?_) (AllReady.cons rfl (fun K hK => ?_) AllReady.nil))
          · go_simp
            refine hK _ _ ?_
            clear hK K
            refine wpAny_ready (rs := [91]) (by kernel_rfl) (by simp) (AllReady.cons rfl (fun K hK => ?_) AllReady.nil)
            go_simp
            refine (two_c _).mono ?_
            rintro e z2 ⟨g, rfl, hr, hb⟩
            have HRq := Lib.hid hr
            have HZ2 := Lib.hid (HZ1.out.trans (hb.mono HZ1.out.size))
            refine hK _ _ ?_
            clear hK K hr hb at8 bt8 at16 bt16 at18 bt18 at7 bt7 at22 ct26
            refine wpAny_ready (rs := [92]) (by kernel_rfl) (by simp) (AllReady.cons rfl (fun K hK => ?_) AllReady.nil)
            go_simp
            refine (kQ9.out _ _ HZ2 HRq).mono ?_
            rintro e z3 ⟨rfl, hb⟩
            have HZ3 := Lib.hid hb
            refine hK _ _ ?_
            clear hK K hb
            refine wpAny_ready (rs := [93]) (by kernel_rfl) (by simp) (AllReady.cons rfl (fun K hK => ?_) AllReady.nil)
            go_simp
            refine hK _ _ ?_
            clear hK K
            refine wpAny_ready (rs := [94]) (by kernel_rfl) (by simp) (AllReady.cons rfl (fun K hK => ?_) AllReady.nil)
            go_simp
            refine hK _ _ ?_
            clear hK K
            refine wpAny_ready (rs := [95]) (by kernel_rfl) (by simp) (AllReady.cons rfl (fun K hK => ?_) AllReady.nil)
            go_simp
            refine hK _ _ ?_
            clear hK K
            refine wpAny_done (by kernel_rfl) ?_ _
            go_wp2_with fail
            go_ret
            exact ⟨rfl, HFR.out.trans (HZ3.out.mono HFR.out.size)⟩
          · go_simp
            refine (two_c _).mono ?_
            rintro e z2 ⟨g, rfl, hr, hb⟩
            have HRq := Lib.hid hr
            have HZ2 := Lib.hid (HZ1.out.trans (hb.mono HZ1.out.size))
            refine hK _ _ ?_
            clear hK K hr hb at8 bt8 at16 bt16 at18 bt18 at7 bt7 at22 ct26
            obtain ⟨at8, bt8, at16, bt16, at18, bt18, at7, bt7, at22, ct26⟩ := HSA.out _ HZ2.out
            refine wpAny_ready (rs := [90]) (by kernel_rfl) (by simp) (AllReady.cons rfl (fun K hK => ?_) AllReady.nil)
            go_simp
            refine hK _ _ ?_
            clear hK K
            clear at8 bt8 at16 bt16 at18 bt18 at7 bt7 at22 ct26
            refine wpAny_ready (rs := [92]) (by kernel_rfl) (by simp) (AllReady.cons rfl (fun K hK => ?_) AllReady.nil)
            go_simp
            refine (kQ9.out _ _ HZ2 HRq).mono ?_
            rintro e z3 ⟨rfl, hb⟩
            have HZ3 := Lib.hid hb
            refine hK _ _ ?_
            clear hK K hb
            refine wpAny_ready (rs := [93]) (by kernel_rfl) (by simp) (AllReady.cons rfl (fun K hK => ?_) AllReady.nil)
            go_simp
            refine hK _ _ ?_
            clear hK K
            refine wpAny_ready (rs := [94]) (by kernel_rfl) (by simp) (AllReady.cons rfl (fun K hK => ?_) AllReady.nil)
            go_simp
            refine hK _ _ ?_
            clear hK K
            refine wpAny_ready (rs := [95]) (by kernel_rfl) (by simp) (AllReady.cons rfl (fun K hK => ?_) AllReady.nil)
            go_simp
            refine hK _ _ ?_
            clear hK K
            refine wpAny_done (by kernel_rfl) ?_ _
            go_wp2_with fail
            go_ret
            exact ⟨rfl, HFR.out.trans (HZ3.out.mono HFR.out.size)⟩
        · go_simp
          refine hK _ _ ?_
          clear hK K
          refine wpAny_ready (rs := [85]) (by kernel_rfl) (by simp) (AllReady.cons rfl (fun K hK => ?_) AllReady.nil)
          go_simp
          refine hK _ _ ?_
          clear hK K
          refine wpAny_ready (rs := [87]) (by kernel_rfl) (by simp) (AllReady.cons rfl (fun K hK => ?_) AllReady.nil)
          go_simp
          refine (kQ8.out _ HQ7).mono ?_
          rintro e z1 ⟨rfl, hb⟩
          have HZ1 := Lib.hid hb
          refine hK _ _ ?_
          clear hK K hb at8 bt8 at16 bt16 at18 bt18 at7 bt7 at22 ct26 kQ8
          obtain ⟨at8, bt8, at16, bt16, at18, bt18, at7, bt7, at22, ct26⟩ := HSA.out _ HZ1.out
          refine wpAny_ready (rs := [88]) (by kernel_rfl) (by simp) (AllReady.cons rfl (fun K hK => ?_) AllReady.nil)
          go_simp
          refine hK _ _ ?_
          clear hK K
          refine wpAny_ready (rs := [89]) (by kernel_rfl) (by simp) (AllReady.cons rfl (fun K hK => ?_) AllReady.nil)
          go_simp
          refine hK _ _ ?_
          clear hK K
          refine wpAny_ready (rs := [90, 91]) (by kernel_rfl) (by simp) (AllReady.cons rfl (fun K hK => ?_) (AllReady.cons rfl (fun K hK => ?_) AllReady.nil))
          · go_simp
            refine hK _ _ ?_
            clear hK K
            refine wpAny_ready (rs := [91]) (by kernel_rfl) (by simp) (AllReady.cons rfl (fun K hK => ?_) AllReady.nil)
            go_simp
            refine (two_c _).mono ?_
            rintro e z2 ⟨g, rfl, hr, hb⟩
            have HRq := Lib.hid hr
            have HZ2 := Lib.hid (HZ1.out.trans (hb.mono HZ1.out.size))
            refine hK _ _ ?_
            clear hK K hr hb at8 bt8 at16 bt16 at18 bt18 at7 bt7 at22 ct26
            refine wpAny_ready (rs := [92]) (by kernel_rfl) (by simp) (AllReady.cons rfl (fun K hK => ?_) AllReady.nil)
            go_simp
            refine (kQ9.out _ _ HZ2 HRq).mono ?_
            rintro e z3 ⟨rfl, hb⟩
            have HZ3 := Lib.hid hb
            refine hK _ _ ?_
            clear hK K hb
            refine wpAny_ready (rs := [93]) (by kernel_rfl) (by simp) (AllReady.cons rfl (fun K hK => ?_) AllReady.nil)
            go_simp
            refine hK _ _ ?_
            clear hK K
            refine wpAny_ready (rs := [94]) (by kernel_rfl) (by simp) (AllReady.cons rfl (fun K hK => ?_) AllReady.nil)
            go_simp
            refine hK _ _ ?_
            clear hK K
            refine wpAny_ready (rs := [95]) (by kernel_rfl) (by simp) (AllReady.cons rfl (fun K hK => ?_) AllReady.nil)
            go_simp
            refine hK _ _ ?_
            clear hK K
            refine wpAny_done (by kernel_rfl) ?_ _
            go_wp2_with fail
            go_ret
            exact ⟨rfl, HFR.out.trans (HZ3.out.mono HFR.out.size)⟩
          · go_simp
            refine (two_c _).mono ?_
            rintro e z2 ⟨g, rfl, hr, hb⟩
            have HRq := Lib.hid hr
            have HZ2 := Lib.hid (HZ1.out.trans (hb.mono HZ1.out.size))
            refine hK _ _ ?_
            clear hK K hr hb at8 bt8 at16 bt16 at18 bt18 at7 bt7 at22 ct26
            obtain ⟨at8, bt8, at16, bt16, at18, bt18, at7, bt7, at22, ct26⟩ := HSA.out _ HZ2.out
            refine wpAny_ready (rs := [90]) (by kernel_rfl) (by simp) (AllReady.cons rfl (fun K hK => ?_) AllReady.nil)
            go_simp
            refine hK _ _ ?_
            clear hK K
            clear at8 bt8 at16 bt16 at18 bt18 at7 bt7 at22 ct26
            refine wpAny_ready (rs := [92]) (by kernel_rfl) (by simp) (AllReady.cons rfl (fun K hK => ?_) AllReady.nil)
            go_simp
            refine (kQ9.out _ _ HZ2 HRq).mono ?_
            rintro e z3 ⟨rfl, hb⟩
            have HZ3 := Lib.hid hb
            refine hK _ _ ?_
            clear hK K hb
            refine wpAny_ready (rs := [93]) (by kernel_rfl) (by simp) (AllReady.cons rfl (fun K hK => ?_) AllReady.nil)
            go_simp
            refine hK _ _ ?_
            clear hK K
            refine wpAny_ready (rs := [94]) (by kernel_rfl) (by simp) (AllReady.cons rfl (fun K hK => ?_) AllReady.nil)
            go_simp
            refine hK _ _ ?_
            clear hK K
            refine wpAny_ready (rs := [95]) (by kernel_rfl) (by simp) (AllReady.cons rfl (fun K hK => ?_) AllReady.nil)
            go_simp
            refine hK _ _ ?_
            clear hK K
            refine wpAny_done (by kernel_rfl) ?_ _
            go_wp2_with fail
            go_ret
            exact ⟨rfl, HFR.out.trans (HZ3.out.mono HFR.out.size)⟩
end Go.Proofs.YtmoifjaaencjbaaDoor
