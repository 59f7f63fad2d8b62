/- The walk of OwedTexts. -/
import Derived.Test.YtmoifjaaencjbaaDoorZi
import Derived.Test.YtmoifjaaencjbaaDoorZj
import Derived.Test.YtmoifjaaencjbaaDoorZh
import Derived.Lib.QuietBelow
namespace Go.Proofs.YtmoifjaaencjbaaDoor
open Go.RowKit Go.Shelf

theorem mixedO : Tryd.prog.follows .mixedOrders = true := by kernel_rfl
theorem str_ne {a b : Int} {l m : List RI} {S T : ByteArray} (hS : S = ⟨(textL a l).toArray⟩) (hT : T = ⟨(textL b m).toArray⟩) (h : ¬ (a = b ∧ l = m)) : (S.toList == T.toList) = false := by
  have h3 : ¬ S.toList = T.toList := fun e => by
    rw [ByteArray.toList_eq, ByteArray.toList_eq] at e
    subst hS hT
    exact h (textL_inj (by simpa using e))
  simp [h3]

set_option maxRecDepth 100000 in
set_option maxHeartbeats 4000000 in
theorem owedTexts_c (f0 : Int) (A : Option Addr) (c : Nat) (l : List RI) (g0 : Int) (A' : Option Addr) (c' : Nat) (l' : List RI) (w : World) (hr : TRow w A l) (hr' : TRow w A' l') (ht : Tab w) :
    Calls Tryd.prog 6 #[.agg #[.int .i64 f0, .slice A l.length c], .agg #[.int .i64 g0, .slice A' l'.length c']] w (Ret10 (.bool true) w) := by
  obtain ⟨n, hn⟩ : ∃ n, l.length = n := ⟨_, rfl⟩
  obtain ⟨n', hn'⟩ : ∃ n, l'.length = n := ⟨_, rfl⟩
  rw [hn, hn']
  have hb0 : Below w.heap.size w ((w.alloc (.cells #[.int .i64 f0, .slice A n c] 25)).alloc (.cells #[.int .i64 g0, .slice A' n' c'] 25)) := ((Below.refl _ w).alloc (Nat.le_refl _) _).alloc (by simp) _
  have HB0 := Lib.hid hb0
  have HF0 := Lib.hid (show FoAt ((w.alloc (.cells #[.int .i64 f0, .slice A n c] 25)).alloc (.cells #[.int .i64 g0, .slice A' n' c'] 25)) w.heap.size f0 A n c from heap_alloc2_old w _ _)
  have HG0 := Lib.hid (show FoAt ((w.alloc (.cells #[.int .i64 f0, .slice A n c] 25)).alloc (.cells #[.int .i64 g0, .slice A' n' c'] 25)) (w.heap.size + 1) g0 A' n' c' from heap_alloc2_new w _ _)
  have KA := Lib.hid (awake_c _ (ht.below hb0 (Nat.le_refl _)))
  have HT := Lib.hid ht
  clear hb0 ht
  by_cases h1 : n ≤ 64
  case neg =>
    have hd1 : decide ((64 : Int) < (n : Int)) = true := by simp; omega
    clear h1 hn hn' hr hr'
    go_enter Tryd.func6, Tryd.ntmps6
    go_wp2_with fail
    refine KA.out.mono ?_
    rintro e w1 ⟨rfl, hb⟩
    obtain ⟨u0, u1, -, -⟩ := (show FoAt w1 w.heap.size f0 A n c from BoxAt.next HF0.out hb (Nat.le_refl _)).cells
    have HB1 := Lib.hid (HB0.out.trans (hb.mono HB0.out.size))
    clear hb HB0 HF0 KA
    go_wp2_with fail
    go_ret
    exact ⟨rfl, HB1.out⟩
  have hd1 : decide ((64 : Int) < (n : Int)) = false := by simp; omega
  by_cases h2 : n' ≤ 64
  case neg =>
    have hd2 : decide ((64 : Int) < (n' : Int)) = true := by simp; omega
    clear h1 h2 hn hn' hr hr'
    go_enter Tryd.func6, Tryd.ntmps6
    go_wp2_with fail
    refine KA.out.mono ?_
    rintro e w1 ⟨rfl, hb⟩
    obtain ⟨u0, u1, -, -⟩ := (show FoAt w1 w.heap.size f0 A n c from BoxAt.next HF0.out hb (Nat.le_refl _)).cells
    obtain ⟨v0, v1, -, -⟩ := (show FoAt w1 (w.heap.size + 1) g0 A' n' c' from BoxAt.next HG0.out hb (Nat.le_refl _)).cells
    have HB1 := Lib.hid (HB0.out.trans (hb.mono HB0.out.size))
    clear hb HB0 HF0 HG0 KA
    go_wp2_with fail
    go_ret
    exact ⟨rfl, HB1.out⟩
  have hd2 : decide ((64 : Int) < (n' : Int)) = false := by simp; omega
  have KG : Hid (∀ W, Below w.heap.size w W → Calls Tryd.prog 10 #[.agg #[.int .i64 f0, .slice A n c]] W (Ret10 (.bool (goodV f0 l)) W)) := Lib.hid (fun W hb => good_c f0 A n c l W hn (by omega) (hr.below hb (Nat.le_refl _)))
  have KH : Hid (∀ W, Below w.heap.size w W → Calls Tryd.prog 10 #[.agg #[.int .i64 g0, .slice A' n' c']] W (Ret10 (.bool (goodV g0 l')) W)) := Lib.hid (fun W hb => good_c g0 A' n' c' l' W hn' (by omega) (hr'.below hb (Nat.le_refl _)))
  obtain ⟨S, hS⟩ : ∃ S : ByteArray, S = ⟨(textL f0 l).toArray⟩ := ⟨_, rfl⟩
  obtain ⟨T, hT⟩ : ∃ T : ByteArray, T = ⟨(textL g0 l').toArray⟩ := ⟨_, rfl⟩
  have KT : Hid (goodV f0 l = true → ∀ W, Below w.heap.size w W → Calls Tryd.prog 14 #[.agg #[.int .i64 f0, .slice A n c]] W (Ret10 (.string S) W)) := Lib.hid (fun h W hb => by rw [hS]; exact (fun h W hb => text_c f0 A n c l W hn h1 (hr.below hb (Nat.le_refl _)) (HT.out.below hb (Nat.le_refl _)) (goodV_parts h).2.2 (goodV_parts h).2.1) h W hb)
  have KU : Hid (goodV g0 l' = true → ∀ W, Below w.heap.size w W → Calls Tryd.prog 14 #[.agg #[.int .i64 g0, .slice A' n' c']] W (Ret10 (.string T) W)) := Lib.hid (fun h W hb => by rw [hT]; exact (fun h W hb => text_c g0 A' n' c' l' W hn' h2 (hr'.below hb (Nat.le_refl _)) (HT.out.below hb (Nat.le_refl _)) (goodV_parts h).2.2 (goodV_parts h).2.1) h W hb)
  have KS : Hid (∀ W, Below w.heap.size w W → Calls Tryd.prog 16 #[.agg #[.int .i64 f0, .slice A n c], .agg #[.int .i64 g0, .slice A' n' c']] W (Ret10 (.bool (sameB f0 g0 l l')) W)) := Lib.hid (fun W hb => same_c f0 g0 A A' n c n' c' l l' W hn hn' (by omega) (hr.below hb (Nat.le_refl _)) (hr'.below hb (Nat.le_refl _)))
  have HV : Hid ((sameB f0 g0 l l' = true ∧ S = T) ∨ (sameB f0 g0 l l' = false ∧ (S.toList == T.toList) = false)) := Lib.hid (by
    by_cases h : f0 = g0 ∧ l = l'
    · exact .inl ⟨by unfold sameB; simp [h], by rw [hS, hT, h.1, h.2]⟩
    · exact .inr ⟨by unfold sameB; rw [Bool.eq_false_iff]; intro e; simp at e; exact h e, str_ne hS hT h⟩)
  generalize goodV f0 l = G at *
  generalize goodV g0 l' = G' at *
  generalize sameB f0 g0 l l' = SB at *
  clear h1 h2 hn hn' hr hr' HT hS hT
  go_enter Tryd.func6, Tryd.ntmps6
  go_wp2_with fail
  refine KA.out.mono ?_
  rintro e w1 ⟨rfl, hb⟩
  have HF1 := Lib.hid (show FoAt w1 w.heap.size f0 A n c from BoxAt.next HF0.out hb (Nat.le_refl _))
  have HG1 := Lib.hid (show FoAt w1 (w.heap.size + 1) g0 A' n' c' from BoxAt.next HG0.out hb (Nat.le_refl _))
  obtain ⟨u0, u1, -, -⟩ := HF1.out.cells
  obtain ⟨v0, v1, -, -⟩ := HG1.out.cells
  have HB1 := Lib.hid (HB0.out.trans (hb.mono HB0.out.size))
  clear hb HB0 HF0 HG0 KA
  go_wp2_with fail
  refine (KG.out _ HB1.out).mono ?_
  rintro e w2 ⟨rfl, hb⟩
  have HF2 := Lib.hid (show FoAt w2 w.heap.size f0 A n c from BoxAt.next HF1.out hb (Nat.le_refl _))
  have HG2 := Lib.hid (show FoAt w2 (w.heap.size + 1) g0 A' n' c' from BoxAt.next HG1.out hb (Nat.le_refl _))
  have HB2 := Lib.hid (HB1.out.trans (hb.mono HB1.out.size))
  clear hb u0 u1 v0 v1 HB1 HF1 HG1 KG
  obtain ⟨u0, u1, -, -⟩ := HF2.out.cells
  obtain ⟨v0, v1, -, -⟩ := HG2.out.cells
  cases G
  · go_wp2_with fail
    go_ret
    exact ⟨rfl, HB2.out⟩
  have KT1 := Lib.hid (KT.out rfl)
  clear KT
  go_wp2_with fail
  refine (KH.out _ HB2.out).mono ?_
  rintro e w3 ⟨rfl, hb⟩
  have HF3 := Lib.hid (show FoAt w3 w.heap.size f0 A n c from BoxAt.next HF2.out hb (Nat.le_refl _))
  have HG3 := Lib.hid (show FoAt w3 (w.heap.size + 1) g0 A' n' c' from BoxAt.next HG2.out hb (Nat.le_refl _))
  have HB3 := Lib.hid (HB2.out.trans (hb.mono HB2.out.size))
  clear hb u0 u1 v0 v1 HB2 HF2 HG2 KH
  cases G'
  · go_wp2_with fail
    go_ret
    exact ⟨rfl, HB3.out⟩
  have KU1 := Lib.hid (KU.out rfl)
  clear KU
  obtain ⟨u0, u1, -, -⟩ := HF3.out.cells
  obtain ⟨v0, v1, -, -⟩ := HG3.out.cells
  have k0 := cell_regrown u0
  have k1 := cell_regrown u1
  have k2 := cell_regrown v0
  have k3 := cell_regrown v1
  have hle := HB3.out.size
  have cT := Lib.hid (fun d os => Calls.regrown_of (KT1.out (Go.Sort.grow (redrawn w3 d) os) (HB3.out.trans ((below_regrown w3 d os).mono hle))))
  have cU := Lib.hid (fun d os => Calls.regrown_of (KU1.out (Go.Sort.grow (redrawn w3 d) os) (HB3.out.trans ((below_regrown w3 d os).mono hle))))
  have cS := Lib.hid (fun d os => Calls.regrown_of (KS.out (Go.Sort.grow (redrawn w3 d) os) (HB3.out.trans ((below_regrown w3 d os).mono hle))))
  clear u0 u1 v0 v1 KT1 KU1 KS hle HF3 HG3
  go_wp2_with fail
  rcases HV.out with ⟨hs, htt⟩ | ⟨hs, htt⟩
  · subst hs htt
    refine wp_region_quiet_below mixedO (by kernel_rfl) ?_
    repeat (quiet_step (first | with_reducible exact cT.out _ _ | with_reducible exact cU.out _ _ | with_reducible exact cS.out _ _))
    refine wpQuiet_nil ?_
    intro _ hw'
    obtain ⟨⟨dq, osq⟩, hw''⟩ := hw'
    subst hw''
    go_wp2_with fail
    go_ret
    exact ⟨rfl, HB3.out.trans ((below_regrown w3 dq osq).mono HB3.out.size)⟩
  · subst hs
    refine wp_region_quiet_below mixedO (by kernel_rfl) ?_
    repeat (quiet_step (first | with_reducible exact cT.out _ _ | with_reducible exact cU.out _ _ | with_reducible exact cS.out _ _))
    refine wpQuiet_nil ?_
    intro _ hw'
    obtain ⟨⟨dq, osq⟩, hw''⟩ := hw'
    subst hw''
    go_wp2_with fail
    go_ret
    exact ⟨rfl, HB3.out.trans ((below_regrown w3 dq osq).mono HB3.out.size)⟩
end Go.Proofs.YtmoifjaaencjbaaDoor
