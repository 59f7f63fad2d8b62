/- CoreShares. -/
import Derived.Test.YtandmngfajoinaaGreatCc
namespace Go.Proofs.YtandmngfajoinaaGreat.Po
open Go.RowKit Go.Maps

theorem wf_hi {a : Int} (h : wf64 a) : a ≤ 9223372036854775807 := by
  have e1 : IntKind.i64.min = -9223372036854775808 := by decide
  have e2 : IntKind.i64.max = 9223372036854775807 := by decide
  simp only [wf64, Lit.wf, e1, e2, Bool.and_eq_true, decide_eq_true_eq] at h
  exact h.2
def sumI : List Int → Int
  | [] => 0
  | x :: l => x + sumI l
theorem sumI_snoc (l : List Int) (x : Int) : sumI (l ++ [x]) = sumI l + x := by
  induction l with
  | nil => show x + 0 = 0 + x; omega
  | cons y ys ih => show y + sumI (ys ++ [x]) = y + sumI ys + x; rw [ih]; omega
theorem take_snocI {l : List Int} {k : Nat} {x : Int} (h : l[k]? = some x) : l.take (k + 1) = l.take k ++ [x] := by rw [List.take_add_one, h]; rfl
theorem sumI_bd {l : List Int} (h : ∀ x ∈ l, 1 ≤ x ∧ x ≤ 20) : (l.length : Int) ≤ sumI l ∧ sumI l ≤ 20 * (l.length : Int) := by
  induction l with
  | nil => exact ⟨Int.le_refl _, Int.le_refl _⟩
  | cons y ys ih =>
    have h1 := ih (fun x hx => h x (by simp [hx]))
    have h2 := h y (by simp)
    unfold sumI
    rw [List.length_cons]
    omega
theorem allT_snoc (T : List TI) (x : TI) : allT (T ++ [x]) = allT T + x.2.1 := by
  induction T with
  | nil => rfl
  | cons y ys ih =>
    show allT (ys ++ [x]) + y.2.1 = allT ys + y.2.1 + x.2.1
    rw [ih]; omega

/-- The tasks are the weights' first k. -/
structure Wts (l : List Int) (k : Nat) (T : List TI) : Prop where
  all : allT T = sumI (l.take k)
  each : ∀ (i : Nat) y, i < k → l[i]? = some y → ∃ x ∈ T, x.1 = (i : Int) ∧ x.2.1 = y
  ids : ∀ x ∈ T, x.1 < (k : Int)
theorem Wts.of {l : List Int} {k : Nat} {T U : List TI} (h : Wts l k T) (he : U.map (fun x => (x.1, x.2.1)) = T.map (fun x => (x.1, x.2.1))) : Wts l k U := by
  refine ⟨(allT_of he).trans h.all, fun i y hi hy => ?_, fun x hx => ?_⟩
  · obtain ⟨x, hx, h1, h2⟩ := h.each i y hi hy
    have hm : (x.1, x.2.1) ∈ U.map (fun x => (x.1, x.2.1)) := by rw [he]; exact List.mem_map.2 ⟨x, hx, rfl⟩
    obtain ⟨z, hz, hzz⟩ := List.mem_map.1 hm
    injection hzz with e1 e2
    exact ⟨z, hz, e1.trans h1, e2.trans h2⟩
  · have hm : (x.1, x.2.1) ∈ T.map (fun x => (x.1, x.2.1)) := by rw [← he]; exact List.mem_map.2 ⟨x, hx, rfl⟩
    obtain ⟨z, hz, hzz⟩ := List.mem_map.1 hm
    injection hzz with e1 e2
    rw [← e1]
    exact h.ids z hz

/-- The first k have come. -/
def ShEnt (t : Int) (w wr : World) (o k : Nat) (l : List Int) : Prop := ∃ T, CIn t w wr o 0 (-1) T (fun _ => 0) 0 (k : Int) (4000 + 24 * k) k (fun _ => False) ∧ Ent T k ∧ Wts l k T
theorem sh_enter {t : Int} {w wr : World} {o k : Nat} {l : List Int} {n : Int} (h : ShEnt t w wr o k l) (hk : k < 20) (hn : l[k]? = some n) (h1 : 1 ≤ n) (h2 : n ≤ 20) :
    Calls Tryz.prog 11 #[.pointer (some ⟨o, 0, none⟩), .int .i64 (k : Int), .int .i64 n, .int .i64 0, .bool false] wr fun e w' => e = .returned (.int .i64 0) ∧ Hid (ShEnt t w w' o (k + 1) l) := by
  obtain ⟨T, hc, he, hw⟩ := h
  have K := center_in ((k : Int), n, 0) false hc (by omega) (by omega) (by omega) (by omega)
  obtain ⟨e1, e2⟩ := he.yes hc.tag (by omega) h1 h2
  rw [e1] at K
  refine K.mono ?_
  rintro e w' ⟨rfl, h3, -⟩
  refine ⟨rfl, Lib.hid ⟨_, (by have := h3.weak (S' := 4000 + 24 * (k + 1)) (N' := k + 1) (by omega) (by omega); exact this), e2, ?_, fun i y hi hy => ?_, fun x hx => ?_⟩⟩
  · rw [allT_snoc, take_snocI hn, sumI_snoc, hw.all]
    rfl
  · by_cases hik : i = k
    · subst hik
      rw [hn] at hy
      exact ⟨_, List.mem_append.2 (.inr (List.mem_singleton.2 rfl)), rfl, Option.some.inj hy⟩
    · obtain ⟨x, hx, h4⟩ := hw.each i y (by omega) hy
      exact ⟨x, List.mem_append.2 (.inl hx), h4⟩
  · exact (e2.all x hx).2

/-- j ticks are done, under whatever policies. -/
def ShAt (w wr : World) (o : Nat) (l : List Int) (m j : Nat) (F : Nat → Prop) : Prop := ∃ t base cur T C d age, CIn t w wr o base cur T C 0 age (4480 + 32 * j) (20 + 2 * j) F ∧ Near base T ∧ DayOk T ∧ Wts l m T ∧ Ran C d T ∧ ranSum C T = (j : Int) ∧ base ≤ (j : Int) * 1163962800
theorem ShEnt.start {t : Int} {w wr : World} {o m : Nat} {l : List Int} (h : ShEnt t w wr o m l) (hm : m ≤ 20) (hm1 : 1 ≤ m) (hl : l.length = m) : ShAt w wr o l m 0 (fun _ => False) := by
  obtain ⟨T, hc, he, hw⟩ := h
  have hn : Near 0 T := by
    rcases he.near with rfl | h
    · obtain ⟨y, hy⟩ : ∃ y, l[0]? = some y := ⟨_, List.getElem?_eq_getElem (by omega)⟩
      obtain ⟨x, hx, -⟩ := hw.each 0 y (by omega) hy
      simp at hx
    · exact h
  refine ⟨_, _, _, T, _, 0, _, hc.weak (by omega) (by omega), hn, he.day, hw, fun x hx => ?_, ?_, by omega⟩
  · have := (he.all x hx).1
    show x.2.2.1 - 0 = 0 * tickV x.2.1
    omega
  · have : ∀ U : List TI, ranSum (fun _ => 0) U = 0 := fun U => by
      induction U with
      | nil => rfl
      | cons y ys ih => show (0 : Int) + ranSum (fun _ => 0) ys = 0; rw [ih]; rfl
    rw [this]; rfl
theorem sh_run {w wr : World} {o m j : Nat} {l : List Int} (h : ShAt w wr o l m j (fun _ => False)) (hj : j < 600) :
    Calls Tryz.prog 17 #[.pointer (some ⟨o, 0, none⟩)] wr fun e w' => ∃ i, e = .returned (.tuple #[.int .i64 i, .int .i64 0]) ∧ 0 ≤ i ∧ i < (m : Int) ∧ Hid (ShAt w w' o l m (j + 1) (fun _ => False)) := by
  obtain ⟨t, base, cur, T, C, d, age, hc, hn, hd, hw, hr, hs, hb⟩ := h
  obtain ⟨b', x, hx, hwx, h0, -, hcg, hn2, hd2, hb1, hb2⟩ := near_run (t := t) (cur := cur) hc.tag hn hc.wf hd (by omega)
  refine (crun_ok hcg hwx hc (by omega) (by omega)).mono ?_
  rintro e w' ⟨rfl, h2, -⟩
  refine ⟨x.1, rfl, h0, hw.ids x hx, Lib.hid ⟨t, b', _, _, _, d, _, h2, hn2, hd2, hw.of (upd_ids T x.1), hr.tick hc.wf.asc hx, ?_, by omega⟩⟩
  rw [ranSum_of (upd_ids T x.1), ranSum_inc hc.wf.asc ⟨x, hx, rfl⟩, hs]
  rfl
/-- Another queue is made of what is owed, and taken; or there is none. -/
theorem sh_change {w wr : World} {o m j : Nat} {l : List Int} (h : ShAt w wr o l m j (fun _ => False)) (y : Int) :
    (∃ cur n, Hid (Calls Tryz.prog 21 #[.pointer (some ⟨o, 0, none⟩)] wr.drew fun e w' => ∃ A c, e = .returned (.agg #[.int .i64 cur, .slice A n c]) ∧ Below wr.heap.size wr w' ∧
      Hid (Calls Tryz.prog 20 #[.int .i64 y, .agg #[.int .i64 cur, .slice A n c], .int .i64 0] w' fun e w2 =>
        ∃ q, e = .returned (.tuple #[.pointer (some ⟨q, 0, none⟩), .int .i64 0]) ∧ Below wr.heap.size wr w2 ∧ Hid (Calls Tryz.prog 22 #[.pointer (some ⟨o, 0, none⟩), .pointer (some ⟨q, 0, none⟩)] w2 fun e w3 => e = .returned (.int .i64 0) ∧ Hid (ShAt w w3 o l m j (fun _ => False)))))) ∨
    (∃ cur n, Hid (Calls Tryz.prog 21 #[.pointer (some ⟨o, 0, none⟩)] wr.drew fun e w' => ∃ A c, e = .returned (.agg #[.int .i64 cur, .slice A n c]) ∧ Below wr.heap.size wr w' ∧
      Hid (Calls Tryz.prog 20 #[.int .i64 y, .agg #[.int .i64 cur, .slice A n c], .int .i64 0] w' fun e w2 =>
        e = .returned (.tuple #[.pointer none, .int .i64 1]) ∧ Below wr.heap.size wr w2 ∧ Hid (ShAt w w2 o l m j (fun _ => False))))) := by
  obtain ⟨t, base, cur, T, C, d, age, hc, hn, hd, hw, hr, hs, hb⟩ := h
  by_cases hg : Tag y ∧ SdOk 0 cur (formU base T)
  · refine .inl ⟨cur, T.length, Lib.hid ((cform_in (hc.below (Below.refl _ wr).drew)).mono ?_)⟩
    rintro e w1 ⟨A, c, rfl, hT, hb1⟩
    have k1 : Below wr.heap.size wr w1 := (Below.refl _ wr).drew.trans hb1
    have hc1 := hc.below k1
    have hl := len_of hc.wf
    refine ⟨A, c, rfl, k1, Lib.hid ((sseed_p cur 0 A T.length c (formU base T) w1 y (formU_length _ _) (by omega) hT).mono ?_)⟩
    intro e w2 h
    unfold SeedP at h
    rw [if_pos hg] at h
    obtain ⟨q, Aq, st, rfl, hq, s1, s2, hnn, hb2⟩ := h
    refine ⟨q, rfl, k1.trans (hb2.mono k1.size), Lib.hid ?_⟩
    have hqs : SIn y w w2 q 0 cur (seedU 0 (formU base T)) 4000 (fun k => k < w1.heap.size) := seed_in hc1.frame (fun _ h => h) hq s1 s2 hnn hb2
    have K := cchange_in hc1 hb2 hqs
    rw [formU_seed] at K
    refine K.mono ?_
    intro e w3 h3
    rw [if_pos (show sameB cur cur (formU base T) (formU base T) = true by unfold sameB; simp)] at h3
    obtain ⟨he, hc3, -⟩ := h3
    obtain ⟨g1, g2⟩ := near_change (b := 0) hn
    exact ⟨he, Lib.hid ⟨y, 0, cur, _, C, d + 0 - base, age, hc3.weak (by omega) (by omega), g1, seedU_day hg.2.1, hw.of g2, hr.change 0, by rw [ranSum_of g2]; exact hs, by omega⟩⟩
  · refine .inr ⟨cur, T.length, Lib.hid ((cform_in (hc.below (Below.refl _ wr).drew)).mono ?_)⟩
    rintro e w1 ⟨A, c, rfl, hT, hb1⟩
    have k1 : Below wr.heap.size wr w1 := (Below.refl _ wr).drew.trans hb1
    have hc1 := hc.below k1
    have hl := len_of hc.wf
    refine ⟨A, c, rfl, k1, Lib.hid ((sseed_p cur 0 A T.length c (formU base T) w1 y (formU_length _ _) (by omega) hT).mono ?_)⟩
    intro e w2 h
    unfold SeedP at h
    rw [if_neg hg] at h
    exact ⟨h.1, k1.trans (h.2.mono k1.size), Lib.hid ⟨t, base, cur, T, C, d, age, hc1.below h.2, hn, hd, hw, hr, hs, hb⟩⟩
theorem ShAt.frame {w wr : World} {o m j : Nat} {l : List Int} {F : Nat → Prop} (h : ShAt w wr o l m j F) : Below w.heap.size w wr := by
  obtain ⟨_, _, _, _, _, _, _, hc, _⟩ := h
  exact hc.frame

/-- How often one ran, but for its share. -/
theorem sh_off {w wr : World} {o m n : Nat} {l : List Int} {F : Nat → Prop} {t base cur age d : Int} {T : List TI} {C : Int → Int} (hc : CIn t w wr o base cur T C 0 age (4480 + 32 * n) (20 + 2 * n) F) (hn : Near base T) (hw : Wts l m T) (hr : Ran C d T) (hs : ranSum C T = (n : Int)) (hl : l.length = m) {i : Nat} {y : Int} (hi : i < m) (hy : l[i]? = some y) :
    C (i : Int) * sumI l - (n : Int) * y ≤ 5 * (y * sumI l) ∧ (n : Int) * y - C (i : Int) * sumI l ≤ 5 * (y * sumI l) := by
  obtain ⟨x, hx, h1, h2⟩ := hw.each i y hi hy
  have h := share_near hn hc.wf hr hx
  have ha := hw.all
  rw [List.take_of_length_le (by omega)] at ha
  rw [h1, h2, hs, ha] at h
  exact h

set_option maxRecDepth 100000 in
set_option maxHeartbeats 40000000 in
theorem cshares_c (A B : Option Addr) (c d : Nat) (l tags : List Int) (every n : Int) (w : World) (hev : wf64 every) (hr : IRow .i64 w w.heap.size A l) (hr2 : IRow .i64 w w.heap.size B tags) :
    Calls Tryz.prog 4 #[.slice A l.length c, .slice B tags.length d, .int .i64 every, .int .i64 n] w fun e w' => e = .returned (.bool true) ∧ Below w.heap.size w w' := by
  have KA := Lib.hid (awake15_c w)
  obtain ⟨m, hm⟩ : ∃ m, l.length = m := ⟨_, rfl⟩
  obtain ⟨m2, hm2⟩ : ∃ m2, tags.length = m2 := ⟨_, rfl⟩
  rw [hm, hm2]
  have HR := Lib.hid hr
  have HR2 := Lib.hid hr2
  have HN := Lib.hid (And.intro hm hm2)
  have HEVW := Lib.hid hev
  clear hr hr2 hm hm2 hev
  go_enter Tryz.func4, Tryz.ntmps4
  go_wp2_with fail
  refine KA.out.mono ?_
  rintro e w1 ⟨rfl, hb⟩
  have HB1 := Lib.hid hb
  clear hb KA
  by_cases h1 : (m : Int) < 1
  · go_wp2_with fail
    go_ret
    exact ⟨rfl, HB1.out⟩
  by_cases h2 : (20 : Int) < (m : Int)
  · go_wp2_with fail
    go_ret
    exact ⟨rfl, HB1.out⟩
  by_cases h3 : (m2 : Int) < 1
  · go_wp2_with fail
    go_ret
    exact ⟨rfl, HB1.out⟩
  by_cases h4 : (20 : Int) < (m2 : Int)
  · go_wp2_with fail
    go_ret
    exact ⟨rfl, HB1.out⟩
  by_cases h5 : every < 1
  · go_wp2_with fail
    go_ret
    exact ⟨rfl, HB1.out⟩
  by_cases h6 : n < 0
  · go_wp2_with fail
    go_ret
    exact ⟨rfl, HB1.out⟩
  by_cases h7 : (600 : Int) < n
  · go_wp2_with fail
    go_ret
    exact ⟨rfl, HB1.out⟩
  obtain ⟨n, rfl⟩ : ∃ k : Nat, n = (k : Int) := ⟨n.toNat, by omega⟩
  have HM := Lib.hid (show (1 ≤ m ∧ m ≤ 20) ∧ (1 ≤ m2 ∧ m2 ≤ 20) ∧ 1 ≤ every ∧ n ≤ 600 by omega)
  go_wp2_with fail
  go_loopw [9, 10] (fun s i wr => ∃ (k : Nat) (z : Int), i = .int .i64 k ∧ s = .int .i64 z ∧ k ≤ m ∧ sumI (l.take k) = z ∧ Hid (∀ y ∈ l.take k, 1 ≤ y ∧ y ≤ 20) ∧ Hid (Below w.heap.size w wr)) (fun _ i _ => m - (intOf i).toNat)
  case atStart => exact ⟨0, 0, rfl, rfl, Nat.zero_le _, rfl, Lib.hid (fun y hy => by simp at hy), HB1⟩
  case round =>
    obtain ⟨k, z, rfl, rfl, hk, hz, HG, HB⟩ := hrel
    clear HB1
    by_cases hlt : k < m
    · obtain ⟨y, hy⟩ : ∃ y, l[k]? = some y := ⟨_, List.getElem?_eq_getElem (by rw [HN.out.1]; exact hlt)⟩
      obtain ⟨ad, rfl, hab, hc0⟩ := HR.out k y hy
      have y0 := (HB.out.cell (p := ad.add k) (by rw [add_block]; exact hab)).trans hc0
      have hlt' : (k : Int) < (m : Int) := by omega
      have HY := Lib.hid hy
      clear hy hab hc0
      by_cases hy1 : y < 1
      · go_wp2_with fail
        go_ret
        exact ⟨rfl, HB.out⟩
      by_cases hy2 : 20 < y
      · go_wp2_with fail
        go_ret
        exact ⟨rfl, HB.out⟩
      have hzb := sumI_bd HG.out
      have hlen : (l.take k).length ≤ 20 := by rw [List.length_take]; have := HM.out; omega
      have hw1 : IntKind.i64.wrap (z + y) = z + y := by rw [IntKind.wrap_i64]; omega
      have HZ : Hid (sumI (l.take (k + 1)) = z + y) := Lib.hid (by rw [take_snocI HY.out, sumI_snoc, hz])
      have HG2 : Hid (∀ x ∈ l.take (k + 1), 1 ≤ x ∧ x ≤ 20) := Lib.hid (fun x hx => by
        rw [take_snocI HY.out] at hx
        rcases List.mem_append.1 hx with hx | hx
        · exact HG.out x hx
        · obtain rfl := List.mem_singleton.1 hx
          omega)
      clear hzb hlen hz HG
      go_wp2_with fail
      go_roundw
      case rel => exact ⟨k + 1, z + y, by go_num, rfl, by omega, HZ.out, HG2, HB⟩
      case measure => simp [intOf]; omega
    · obtain rfl : k = m := by omega
      have hlt' : decide ((k : Int) < (k : Int)) = false := by simp
      have hall : l.take k = l := List.take_of_length_le (by rw [HN.out.1]; omega)
      rw [hall] at hz HG
      subst hz
      have HSUM := Lib.hid (sumI_bd HG.out)
      obtain ⟨y, hy⟩ : ∃ y, tags[0]? = some y := ⟨_, List.getElem?_eq_getElem (by rw [HN.out.2]; have := HM.out; omega)⟩
      obtain ⟨ad2, rfl, hab, hc0⟩ := HR2.out 0 y hy
      have y0 := (HB.out.cell (p := ad2.add 0) (by rw [add_block]; exact hab)).trans hc0
      have y1 : wr.cell? ad2 = some (.int .i64 y) := by rw [show ad2.add 0 = ad2 from by unfold Addr.add; rw [if_pos rfl]] at y0; exact y0
      have hm20 : (0 : Int) < (m2 : Int) := by have := HM.out; omega
      have KN := Lib.hid (cnew_in y 0 HB.out (F := fun _ => False) (fun _ h => h.elim))
      clear hall hy hab hc0
      go_wp2_with fail
      refine KN.out.mono ?_
      intro e w2 h
      unfold CSeedP at h
      by_cases ht : Tag y
      · rw [if_pos ⟨ht, good_none, by decide, by decide⟩] at h
        obtain ⟨o, rfl, hc, -⟩ := h
        have HS0 : Hid (ShEnt y w w2 o 0 l) := Lib.hid ⟨[], hc, Ent.nil, ⟨rfl, fun i y hi => by omega, fun x hx => by simp at hx⟩⟩
        clear hc KN ht HB y0 y1
        go_wp2_with fail
        go_loopw [13] (fun i wr => ∃ j : Nat, i = .int .i64 j ∧ j ≤ k ∧ Hid (ShEnt y w wr o j l)) (fun i _ => k - (intOf i).toNat)
        case atStart => exact ⟨0, rfl, Nat.zero_le _, HS0⟩
        case round =>
          obtain ⟨j, rfl, hj, HE⟩ := hrel
          clear HS0
          by_cases hlt : j < k
          · obtain ⟨u, hu⟩ : ∃ u, l[j]? = some u := ⟨_, List.getElem?_eq_getElem (by rw [HN.out.1]; exact hlt)⟩
            obtain ⟨ad, rfl, hab, hc0⟩ := HR.out j u hu
            have hfr : Below w.heap.size w wr := by
              obtain ⟨T, hc, -⟩ := HE.out
              exact hc.frame
            have y0 := (hfr.cell (p := ad.add j) (by rw [add_block]; exact hab)).trans hc0
            have hu2 := HG.out u (List.mem_of_getElem? hu)
            have K := Lib.hid (sh_enter HE.out (by have := HM.out; omega) hu hu2.1 hu2.2)
            have hlt' : (j : Int) < (k : Int) := by omega
            clear hu hab hc0 hfr HE hu2
            go_wp2_with fail
            refine K.out.mono ?_
            rintro e w3 ⟨rfl, HE3⟩
            clear K
            go_wp2_with fail
            go_roundw
            case rel => exact ⟨j + 1, by go_num, by omega, HE3⟩
            case measure => simp [intOf]; omega
          · obtain rfl : j = k := by omega
            have hlt' : decide ((j : Int) < (j : Int)) = false := by simp
            have HS1 := Lib.hid (HE.out.start (by have := HM.out; omega) (by have := HM.out; omega) HN.out.1)
            clear HE
            go_wp2_with fail
            go_loopw [14] (fun i wr => ∃ q : Nat, i = .int .i64 q ∧ q ≤ n ∧ Hid (ShAt w wr o l j q (fun _ => False))) (fun i _ => n - (intOf i).toNat)
            case atStart => exact ⟨0, rfl, Nat.zero_le _, HS1⟩
            case round =>
              obtain ⟨q, rfl, hq, HE⟩ := hrel
              clear HS1
              by_cases hlt : q < n
              · have hlt' : (q : Int) < (n : Int) := by omega
                have hev := HM.out.2.2.1
                have hew := wf_hi HEVW.out
                have hz : ¬ every = 0 := by omega
                obtain ⟨rm, hrm⟩ : ∃ rm, (q : Int).tmod every = rm := ⟨_, rfl⟩
                have hw1 : IntKind.i64.wrap (every - 1) = every - 1 := by rw [IntKind.wrap_i64]; omega
                have hdv0 : 0 ≤ (q : Int) / every := Int.ediv_nonneg (by omega) (by omega)
                have hdv1 : (q : Int) / every ≤ (q : Int) := Int.ediv_le_self _ (by omega)
                obtain ⟨qq, hqq⟩ : ∃ qq : Nat, (q : Int) / every = (qq : Int) := ⟨((q : Int) / every).toNat, by omega⟩
                have hdv : (q : Int).tdiv every = (qq : Int) := by rw [Int.tdiv_eq_ediv_of_nonneg (by omega)]; exact hqq
                have hw2 : IntKind.i64.wrap (qq : Int) = (qq : Int) := by rw [IntKind.wrap_i64]; have := HM.out; omega
                have hm21 : 0 < m2 := by have := HM.out; omega
                have hz2 : ¬ (m2 : Int) = 0 := by omega
                have hz3 : ¬ m2 = 0 := by omega
                have hmd : (qq : Int).tmod (m2 : Int) = ((qq % m2 : Nat) : Int) := by rw [Int.tmod_eq_emod_of_nonneg (by omega)]; rfl
                have hrl : qq % m2 < m2 := Nat.mod_lt _ hm21
                obtain ⟨r, hr⟩ : ∃ r, qq % m2 = r := ⟨_, rfl⟩
                rw [hr] at hmd hrl
                have hr0 : (0 : Int) ≤ (r : Int) := by omega
                have hr1 : (r : Int) < (m2 : Int) := by omega
                obtain ⟨y2, hy2⟩ : ∃ y2, tags[r]? = some y2 := ⟨_, List.getElem?_eq_getElem (by rw [HN.out.2]; exact hrl)⟩
                obtain ⟨ad3, he3, hab, hc0⟩ := HR2.out r y2 hy2
                obtain rfl := Option.some.inj he3
                have HW : Hid (∀ W, Below wr.heap.size wr W → W.cell? (ad2.add r) = some (.int .i64 y2)) := Lib.hid (fun W hb => ((HE.out.frame.trans (hb.mono HE.out.frame.size)).cell (p := ad2.add r) (by rw [add_block]; exact hab)).trans hc0)
                have HS0 := Lib.hid (HW.out wr.drew (Below.refl _ wr).drew)
                have HCH := Lib.hid (sh_change HE.out y2)
                clear hdv0 hdv1 hqq hm21 hrl hr hy2 hab hc0
                go_upto_if 109 with fail
                go_cut [15, 16] from 99 to 149 (fun _ _ wx => Hid (ShAt w wx o l j q (fun _ => False)))
                case first =>
                  by_cases hb : rm = every - 1
                  · have hb' : (rm == every - 1) = true := by simp [hb]
                    clear hb
                    rcases HCH.out with ⟨cur, nn, K1⟩ | ⟨cur, nn, K1⟩
                    · clear HCH HE
                      go_wp2_with fail
                      go_region_held3 (fun w' => w'.cell? (ad2.add r) = some (.int .i64 y2)) (first | exact HS0.out | exact HS1.out | exact HS2.out | go_keep)
                        (first
                          | (go_at_call 21; refine K1.out.mono ?_; rintro e w4 ⟨A4, c4, rfl, hb4, K2⟩; have HS1 := Lib.hid (HW.out w4 hb4); clear hb4)
                          | (go_at_call 20; refine K2.out.mono ?_; rintro e w5 ⟨p, rfl, hb5, K3⟩; have HS2 := Lib.hid (HW.out w5 hb5); clear hb5))
                      clear HS0 HS1 HS2 K1 K2 HW
                      go_wp2_with fail
                      refine K3.out.mono ?_
                      rintro e w6 ⟨rfl, HD⟩
                      clear K3
                      go_wp2_with fail
                      go_meet
                      exact HD
                    · clear HCH HE
                      go_wp2_with fail
                      go_region_held3 (fun w' => w'.cell? (ad2.add r) = some (.int .i64 y2)) (first | exact HS0.out | exact HS1.out | exact HS2.out | go_keep)
                        (first
                          | (go_at_call 21; refine K1.out.mono ?_; rintro e w4 ⟨A4, c4, rfl, hb4, K2⟩; have HS1 := Lib.hid (HW.out w4 hb4); clear hb4)
                          | (go_at_call 20; refine K2.out.mono ?_; rintro e w5 ⟨rfl, hb5, HD⟩; have HS2 := Lib.hid (HW.out w5 hb5); clear hb5))
                      clear HS0 HS1 HS2 K1 K2 HW
                      go_wp2_with fail
                      go_meet
                      exact HD
                  · have hb' : (rm == every - 1) = false := by simp [hb]
                    clear hb HCH HS0 HW
                    go_wp2_with fail
                    go_meet
                    exact HE
                case rest =>
                  have K := Lib.hid (sh_run hcut.out (by have := HM.out; omega))
                  clear hcut HCH HS0 HW HE hdv hmd
                  go_wp2_with fail
                  refine K.out.mono ?_
                  rintro e w7 ⟨i, rfl, hi0, hi1, HE7⟩
                  have hi2 : decide (i < 0) = false := by simp; omega
                  have hi3 : decide ((j : Int) ≤ i) = false := by simp; omega
                  clear K
                  go_wp2_with fail
                  go_roundw
                  case rel => exact ⟨q + 1, by go_num, by omega, HE7⟩
                  case measure => simp [intOf]; omega
              · obtain rfl : q = n := by omega
                have hlt' : decide ((q : Int) < (q : Int)) = false := by simp
                obtain ⟨t2, base, cur, T, C, dd, age, hc, hn, -, hw, hrn, hs, -⟩ := HE.out
                have HOFF : Hid (∀ (i : Nat) y, i < j → l[i]? = some y → C (i : Int) * sumI l - (q : Int) * y ≤ 5 * (y * sumI l) ∧ (q : Int) * y - C (i : Int) * sumI l ≤ 5 * (y * sumI l)) := Lib.hid (fun i y hi hy => sh_off hc hn hw hrn hs HN.out.1 hi hy)
                have HCB : Hid (∀ z, 0 ≤ C z ∧ C z ≤ ((20 + 2 * q : Nat) : Int)) := Lib.hid (by
                  obtain ⟨_, _, _, _, h3, _⟩ := hc
                  exact h3.bd)
                have HC := Lib.hid hc
                clear HE hc hn hw hrn hs
                go_wp2_with fail
                go_loopw [19] (fun i w5 => ∃ i0 : Nat, i = .int .i64 i0 ∧ i0 ≤ j ∧ Hid (CIn t2 w w5 o base cur T C 0 age (4480 + 32 * q) (20 + 2 * q) (fun _ => False))) (fun i _ => j - (intOf i).toNat)
                case atStart => exact ⟨0, rfl, Nat.zero_le _, HC⟩
                case round =>
                  obtain ⟨i0, rfl, hi0, HC5⟩ := hrel
                  clear HC
                  by_cases hlt : i0 < j
                  · obtain ⟨u, hu⟩ : ∃ u, l[i0]? = some u := ⟨_, List.getElem?_eq_getElem (by rw [HN.out.1]; exact hlt)⟩
                    obtain ⟨ad, rfl, hab, hc0⟩ := HR.out i0 u hu
                    have HW : Hid (∀ W, Below wr.heap.size wr W → W.cell? (ad.add i0) = some (.int .i64 u)) := Lib.hid (fun W hb => ((HC5.out.frame.trans (hb.mono HC5.out.frame.size)).cell (p := ad.add i0) (by rw [add_block]; exact hab)).trans hc0)
                    have hu2 := HG.out u (List.mem_of_getElem? hu)
                    have ho := HOFF.out i0 u hlt hu
                    have hcb := HCB.out (i0 : Int)
                    have hsb := HSUM.out
                    have hj20 : j ≤ 20 := HM.out.1.2
                    have hq6 : q ≤ 600 := HM.out.2.2.2
                    have hlj : l.length = j := HN.out.1
                    have hlt' : (i0 : Int) < (j : Int) := by omega
                    have KS := Lib.hid (cserved_in (i0 : Int) (wf64_of (by omega) (by omega)) (HC5.out.below (Below.refl _ wr).drew))
                    have HS0 := Lib.hid (HW.out wr.drew (Below.refl _ wr).drew)
                    have y0 := HW.out wr.drew (Below.refl _ wr).drew
                    have HC6 : Hid (CIn t2 w wr.drew o base cur T C 0 age (4480 + 32 * q) (20 + 2 * q) (fun _ => False)) := Lib.hid (HC5.out.below (Below.refl _ wr).drew)
                    have hP0 : 0 ≤ C (i0 : Int) * sumI l := Int.mul_nonneg hcb.1 (by omega)
                    have hP1 : C (i0 : Int) * sumI l ≤ ((20 + 2 * q : Nat) : Int) * 400 := Int.mul_le_mul hcb.2 (by omega) (by omega) (by omega)
                    have hQ0 : 0 ≤ (q : Int) * u := Int.mul_nonneg (by omega) (by omega)
                    have hQ1 : (q : Int) * u ≤ 600 * 20 := Int.mul_le_mul (by omega) hu2.2 (by omega) (by omega)
                    have hR0 : 0 ≤ u * sumI l := Int.mul_nonneg (by omega) (by omega)
                    have hR1 : u * sumI l ≤ 20 * 400 := Int.mul_le_mul hu2.2 (by omega) (by omega) (by omega)
                    have hR2 : 5 * sumI l * u = 5 * (u * sumI l) := by rw [Int.mul_assoc, Int.mul_comm (sumI l) u]
                    have hw1 : IntKind.i64.wrap (C (i0 : Int) * sumI l) = C (i0 : Int) * sumI l := by rw [IntKind.wrap_i64]; omega
                    have hw2 : IntKind.i64.wrap ((q : Int) * u) = (q : Int) * u := by rw [IntKind.wrap_i64]; omega
                    have hw3 : IntKind.i64.wrap (C (i0 : Int) * sumI l - (q : Int) * u) = C (i0 : Int) * sumI l - (q : Int) * u := by rw [IntKind.wrap_i64]; omega
                    have hw4 : IntKind.i64.wrap (-(C (i0 : Int) * sumI l - (q : Int) * u)) = -(C (i0 : Int) * sumI l - (q : Int) * u) := by rw [IntKind.wrap_i64]; omega
                    have hw5 : IntKind.i64.wrap (5 * sumI l) = 5 * sumI l := by rw [IntKind.wrap_i64]; omega
                    have hw6 : IntKind.i64.wrap (5 * sumI l * u) = 5 * sumI l * u := by rw [IntKind.wrap_i64]; omega
                    generalize C (i0 : Int) = ci at *
                    clear hu hab hc0 hu2 hcb hP0 hP1 hQ0 hQ1 hR1 hj20 hq6 hsb HC5
                    go_wp2_with fail
                    go_region_held3 (fun w' => w'.cell? (ad.add i0) = some (.int .i64 u)) (first | exact HS0.out | go_keep)
                      (first
                        | (go_at_call 31; refine KS.out.mono ?_; rintro e w6 ⟨rfl, rfl⟩))
                    by_cases hneg : ci * sumI l - (q : Int) * u < 0
                    · have hgt : decide (5 * sumI l * u < -(ci * sumI l - (q : Int) * u)) = false := by simp; omega
                      clear KS HS0 HW ho hR0 hR2
                      go_wp2_with fail
                      go_roundw
                      case rel => exact ⟨i0 + 1, by go_num, by omega, HC6⟩
                      case measure => simp [intOf]; omega
                    · have hgt : decide (5 * sumI l * u < ci * sumI l - (q : Int) * u) = false := by simp; omega
                      clear KS HS0 HW ho hR0 hR2
                      go_wp2_with fail
                      go_roundw
                      case rel => exact ⟨i0 + 1, by go_num, by omega, HC6⟩
                      case measure => simp [intOf]; omega
                  · have HB : Hid (Below w.heap.size w wr) := Lib.hid HC5.out.frame
                    have hlt' : decide ((i0 : Int) < (j : Int)) = false := by simp; omega
                    clear HC5
                    go_wp2_with fail
                    go_ret
                    exact ⟨rfl, HB.out⟩
      · rw [if_neg (fun h => ht h.1)] at h
        obtain ⟨rfl, hb⟩ := h
        have HB2 := Lib.hid (HB.out.trans (hb.mono HB.out.size))
        clear KN hb
        go_wp2_with fail
        go_ret
        exact ⟨rfl, HB2.out⟩
end Go.Proofs.YtandmngfajoinaaGreat.Po
