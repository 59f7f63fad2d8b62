/- CoreLoads. -/
import Derived.Test.YtandmngfajoinaaGreatCc
import Derived.Test.YtandmngfajoinaaGreatFra
import Derived.Test.YtandmngfajoinaaGreatJl
namespace Go.Proofs.YtandmngfajoinaaGreat.Po
open Go.RowKit Go.Maps

theorem find_of {b0 c0 base id : Int} {T : List TI} (hw : WfS b0 c0 (cutL T)) : (hasI (cutL T) id = true → findV id (formU base T) = some (id, (getU T id).2.1, base - (getU T id).2.2.1)) ∧ (hasI (cutL T) id = false → findV id (formU base T) = none) := by
  have hmem : ∀ r ∈ formU base T, ∃ x ∈ T, r = (x.1, x.2.1, base - x.2.2.1) := fun r hr => by
    unfold formU formL at hr
    obtain ⟨q, hq, rfl⟩ := List.mem_map.1 hr
    obtain ⟨x, hx, rfl⟩ := List.mem_map.1 hq
    exact ⟨x, hx, rfl⟩
  refine ⟨fun hI => ?_, fun hI => ?_⟩
  · obtain ⟨h1, h2⟩ := getU_mem hI
    cases h : findV id (formU base T) with
    | none =>
      unfold findV at h
      rw [List.find?_eq_none] at h
      have hm : ((getU T id).1, (getU T id).2.1, base - (getU T id).2.2.1) ∈ formU base T := by
        unfold formU formL
        exact List.mem_map.2 ⟨_, cut_mem h1, rfl⟩
      exact absurd (by unfold idIs; simpa using h2) (h _ hm)
    | some r =>
      unfold findV at h
      obtain ⟨x, hx, rfl⟩ := hmem r (List.mem_of_find?_eq_some h)
      have hi := List.find?_some h
      unfold idIs at hi
      have hi' : x.1 = id := by simpa using hi
      have e := getU_of hw.asc hx
      rw [hi'] at e
      rw [e, hi']
  · refine find_none (fun r hr => ?_)
    obtain ⟨x, hx, rfl⟩ := hmem r hr
    unfold idIs
    have := hasU_no.1 hI x hx
    simpa using this
/-- Who comes adds its weight. -/
theorem ent_load (t : Int) (ex : Bool) (base : Int) (T : List TI) (x : RI) :
    ((entC t ex base T x).1 = 0 ∧ hasI (cutL T) x.1 = false ∧ allT (entC t ex base T x).2.2 = allT T + x.2.1 ∧ 1 ≤ x.2.1 ∧ x.2.1 ≤ 20) ∨ ((entC t ex base T x).1 ≠ 0 ∧ allT (entC t ex base T x).2.2 = allT T) := by
  have hcore : ∀ y : RI, y.1 = x.1 → y.2.1 = x.2.1 → itemB x = true → ((coreU base T y).1 = 0 ∧ hasI (cutL T) x.1 = false ∧ allT (coreU base T y).2.2 = allT T + x.2.1 ∧ 1 ≤ x.2.1 ∧ x.2.1 ≤ 20) ∨ ((coreU base T y).1 ≠ 0 ∧ allT (coreU base T y).2.2 = allT T) := fun y h1 h2 hi => by
    have hb := (itemB_true.1 hi).2.2.1
    unfold coreU
    rw [h1]
    cases hI : hasI (cutL T) x.1 with
    | true => rw [if_pos rfl]; exact .inr ⟨by simp, rfl⟩
    | false =>
      rw [if_neg Bool.false_ne_true]
      by_cases hl : 64 ≤ T.length
      · rw [if_pos hl]; exact .inr ⟨by simp, rfl⟩
      · rw [if_neg hl]
        refine .inl ⟨rfl, rfl, ?_, hb⟩
        show allT (insTT T (newU base y)) = _
        rw [allT_ins]
        have e : (newU base y).2.1 = y.2.1 := rfl
        rw [e, h2]
  unfold entC
  by_cases hi : itemB x = true
  · cases ex with
    | true => rw [if_pos rfl, put_core, if_pos hi]; exact hcore x rfl rfl hi
    | false => rw [if_neg Bool.false_ne_true]; unfold entP; rw [if_pos hi]; exact hcore _ rfl rfl hi
  · cases ex with
    | true => rw [if_pos rfl, put_core, if_neg hi]; exact .inr ⟨by simp, rfl⟩
    | false => rw [if_neg Bool.false_ne_true]; unfold entP; rw [if_neg hi]; exact .inr ⟨by simp, rfl⟩
theorem leave_load {base cur : Int} {T : List TI} (hw : WfS base cur (cutL T)) (id : Int) :
    (hasI (cutL T) id = true ∧ (leaveU base cur T id).2.1 = 0 ∧ allT (leaveU base cur T id).2.2.2.2 = allT T - (getU T id).2.1) ∨ (hasI (cutL T) id = false ∧ (leaveU base cur T id).2.1 = 2) := by
  unfold leaveU
  cases hI : hasI (cutL T) id with
  | true =>
    rw [if_pos rfl]
    refine .inl ⟨rfl, rfl, ?_⟩
    obtain ⟨h1, h2⟩ := getU_mem hI
    have := allT_del hw.asc h1
    rw [h2] at this
    exact this
  | false => rw [if_neg Bool.false_ne_true]; exact .inr ⟨rfl, rfl⟩
theorem all_bd {base cur : Int} {T : List TI} (hw : WfS base cur (cutL T)) : 0 ≤ allT T ∧ allT T ≤ 1280 := by
  have h := load_bd (base := base) (T := T) hw T.length
  have e : (formU base T).take T.length = formU base T := List.take_of_length_le (by rw [formU_length]; omega)
  rw [e, allT_form] at h
  exact h
theorem UpF.entC {t base : Int} {T : List TI} {k : Nat} (ex : Bool) (h : UpF base T k) (x : RI) : UpF (Po.entC t ex base T x).2.1 (Po.entC t ex base T x).2.2 (k + 1) := by
  unfold Po.entC
  cases ex with
  | true => rw [if_pos rfl]; exact h.put x
  | false => rw [if_neg Bool.false_ne_true]; exact h.enter t x

/-- An act's cells, as a walk spells them. -/
def Act6 (w : World) (a : Addr) (r : AC) : Prop :=
  w.cell? a = some (.int .i64 r.1) ∧ w.cell? ⟨a.block, a.off + 1, none⟩ = some (.int .i64 r.2.1) ∧ w.cell? ⟨a.block, a.off + 2, none⟩ = some (.int .i64 r.2.2.1) ∧ w.cell? ⟨a.block, a.off + 3, none⟩ = some (.int .i64 r.2.2.2.1) ∧ w.cell? ⟨a.block, a.off + 4, none⟩ = some (.int .i64 r.2.2.2.2.1) ∧ w.cell? ⟨a.block, a.off + 5, none⟩ = some (.bool r.2.2.2.2.2)
theorem acts_at {w0 : World} {A : Option Addr} {l : List AC} {k : Nat} (h : ARow w0 A l) (hk : k < l.length) :
    ∃ ad r, A = some ad ∧ l[k]? = some r ∧ (∀ w, Below w0.heap.size w0 w → Act6 w (ad.add (k * 6)) r) ∧ (wf64 r.2.1 ∧ wf64 r.2.2.1 ∧ wf64 r.2.2.2.1 ∧ wf64 r.2.2.2.2.1) := by
  obtain ⟨r, hr⟩ : ∃ r, l[k]? = some r := ⟨_, List.getElem?_eq_getElem hk⟩
  obtain ⟨ad, hA, hbl, ⟨c0, c1, c2, c3, c4, c5⟩, hw⟩ := h k r hr
  refine ⟨ad, r, hA, hr, fun w hb => ?_, hw⟩
  have e : ∀ j v, w0.cell? (ad.add (k * 6 + j)) = some v → w.cell? (ad.add (k * 6 + j)) = some v := fun j v hv => (hb.cell (p := ad.add (k * 6 + j)) (by rw [add_block]; exact hbl)).trans hv
  refine ⟨e 0 _ c0, ?_, ?_, ?_, ?_, ?_⟩
  · rw [add_next]; exact e 1 _ c1
  · rw [add_next]; exact e 2 _ c2
  · rw [add_next]; exact e 3 _ c3
  · rw [add_next]; exact e 4 _ c4
  · rw [add_next]; exact e 5 _ c5

/-- k acts are done. -/
def LdAt (t : Int) (w wr : World) (o k : Nat) : Prop := ∃ base cur T age, CIn t w wr o base cur T (fun _ => 0) 0 age (4000 + 24 * k) k (fun _ => False) ∧ UpF base T k
/-- An act's item has been looked for. -/
def LdBox (t : Int) (w wx : World) (o k bb : Nat) (base cur age : Int) (T : List TI) (x : RI) : Prop := CIn t w wx o base cur T (fun _ => 0) 0 age (4000 + 24 * k) k (fun j => j = bb) ∧ ItAt wx bb x
theorem ld_box {t : Int} {w w3 wx : World} {o k bb : Nat} {base cur age : Int} {T : List TI} {x : RI} (hc : CIn t w w3 o base cur T (fun _ => 0) 0 age (4000 + 24 * k) k (fun _ => False)) (hb : Below w3.heap.size w3 wx) (hn : w3.heap.size ≤ bb) (hi : ItAt wx bb x) : LdBox t w wx o k bb base cur age T x :=
  ⟨hc.more hb (fun j hj => .inr ⟨by omega, by rw [hj]; exact BoxAt.lt hi⟩), hi⟩

/-- The tail of a round: what Load gives. -/
theorem ld_tail {t : Int} {w w8 : World} {o k S2 N2 : Nat} {base cur age : Int} {T : List TI} {F : Nat → Prop} {a : Addr} {v : Value} (hc : CIn t w w8 o base cur T (fun _ => 0) 0 age S2 N2 F) (hS : S2 ≤ 4000 + 24 * (k + 1)) (hN : N2 ≤ k + 1) (hu : UpF base T (k + 1)) (hX : ∀ w', Below w8.heap.size w8 w' → w'.cell? a = some v) :
    w8.drew.cell? a = some v ∧ Hid (Calls Tryz.prog 30 #[.pointer (some ⟨o, 0, none⟩)] w8.drew fun e w' => e = .returned (.int .i64 (allT T)) ∧ w'.cell? a = some v ∧ Hid (LdAt t w w' o (k + 1))) ∧ Hid (LdAt t w w8 o (k + 1)) := by
  have hd := (hc.more (G := fun _ => False) (Below.refl _ w8).drew (fun _ h => h.elim)).weak hS hN
  refine ⟨hX _ (Below.refl _ w8).drew, Lib.hid ((cload_in hd).mono ?_), Lib.hid ⟨_, _, _, _, (hc.more (Below.refl _ w8) (fun _ h => h.elim)).weak hS hN, hu⟩⟩
  rintro e w' ⟨he, hb⟩
  exact ⟨he, hX _ ((Below.refl _ w8).drew.trans hb), Lib.hid ⟨_, _, _, _, hd.below hb, hu⟩⟩

set_option maxRecDepth 100000 in
set_option linter.unusedSimpArgs false in
set_option maxHeartbeats 40000000 in
theorem cloads_c (t : Int) (A : Option Addr) (c : Nat) (l : List AC) (w : World) (hr : ARow w A l) :
    Calls Tryz.prog 5 #[.int .i64 t, .slice A l.length c] w fun e w' => e = .returned (.bool true) ∧ Below w.heap.size w w' := by
  have KA := Lib.hid (awake15_c w)
  obtain ⟨m, hm⟩ : ∃ m, l.length = m := ⟨_, rfl⟩
  rw [hm]
  have HR := Lib.hid hr
  have HN := Lib.hid hm
  clear hr hm
  go_enter Tryz.func5, Tryz.ntmps5
  go_wp2_with fail
  refine KA.out.mono ?_
  rintro e w1 ⟨rfl, hb⟩
  have KN := Lib.hid (cnew_in t 0 hb (F := fun _ => False) (fun _ h => h.elim))
  have HB1 := Lib.hid hb
  clear hb KA
  by_cases h80 : (80 : Int) < (m : Int)
  · go_wp2_with fail
    go_ret
    exact ⟨rfl, HB1.out⟩
  have HM := Lib.hid (show m ≤ 80 by omega)
  go_wp2_with fail
  refine KN.out.mono ?_
  intro e w2 h
  unfold CSeedP at h
  by_cases ht : Tag t
  · rw [if_pos ⟨ht, good_none, by decide, by decide⟩] at h
    obtain ⟨o, rfl, hc, -⟩ := h
    have HS0 : Hid (LdAt t w w2 o 0) := Lib.hid ⟨_, _, _, _, hc, seed_upF good_none (by decide) (by decide)⟩
    clear hc KN HB1 ht
    go_wp2_with fail
    go_loopw [7] (fun i wr => ∃ k : Nat, i = .int .i64 k ∧ k ≤ m ∧ Hid (LdAt t w wr o k)) (fun i _ => m - (intOf i).toNat)
    case atStart => exact ⟨0, rfl, Nat.zero_le _, HS0⟩
    case round =>
      obtain ⟨k, rfl, hk, HE⟩ := hrel
      clear HS0
      by_cases hlt : k < m
      · obtain ⟨base, cur, T, age, hc, hu⟩ := HE.out
        obtain ⟨ad, ⟨a0, i, n, g, v, ex⟩, rfl, -, hcell, hwi, hwn, -, hwv⟩ := acts_at HR.out (by rw [HN.out]; exact hlt)
        simp only at hwi hwn hwv
        have HX := Lib.hid hcell
        have HI := Lib.hid (And.intro hwi (And.intro hwn hwv))
        have HU := Lib.hid hu
        have HC := Lib.hid hc
        have KL := Lib.hid (cload_in hc)
        have hlt' : (k : Int) < (m : Int) := by omega
        clear hc hu hcell hwi hwn hwv HE
        go_wp2_with fail
        refine KL.out.mono ?_
        rintro e w3 ⟨rfl, hb⟩
        have HC3 := Lib.hid (HC.out.below hb)
        clear hb KL HC
        obtain ⟨fd, hfd⟩ : ∃ fd, findV i (formU base T) = fd := ⟨_, rfl⟩
        have HFD := Lib.hid hfd
        have KF : Hid (∀ W, Below w3.heap.size w3 W → Calls Tryz.prog 21 #[.pointer (some ⟨o, 0, none⟩)] W fun e w' => ∃ A8 c8, e = .returned (.agg #[.int .i64 cur, .slice A8 T.length c8]) ∧ Below W.heap.size W w' ∧ Below w3.heap.size w3 w' ∧ Hid (∀ W2, Below w'.heap.size w' W2 → Calls Tryz.prog 32 #[.agg #[.int .i64 cur, .slice A8 T.length c8], .int .i64 i] W2 fun e w'' => e = .returned (.tuple #[.agg #[.int .i64 (fd.getD (0, 0, 0)).1, .int .i64 (fd.getD (0, 0, 0)).2.1, .int .i64 (fd.getD (0, 0, 0)).2.2], .bool fd.isSome]) ∧ Below W2.heap.size W2 w'' ∧ Below w3.heap.size w3 w'')) := Lib.hid (fun W hbW => by
          refine (cform_in (HC3.out.below hbW)).mono ?_
          rintro e w' ⟨A8, c8, rfl, hT, hb⟩
          have hb3 := hbW.trans (hb.mono hbW.size)
          refine ⟨A8, c8, rfl, hb, hb3, Lib.hid (fun W2 hb2 => ?_)⟩
          have K := find_c cur A8 T.length c8 i (formU base T) W2 (formU_length _ _) (by have := len_of HC3.out.wf; omega) (hT.below hb2 (Nat.le_refl _))
          rw [HFD.out] at K
          refine K.mono ?_
          rintro e w'' ⟨he, hb''⟩
          exact ⟨he, hb'', hb3.trans ((hb2.trans (hb''.mono hb2.size)).mono hb3.size)⟩)
        have HW : Hid (∀ W, Below w3.heap.size w3 W → W.cell? ⟨(ad.add (k * 6)).block, (ad.add (k * 6)).off + 1, none⟩ = some (.int .i64 i)) := Lib.hid (fun W hb => (HX.out W (HC3.out.frame.trans (hb.mono HC3.out.frame.size))).2.1)
        have HXX : Hid (∀ wx bb, Below w3.heap.size w3 wx → w3.heap.size ≤ bb → ItAt wx bb (fd.getD (0, 0, 0)) → LdBox t w wx o k bb base cur age T (fd.getD (0, 0, 0))) := Lib.hid (fun wx bb h1 h2 h3 => ld_box HC3.out h1 h2 h3)
        obtain ⟨x, hx⟩ : ∃ x, fd.getD (0, 0, 0) = x := ⟨_, rfl⟩
        obtain ⟨zb, hzb⟩ : ∃ zb, fd.isSome = zb := ⟨_, rfl⟩
        obtain ⟨ln, hln⟩ : ∃ ln, T.length = ln := ⟨_, rfl⟩
        rw [hx, hzb, hln] at KF
        rw [hx] at HXX
        have HFX := Lib.hid (And.intro hx hzb)
        have HB0 := Lib.hid (Below.refl w3.heap.size w3).drew
        have HBA := Lib.hid ((Below.refl w3.heap.size w3).alloc (Nat.le_refl _) (.cells #[.int .i64 0, .int .i64 0, .int .i64 0] 69)).drew
        have HS := Lib.hid (HW.out w3 (Below.refl _ _))
        clear hfd hx hzb hln
        go_upto_region 12 with fail
        go_cut [9, 10] from 26 to 125 (fun p b wx => ∃ bb, p = .pointer (some ⟨bb, 0, none⟩) ∧ b = .bool zb ∧ Hid (LdBox t w wx o k bb base cur age T x))
        case first =>
          clear HU HI HX HC3 HFD
          go_region_held3 (fun w' => w'.cell? ⟨(ad.add (k * 6)).block, (ad.add (k * 6)).off + 1, none⟩ = some (.int .i64 i)) (first | exact HS.out | exact HW.out _ HB0.out | exact HW.out _ HBA.out | exact HW.out _ HB5.out | exact HW.out _ (HB5.out.alloc HB5.out.size _) | exact HW.out _ HB6.out | exact HW.out _ (HB6.out.alloc HB6.out.size _) | exact HW.out _ (below_set3 HB6.out (Nat.le_refl _) _ _ _) | exact HW.out _ (below_set3 HB6.out HB5.out.size _ _ _))
            (first
              | (go_at_call 21; with_reducible refine (KF.out _ HB0.out).mono ?_; rintro e w5 ⟨A8, c8, rfl, hb2, hb, KE⟩; have HB5 := Lib.hid hb; clear hb2 hb)
              | (go_at_call 21; with_reducible refine (KF.out _ HBA.out).mono ?_; rintro e w5 ⟨A8, c8, rfl, hb2, hb, KE⟩
                 have hz : w5.heap[w3.heap.size]? = some (.cells #[.int .i64 0, .int .i64 0, .int .i64 0] 69 (0, 0)) := (hb2.block _ (by show _ < (w3.alloc _).heap.size; simp)).trans (World.alloc_heap_new w3 _)
                 have HZ := Lib.hid hz
                 have HB5 := Lib.hid hb; clear hb2 hb hz)
              | (go_at_call 32; with_reducible refine (KE.out _ (Below.refl _ w5)).mono ?_; rintro e w6 ⟨rfl, hb2, hb⟩
                 have hz := (hb2.block _ (BoxAt.lt HZ.out)).trans HZ.out
                 obtain ⟨r0, r1, r2, f0, f1, f2⟩ := zero3 hz
                 have HZ6 := Lib.hid hz
                 have HB6 := Lib.hid hb; clear hb2 hb hz)
              | (go_at_call 32; with_reducible refine (KE.out _ (Below.refl _ w5)).mono ?_; rintro e w6 ⟨rfl, hb2, hb⟩; have HB6 := Lib.hid hb; clear hb2 hb)
              | (go_at_call 32; with_reducible refine (KE.out _ ((Below.refl _ w5).alloc (Nat.le_refl _) _)).mono ?_; rintro e w6 ⟨rfl, hb2, hb⟩
                 have hz : w6.heap[w5.heap.size]? = some (.cells #[.int .i64 0, .int .i64 0, .int .i64 0] 69 (0, 0)) := (hb2.block _ (by show _ < (w5.alloc _).heap.size; simp)).trans (World.alloc_heap_new w5 _)
                 obtain ⟨r0, r1, r2, f0, f1, f2⟩ := zero3 hz
                 have HZ6 := Lib.hid hz
                 have HB6 := Lib.hid hb; clear hb2 hb hz))
          · have HLD := Lib.hid (HXX.out _ w6.heap.size (HB6.out.alloc HB6.out.size _) HB6.out.size (heap_alloc_new w6 _))
            clear HXX HB6 HB5 HB0 HBA HS KF KE HW
            go_wp2_with fail
            go_meet
            exact ⟨_, rfl, rfl, HLD⟩
          · have HLD := Lib.hid (HXX.out _ w5.heap.size (below_set3 HB6.out HB5.out.size _ _ _) HB5.out.size (set3_same _ _ _ HZ6.out))
            clear HXX HB6 HB5 HB0 HBA HS KF KE HW HZ6
            go_wp2_with fail
            go_meet
            exact ⟨_, rfl, rfl, HLD⟩
          · have HLD := Lib.hid (HXX.out _ w3.heap.size (below_set3 HB6.out (Nat.le_refl _) _ _ _) (Nat.le_refl _) (set3_same _ _ _ HZ6.out))
            clear HXX HB6 HB5 HB0 HBA HS KF KE HW HZ6 HZ
            go_wp2_with fail
            go_meet
            exact ⟨_, rfl, rfl, HLD⟩
        case rest =>
          obtain ⟨bb, rfl, rfl, HL⟩ := hcut
          obtain ⟨x0, x1, x2, -, x4, x5⟩ := HX.out _ HL.out.1.frame
          simp only at x0 x1 x2 x4 x5
          have hwf := HL.out.1.wf
          have hab := all_bd hwf
          have hfo := find_of (base := base) (id := i) hwf
          rw [HFD.out] at hfo
          have HFO := Lib.hid hfo
          clear KF HXX HB0 HBA HS HW HC3 HFD hfo
          by_cases ho : a0 = 1
          · subst ho
            have KL0 := cleave_in i HL.out.1 HI.out.1 (by omega) (by omega)
            have hu2 := HU.out.leave hwf.asc (cur := cur) i
            rcases leave_load hwf i with ⟨hI, e1, e2⟩ | ⟨hI, e1⟩
            · have hfd := HFO.out.1 hI
              rw [hfd] at HFX
              obtain ⟨rfl, rfl⟩ := HFX.out
              simp only [Option.getD_some, Option.isSome_some] at HL ⊢
              rw [e1, upI_zero] at KL0
              have KL := Lib.hid KL0
              have HAL := Lib.hid (And.intro e2 hu2)
              have HIT := Lib.hid HL.out.2
              clear KL0 e1 e2 hu2 hfd HFX HFO hwf HU HL hI
              generalize (getU T i).2.1 = wg at *
              generalize (leaveU base cur T i).1 = r0 at *
              generalize (leaveU base cur T i).2.2.1 = base2 at *
              generalize (leaveU base cur T i).2.2.2.1 = cur2 at *
              generalize (leaveU base cur T i).2.2.2.2 = T2 at *
              go_wp2_with fail
              refine KL.out.mono ?_
              rintro e w8 ⟨rfl, hc8, hF8⟩
              have hi8 : ItAt w8 bb _ := (hF8 bb rfl).trans HIT.out
              obtain ⟨y1, KD, -⟩ := ld_tail (k := k) hc8 (by omega) (by omega) HAL.out.2 (a := ⟨bb, 1, none⟩) (fun w' hb => BoxAt.cell (BoxAt.next (w1 := w') hi8 hb (Nat.le_refl _)))
              have HS0 := Lib.hid y1
              have hal := all_bd hc8.wf
              have hw1 : IntKind.i64.wrap (allT T - wg) = allT T2 := by have := HAL.out.1; rw [IntKind.wrap_i64]; omega
              have hq : (allT T2 == allT T2) = true := by simp
              clear hc8 hF8 hi8 KL HAL HIT
              go_wp2_with fail
              go_region_held3 (fun w' => w'.cell? ⟨bb, 1, none⟩ = some (.int .i64 wg)) (first | exact HS0.out | exact HS1.out | go_keep)
                (first
                  | (go_at_call 30; refine KD.out.mono ?_; rintro e w9 ⟨rfl, hS, HLD⟩; have HS1 := Lib.hid hS; clear hS))
              go_wp2_with fail
              go_roundw
              case rel => exact ⟨k + 1, by go_num, by omega, HLD⟩
              case measure => simp [intOf]; omega
            · have hfd := HFO.out.2 hI
              rw [hfd] at HFX
              obtain ⟨rfl, rfl⟩ := HFX.out
              simp only [Option.getD_none, Option.isSome_none] at HL ⊢
              rw [e1] at KL0
              have KL := Lib.hid KL0
              have HU2 := Lib.hid hu2
              clear KL0 e1 hu2 hfd HFX HFO hwf HU HL hI
              generalize (leaveU base cur T i).1 = r0 at *
              go_wp2_with fail
              refine KL.out.mono ?_
              rintro e w8 ⟨rfl, hc8, -⟩
              have HLD : Hid (∀ q, LdAt t w (w8.drewN q) o (k + 1)) := Lib.hid (fun q => ⟨_, _, _, _, (hc8.more (below_drewN (Below.refl _ w8) q) (fun _ h => h.elim)).weak (by omega) (by omega), HU2.out⟩)
              clear KL hc8 HU2
              go_wp2_with fail
              go_big_quiet (fail)
              go_wp2_with fail
              go_roundw
              case rel => exact ⟨k + 1, by go_num, by omega, Lib.hid (HLD.out _)⟩
              case measure => simp [intOf]; omega
          · have ho' : (a0 == 1) = false := by simp [ho]
            have hd := HL.out.1.below (Below.refl _ _).drew
            have hlo := HU.out.lo
            have hhi := HU.out.hi
            have hm80 := HM.out
            have KE0 := center_in (i, n, v) ex hd (by omega) (by omega) (by omega) (by omega)
            have hu2 := HU.out.entC (t := t) ex (i, n, v)
            have HXY : Hid (∀ W, Below w.heap.size w W → W.cell? (ad.add (k * 6)) = some (.int .i64 a0) ∧ W.cell? ⟨(ad.add (k * 6)).block, (ad.add (k * 6)).off + 1, none⟩ = some (.int .i64 i) ∧ W.cell? ⟨(ad.add (k * 6)).block, (ad.add (k * 6)).off + 2, none⟩ = some (.int .i64 n) ∧ W.cell? ⟨(ad.add (k * 6)).block, (ad.add (k * 6)).off + 4, none⟩ = some (.int .i64 v) ∧ W.cell? ⟨(ad.add (k * 6)).block, (ad.add (k * 6)).off + 5, none⟩ = some (.bool ex)) := Lib.hid (fun W hb => by
              obtain ⟨z0, z1, z2, -, z4, z5⟩ := HX.out W hb
              exact ⟨z0, z1, z2, z4, z5⟩)
            have KE := Lib.hid (KE0.mono (fun e w' hp => (⟨hp.1, ((HXY.out w' hp.2.1.frame).2), Lib.hid hp.2.1⟩ : _ ∧ (w'.cell? ⟨(ad.add (k * 6)).block, (ad.add (k * 6)).off + 1, none⟩ = some (.int .i64 i) ∧ w'.cell? ⟨(ad.add (k * 6)).block, (ad.add (k * 6)).off + 2, none⟩ = some (.int .i64 n) ∧ w'.cell? ⟨(ad.add (k * 6)).block, (ad.add (k * 6)).off + 4, none⟩ = some (.int .i64 v) ∧ w'.cell? ⟨(ad.add (k * 6)).block, (ad.add (k * 6)).off + 5, none⟩ = some (.bool ex)) ∧ Hid _)))
            have HS0 := Lib.hid (HXY.out _ hd.frame).2
            have HU2 := Lib.hid hu2
            have hcase := ent_load t ex base T (i, n, v)
            clear KE0 hd hlo hhi hu2 HX HU HL hwf
            simp only at hcase
            rcases hcase with ⟨e0, hI, e2, e3, e4⟩ | ⟨e0, e2⟩
            · have hfd := HFO.out.2 hI
              rw [hfd] at HFX
              obtain ⟨rfl, rfl⟩ := HFX.out
              simp only [Option.getD_none, Option.isSome_none]
              rw [e0, upI_zero] at KE
              have HAL := Lib.hid e2
              clear e0 hI hfd HFX HFO e2
              generalize (Po.entC t ex base T (i, n, v)).2.1 = base2 at *
              generalize (Po.entC t ex base T (i, n, v)).2.2 = T2 at *
              go_wp2_with fail
              go_region_held3 (fun w' => w'.cell? ⟨(ad.add (k * 6)).block, (ad.add (k * 6)).off + 1, none⟩ = some (.int .i64 i) ∧ w'.cell? ⟨(ad.add (k * 6)).block, (ad.add (k * 6)).off + 2, none⟩ = some (.int .i64 n) ∧ w'.cell? ⟨(ad.add (k * 6)).block, (ad.add (k * 6)).off + 4, none⟩ = some (.int .i64 v) ∧ w'.cell? ⟨(ad.add (k * 6)).block, (ad.add (k * 6)).off + 5, none⟩ = some (.bool ex)) (first | exact HS0.out | exact HS1.out | go_keep)
                (first
                  | (go_at_call 11; refine KE.out.mono ?_; rintro e w8 ⟨rfl, hS, HC8⟩; have HS1 := Lib.hid hS; clear hS))
              go_wp2_with fail
              obtain ⟨y1, KD, -⟩ := ld_tail (k := k) HC8.out (by omega) (by omega) HU2.out (a := ⟨(ad.add (k * 6)).block, (ad.add (k * 6)).off + 2, none⟩) (fun w' hb => (HXY.out w' (HC8.out.frame.trans (hb.mono HC8.out.frame.size))).2.2.1)
              have hal := all_bd HC8.out.wf
              have hw1 : IntKind.i64.wrap (allT T + n) = allT T2 := by have := HAL.out; rw [IntKind.wrap_i64]; omega
              have hq : (allT T2 == allT T2) = true := by simp
              clear HC8 HS0 HS1 KE HXY HU2 HAL
              have HS3 := Lib.hid y1
              clear y1
              -- REG A
              refine wp_region_held_drew (S := fun w' => w'.cell? ⟨(ad.add (k * 6)).block, (ad.add (k * 6)).off + 2, none⟩ = some (.int .i64 n)) (by kernel_rfl) HS3.out (fun hHeld => ?_)
              refine wpAnyH_take (i := 0) (v := .int .i64 0) rfl (by kernel_rfl) (by kernel_rfl) (by kernel_rfl) (fun _ _ _ h => h) (Or.inl ⟨by rfl, ?_⟩) hHeld ?_
              · intro w' hSw; go_simp
              simp only [List.getElem_toArray, List.getElem_cons_zero, List.getElem_cons_succ, Act.put, List.setIfInBounds_toArray, List.set_cons_zero, List.set_cons_succ]
              refine wpAnyH_take (i := 1) (v := .bool true) rfl (by kernel_rfl) (by kernel_rfl) (by kernel_rfl) (fun _ _ _ h => h) (Or.inl ⟨by rfl, ?_⟩) hHeld ?_
              · intro w' hSw; go_simp
              simp only [List.getElem_toArray, List.getElem_cons_zero, List.getElem_cons_succ, Act.put, List.setIfInBounds_toArray, List.set_cons_zero, List.set_cons_succ]
              refine wpAnyH_take (i := 2) (v := .bool true) rfl (by kernel_rfl) (by kernel_rfl) (by kernel_rfl) (fun _ _ _ h => h) (Or.inl ⟨by rfl, ?_⟩) hHeld ?_
              · intro w' hSw; go_simp
              simp only [List.getElem_toArray, List.getElem_cons_zero, List.getElem_cons_succ, Act.put, List.setIfInBounds_toArray, List.set_cons_zero, List.set_cons_succ]
              refine wpAnyH_take (i := 3) (v := .bool false) rfl (by kernel_rfl) (by kernel_rfl) (by kernel_rfl) (fun _ _ _ h => h) (Or.inl ⟨by rfl, ?_⟩) hHeld ?_
              · intro w' hSw; go_simp
              simp only [List.getElem_toArray, List.getElem_cons_zero, List.getElem_cons_succ, Act.put, List.setIfInBounds_toArray, List.set_cons_zero, List.set_cons_succ]
              refine wpAnyH_take (i := 4) (v := .bool false) rfl (by kernel_rfl) (by kernel_rfl) (by kernel_rfl) (fun _ _ _ h => h) (Or.inl ⟨by rfl, ?_⟩) hHeld ?_
              · intro w' hSw; go_simp
              simp only [List.getElem_toArray, List.getElem_cons_zero, List.getElem_cons_succ, Act.put, List.setIfInBounds_toArray, List.set_cons_zero, List.set_cons_succ]
              refine wpAnyH_take (i := 5) (v := .pointer (some ⟨o, 0, none⟩)) rfl (by kernel_rfl) (by kernel_rfl) (by kernel_rfl) (fun _ _ _ h => h) (Or.inl ⟨by rfl, ?_⟩) hHeld ?_
              · intro w' hSw; go_simp
              simp only [List.getElem_toArray, List.getElem_cons_zero, List.getElem_cons_succ, Act.put, List.setIfInBounds_toArray, List.set_cons_zero, List.set_cons_succ]
              refine wpAnyH_take (i := 7) (v := .int .i64 (allT T)) rfl (by kernel_rfl) (by kernel_rfl) (by kernel_rfl) (fun _ _ _ h => h) (Or.inl ⟨by rfl, ?_⟩) hHeld ?_
              · intro w' hSw; go_simp
              simp only [List.getElem_toArray, List.getElem_cons_zero, List.getElem_cons_succ, Act.put, List.setIfInBounds_toArray, List.set_cons_zero, List.set_cons_succ]
              refine wpAnyH_take (i := 8) (v := .slice (some ad) m c) rfl (by kernel_rfl) (by kernel_rfl) (by kernel_rfl) (fun _ _ _ h => h) (Or.inl ⟨by rfl, ?_⟩) hHeld ?_
              · intro w' hSw; go_simp
              simp only [List.getElem_toArray, List.getElem_cons_zero, List.getElem_cons_succ, Act.put, List.setIfInBounds_toArray, List.set_cons_zero, List.set_cons_succ]
              refine wpAnyH_take (i := 9) (v := .int .i64 k) rfl (by kernel_rfl) (by kernel_rfl) (by kernel_rfl) (fun _ _ _ h => h) (Or.inl ⟨by rfl, ?_⟩) hHeld ?_
              · intro w' hSw; go_simp
              simp only [List.getElem_toArray, List.getElem_cons_zero, List.getElem_cons_succ, Act.put, List.setIfInBounds_toArray, List.set_cons_zero, List.set_cons_succ]
              refine wpAnyH_take (i := 10) (v := .pointer (some (ad.add (k * 6)))) rfl (by kernel_rfl) (by kernel_rfl) (by kernel_rfl) (fun _ _ _ h => h) (Or.inl ⟨by rfl, ?_⟩) hHeld ?_
              · intro w' hSw; go_simp
              simp only [List.getElem_toArray, List.getElem_cons_zero, List.getElem_cons_succ, Act.put, List.setIfInBounds_toArray, List.set_cons_zero, List.set_cons_succ]
              refine wpAnyH_take (i := 11) (v := .pointer (some ⟨(ad.add (k * 6)).block, (ad.add (k * 6)).off + 2, none⟩)) rfl (by kernel_rfl) (by kernel_rfl) (by kernel_rfl) (fun _ _ _ h => h) (Or.inl ⟨by rfl, ?_⟩) hHeld ?_
              · intro w' hSw; go_simp
              simp only [List.getElem_toArray, List.getElem_cons_zero, List.getElem_cons_succ, Act.put, List.setIfInBounds_toArray, List.set_cons_zero, List.set_cons_succ]
              refine wpAnyH_take (i := 12) (v := .int .i64 n) rfl (by kernel_rfl) (by kernel_rfl) (by kernel_rfl) (fun _ _ _ h => h) (Or.inl ⟨by rfl, ?_⟩) hHeld ?_
              · intro w' hSw; go_simp
              simp only [List.getElem_toArray, List.getElem_cons_zero, List.getElem_cons_succ, Act.put, List.setIfInBounds_toArray, List.set_cons_zero, List.set_cons_succ]
              refine wpAnyH_take (i := 13) (v := .int .i64 (allT T2)) rfl (by kernel_rfl) (by kernel_rfl) (by kernel_rfl) (fun _ _ _ h => h) (Or.inl ⟨by rfl, ?_⟩) hHeld ?_
              · intro w' hSw; go_simp
              simp only [List.getElem_toArray, List.getElem_cons_zero, List.getElem_cons_succ, Act.put, List.setIfInBounds_toArray, List.set_cons_zero, List.set_cons_succ]
              refine wpAnyH_ready (rs := [6]) (by kernel_rfl) (by simp) ?_
              refine AllReadyH.cons rfl (fun K hK => ?_) AllReadyH.nil
              simp only [List.getElem_toArray, List.getElem_cons_zero, List.getElem_cons_succ]
              go_simp
              refine KD.out.mono ?_
              rintro e w9 ⟨rfl, hS, HLD⟩
              have HS4 := Lib.hid hS
              refine hK.out _ _ hS (fun _ => ?_)
              clear hK hS K
              try simp only [List.getElem_toArray, List.getElem_cons_zero, List.getElem_cons_succ, Act.put, List.setIfInBounds_toArray, List.set_cons_zero, List.set_cons_succ]
              refine wpAnyH_take (i := 14) (v := .bool false) rfl (by kernel_rfl) (by kernel_rfl) (by kernel_rfl) (fun _ _ _ h => h) (Or.inl ⟨by rfl, ?_⟩) HS4.out ?_
              · intro w' hSw; go_simp
              simp only [List.getElem_toArray, List.getElem_cons_zero, List.getElem_cons_succ, Act.put, List.setIfInBounds_toArray, List.set_cons_zero, List.set_cons_succ]
              refine wpAnyH_take (i := 15) (v := .bool false) rfl (by kernel_rfl) (by kernel_rfl) (by kernel_rfl) (fun _ _ _ h => h) (Or.inl ⟨by rfl, ?_⟩) HS4.out ?_
              · intro w' hSw; go_simp
              simp only [List.getElem_toArray, List.getElem_cons_zero, List.getElem_cons_succ, Act.put, List.setIfInBounds_toArray, List.set_cons_zero, List.set_cons_succ]
              refine wpAnyH_take (i := 16) (v := .bool false) rfl (by kernel_rfl) (by kernel_rfl) (by kernel_rfl) (fun _ _ _ h => h) (Or.inl ⟨by rfl, ?_⟩) HS4.out ?_
              · intro w' hSw; go_simp
              simp only [List.getElem_toArray, List.getElem_cons_zero, List.getElem_cons_succ, Act.put, List.setIfInBounds_toArray, List.set_cons_zero, List.set_cons_succ]
              refine wpAnyH_take (i := 17) (v := .bool false) rfl (by kernel_rfl) (by kernel_rfl) (by kernel_rfl) (fun _ _ _ h => h) (Or.inl ⟨by rfl, ?_⟩) HS4.out ?_
              · intro w' hSw; go_simp
              simp only [List.getElem_toArray, List.getElem_cons_zero, List.getElem_cons_succ, Act.put, List.setIfInBounds_toArray, List.set_cons_zero, List.set_cons_succ]
              refine wpAnyH_take (i := 18) (v := .int .i64 0) rfl (by kernel_rfl) (by kernel_rfl) (by kernel_rfl) (fun _ _ _ h => h) (Or.inl ⟨by rfl, ?_⟩) HS4.out ?_
              · intro w' hSw; go_simp
              simp only [List.getElem_toArray, List.getElem_cons_zero, List.getElem_cons_succ, Act.put, List.setIfInBounds_toArray, List.set_cons_zero, List.set_cons_succ]
              refine wpAnyH_take (i := 19) (v := .bool false) rfl (by kernel_rfl) (by kernel_rfl) (by kernel_rfl) (fun _ _ _ h => h) (Or.inl ⟨by rfl, ?_⟩) HS4.out ?_
              · intro w' hSw; go_simp
              simp only [List.getElem_toArray, List.getElem_cons_zero, List.getElem_cons_succ, Act.put, List.setIfInBounds_toArray, List.set_cons_zero, List.set_cons_succ]
              refine wpAnyH_take (i := 20) (v := .bool false) rfl (by kernel_rfl) (by kernel_rfl) (by kernel_rfl) (fun _ _ _ h => h) (Or.inl ⟨by rfl, ?_⟩) HS4.out ?_
              · intro w' hSw; go_simp
              simp only [List.getElem_toArray, List.getElem_cons_zero, List.getElem_cons_succ, Act.put, List.setIfInBounds_toArray, List.set_cons_zero, List.set_cons_succ]
              refine wpAnyH_take (i := 21) (v := undef) rfl (by kernel_rfl) (by kernel_rfl) (by kernel_rfl) (fun _ _ _ h => h) (Or.inr ⟨by rfl, rfl⟩) HS4.out ?_
              simp only [List.getElem_toArray, List.getElem_cons_zero, List.getElem_cons_succ, Act.put, List.setIfInBounds_toArray, List.set_cons_zero, List.set_cons_succ]
              refine wpAnyH_take (i := 23) (v := undef) rfl (by kernel_rfl) (by kernel_rfl) (by kernel_rfl) (fun _ _ _ h => h) (Or.inr ⟨by rfl, rfl⟩) HS4.out ?_
              simp only [List.getElem_toArray, List.getElem_cons_zero, List.getElem_cons_succ, Act.put, List.setIfInBounds_toArray, List.set_cons_zero, List.set_cons_succ]
              refine wpAnyH_ready (rs := [22]) (by kernel_rfl) (by simp) ?_
              refine AllReadyH.cons rfl (fun K hK => ?_) AllReadyH.nil
              simp only [List.getElem_toArray, List.getElem_cons_zero, List.getElem_cons_succ]
              go_simp
              refine hK.out _ _ HS4.out (fun _ => ?_)
              clear hK K
              try simp only [List.getElem_toArray, List.getElem_cons_zero, List.getElem_cons_succ, Act.put, List.setIfInBounds_toArray, List.set_cons_zero, List.set_cons_succ]
              refine wpAnyH_take (i := 24) (v := undef) rfl (by kernel_rfl) (by kernel_rfl) (by kernel_rfl) (fun _ _ _ h => h) (Or.inr ⟨by rfl, rfl⟩) HS4.out ?_
              simp only [List.getElem_toArray, List.getElem_cons_zero, List.getElem_cons_succ, Act.put, List.setIfInBounds_toArray, List.set_cons_zero, List.set_cons_succ]
              refine wpAnyH_take (i := 25) (v := .bool false) rfl (by kernel_rfl) (by kernel_rfl) (by kernel_rfl) (fun _ _ _ h => h) (Or.inl ⟨by rfl, ?_⟩) HS4.out ?_
              · intro w' hSw; go_simp
              simp only [List.getElem_toArray, List.getElem_cons_zero, List.getElem_cons_succ, Act.put, List.setIfInBounds_toArray, List.set_cons_zero, List.set_cons_succ]
              refine wpAnyH_take (i := 26) (v := .bool false) rfl (by kernel_rfl) (by kernel_rfl) (by kernel_rfl) (fun _ _ _ h => h) (Or.inl ⟨by rfl, ?_⟩) HS4.out ?_
              · intro w' hSw; go_simp
              simp only [List.getElem_toArray, List.getElem_cons_zero, List.getElem_cons_succ, Act.put, List.setIfInBounds_toArray, List.set_cons_zero, List.set_cons_succ]
              refine wpAnyH_done (by kernel_rfl) ?_ _
              -- END
              go_wp2_with fail
              go_roundw
              case rel => exact ⟨k + 1, by go_num, by omega, HLD⟩
              case measure => simp [intOf]; omega
            · have HAL := Lib.hid e2
              have he0 : ((Po.entC t ex base T (i, n, v)).1 == 0) = false := by simp [e0]
              clear e2 HFX HFO
              generalize (Po.entC t ex base T (i, n, v)).1 = r1 at *
              generalize (Po.entC t ex base T (i, n, v)).2.1 = base2 at *
              generalize (Po.entC t ex base T (i, n, v)).2.2 = T2 at *
              generalize upI r1 age = age2 at *
              go_wp2_with fail
              go_region_held3 (fun w' => w'.cell? ⟨(ad.add (k * 6)).block, (ad.add (k * 6)).off + 1, none⟩ = some (.int .i64 i) ∧ w'.cell? ⟨(ad.add (k * 6)).block, (ad.add (k * 6)).off + 2, none⟩ = some (.int .i64 n) ∧ w'.cell? ⟨(ad.add (k * 6)).block, (ad.add (k * 6)).off + 4, none⟩ = some (.int .i64 v) ∧ w'.cell? ⟨(ad.add (k * 6)).block, (ad.add (k * 6)).off + 5, none⟩ = some (.bool ex)) (first | exact HS0.out | exact HS1.out | go_keep)
                (first
                  | (go_at_call 11; refine KE.out.mono ?_; rintro e w8 ⟨rfl, hS, HC8⟩; have HS1 := Lib.hid hS; clear hS))
              go_wp2_with fail
              obtain ⟨y1, KD, -⟩ := ld_tail (k := k) HC8.out (by omega) (by omega) HU2.out (a := ⟨(ad.add (k * 6)).block, (ad.add (k * 6)).off + 2, none⟩) (fun w' hb => (HXY.out w' (HC8.out.frame.trans (hb.mono HC8.out.frame.size))).2.2.1)
              rw [HAL.out] at KD
              have hq : (allT T == allT T) = true := by simp
              clear HC8 HS0 HS1 KE HXY HU2 HAL
              have HS3 := Lib.hid y1
              clear y1
              -- REG B
              refine wp_region_held_drew (S := fun w' => w'.cell? ⟨(ad.add (k * 6)).block, (ad.add (k * 6)).off + 2, none⟩ = some (.int .i64 n)) (by kernel_rfl) HS3.out (fun hHeld => ?_)
              refine wpAnyH_take (i := 0) (v := .int .i64 r1) rfl (by kernel_rfl) (by kernel_rfl) (by kernel_rfl) (fun _ _ _ h => h) (Or.inl ⟨by rfl, ?_⟩) hHeld ?_
              · intro w' hSw; go_simp
              simp only [List.getElem_toArray, List.getElem_cons_zero, List.getElem_cons_succ, Act.put, List.setIfInBounds_toArray, List.set_cons_zero, List.set_cons_succ]
              refine wpAnyH_take (i := 1) (v := .bool false) rfl (by kernel_rfl) (by kernel_rfl) (by kernel_rfl) (fun _ _ _ h => h) (Or.inl ⟨by rfl, ?_⟩) hHeld ?_
              · intro w' hSw; go_simp
              simp only [List.getElem_toArray, List.getElem_cons_zero, List.getElem_cons_succ, Act.put, List.setIfInBounds_toArray, List.set_cons_zero, List.set_cons_succ]
              refine wpAnyH_take (i := 2) (v := .bool false) rfl (by kernel_rfl) (by kernel_rfl) (by kernel_rfl) (fun _ _ _ h => h) (Or.inl ⟨by rfl, ?_⟩) hHeld ?_
              · intro w' hSw; go_simp
              simp only [List.getElem_toArray, List.getElem_cons_zero, List.getElem_cons_succ, Act.put, List.setIfInBounds_toArray, List.set_cons_zero, List.set_cons_succ]
              refine wpAnyH_take (i := 3) (v := undef) rfl (by kernel_rfl) (by kernel_rfl) (by kernel_rfl) (fun _ _ _ h => h) (Or.inr ⟨by rfl, rfl⟩) hHeld ?_
              simp only [List.getElem_toArray, List.getElem_cons_zero, List.getElem_cons_succ, Act.put, List.setIfInBounds_toArray, List.set_cons_zero, List.set_cons_succ]
              refine wpAnyH_take (i := 4) (v := undef) rfl (by kernel_rfl) (by kernel_rfl) (by kernel_rfl) (fun _ _ _ h => h) (Or.inr ⟨by rfl, rfl⟩) hHeld ?_
              simp only [List.getElem_toArray, List.getElem_cons_zero, List.getElem_cons_succ, Act.put, List.setIfInBounds_toArray, List.set_cons_zero, List.set_cons_succ]
              refine wpAnyH_take (i := 5) (v := undef) rfl (by kernel_rfl) (by kernel_rfl) (by kernel_rfl) (fun _ _ _ h => h) (Or.inr ⟨by rfl, rfl⟩) hHeld ?_
              simp only [List.getElem_toArray, List.getElem_cons_zero, List.getElem_cons_succ, Act.put, List.setIfInBounds_toArray, List.set_cons_zero, List.set_cons_succ]
              refine wpAnyH_take (i := 7) (v := undef) rfl (by kernel_rfl) (by kernel_rfl) (by kernel_rfl) (fun _ _ _ h => h) (Or.inr ⟨by rfl, rfl⟩) hHeld ?_
              simp only [List.getElem_toArray, List.getElem_cons_zero, List.getElem_cons_succ, Act.put, List.setIfInBounds_toArray, List.set_cons_zero, List.set_cons_succ]
              refine wpAnyH_take (i := 8) (v := undef) rfl (by kernel_rfl) (by kernel_rfl) (by kernel_rfl) (fun _ _ _ h => h) (Or.inr ⟨by rfl, rfl⟩) hHeld ?_
              simp only [List.getElem_toArray, List.getElem_cons_zero, List.getElem_cons_succ, Act.put, List.setIfInBounds_toArray, List.set_cons_zero, List.set_cons_succ]
              refine wpAnyH_take (i := 9) (v := undef) rfl (by kernel_rfl) (by kernel_rfl) (by kernel_rfl) (fun _ _ _ h => h) (Or.inr ⟨by rfl, rfl⟩) hHeld ?_
              simp only [List.getElem_toArray, List.getElem_cons_zero, List.getElem_cons_succ, Act.put, List.setIfInBounds_toArray, List.set_cons_zero, List.set_cons_succ]
              refine wpAnyH_take (i := 10) (v := undef) rfl (by kernel_rfl) (by kernel_rfl) (by kernel_rfl) (fun _ _ _ h => h) (Or.inr ⟨by rfl, rfl⟩) hHeld ?_
              simp only [List.getElem_toArray, List.getElem_cons_zero, List.getElem_cons_succ, Act.put, List.setIfInBounds_toArray, List.set_cons_zero, List.set_cons_succ]
              refine wpAnyH_take (i := 11) (v := undef) rfl (by kernel_rfl) (by kernel_rfl) (by kernel_rfl) (fun _ _ _ h => h) (Or.inr ⟨by rfl, rfl⟩) hHeld ?_
              simp only [List.getElem_toArray, List.getElem_cons_zero, List.getElem_cons_succ, Act.put, List.setIfInBounds_toArray, List.set_cons_zero, List.set_cons_succ]
              refine wpAnyH_take (i := 12) (v := undef) rfl (by kernel_rfl) (by kernel_rfl) (by kernel_rfl) (fun _ _ _ h => h) (Or.inr ⟨by rfl, rfl⟩) hHeld ?_
              simp only [List.getElem_toArray, List.getElem_cons_zero, List.getElem_cons_succ, Act.put, List.setIfInBounds_toArray, List.set_cons_zero, List.set_cons_succ]
              refine wpAnyH_take (i := 13) (v := undef) rfl (by kernel_rfl) (by kernel_rfl) (by kernel_rfl) (fun _ _ _ h => h) (Or.inr ⟨by rfl, rfl⟩) hHeld ?_
              simp only [List.getElem_toArray, List.getElem_cons_zero, List.getElem_cons_succ, Act.put, List.setIfInBounds_toArray, List.set_cons_zero, List.set_cons_succ]
              refine wpAnyH_ready (rs := [6]) (by kernel_rfl) (by simp) ?_
              refine AllReadyH.cons rfl (fun K hK => ?_) AllReadyH.nil
              simp only [List.getElem_toArray, List.getElem_cons_zero, List.getElem_cons_succ]
              go_simp
              refine hK.out _ _ hHeld (fun _ => ?_)
              clear hK K
              try simp only [List.getElem_toArray, List.getElem_cons_zero, List.getElem_cons_succ, Act.put, List.setIfInBounds_toArray, List.set_cons_zero, List.set_cons_succ]
              refine wpAnyH_take (i := 14) (v := undef) rfl (by kernel_rfl) (by kernel_rfl) (by kernel_rfl) (fun _ _ _ h => h) (Or.inr ⟨by rfl, rfl⟩) hHeld ?_
              simp only [List.getElem_toArray, List.getElem_cons_zero, List.getElem_cons_succ, Act.put, List.setIfInBounds_toArray, List.set_cons_zero, List.set_cons_succ]
              refine wpAnyH_take (i := 15) (v := undef) rfl (by kernel_rfl) (by kernel_rfl) (by kernel_rfl) (fun _ _ _ h => h) (Or.inr ⟨by rfl, rfl⟩) hHeld ?_
              simp only [List.getElem_toArray, List.getElem_cons_zero, List.getElem_cons_succ, Act.put, List.setIfInBounds_toArray, List.set_cons_zero, List.set_cons_succ]
              refine wpAnyH_take (i := 16) (v := .bool false) rfl (by kernel_rfl) (by kernel_rfl) (by kernel_rfl) (fun _ _ _ h => h) (Or.inl ⟨by rfl, ?_⟩) hHeld ?_
              · intro w' hSw; go_simp
              simp only [List.getElem_toArray, List.getElem_cons_zero, List.getElem_cons_succ, Act.put, List.setIfInBounds_toArray, List.set_cons_zero, List.set_cons_succ]
              refine wpAnyH_take (i := 17) (v := .bool false) rfl (by kernel_rfl) (by kernel_rfl) (by kernel_rfl) (fun _ _ _ h => h) (Or.inl ⟨by rfl, ?_⟩) hHeld ?_
              · intro w' hSw; go_simp
              simp only [List.getElem_toArray, List.getElem_cons_zero, List.getElem_cons_succ, Act.put, List.setIfInBounds_toArray, List.set_cons_zero, List.set_cons_succ]
              refine wpAnyH_take (i := 18) (v := .int .i64 r1) rfl (by kernel_rfl) (by kernel_rfl) (by kernel_rfl) (fun _ _ _ h => h) (Or.inl ⟨by rfl, ?_⟩) hHeld ?_
              · intro w' hSw; go_simp
              simp only [List.getElem_toArray, List.getElem_cons_zero, List.getElem_cons_succ, Act.put, List.setIfInBounds_toArray, List.set_cons_zero, List.set_cons_succ]
              refine wpAnyH_take (i := 19) (v := .bool true) rfl (by kernel_rfl) (by kernel_rfl) (by kernel_rfl) (fun _ _ _ h => h) (Or.inl ⟨by rfl, ?_⟩) hHeld ?_
              · intro w' hSw; go_simp
              simp only [List.getElem_toArray, List.getElem_cons_zero, List.getElem_cons_succ, Act.put, List.setIfInBounds_toArray, List.set_cons_zero, List.set_cons_succ]
              refine wpAnyH_take (i := 20) (v := .bool true) rfl (by kernel_rfl) (by kernel_rfl) (by kernel_rfl) (fun _ _ _ h => h) (Or.inl ⟨by rfl, ?_⟩) hHeld ?_
              · intro w' hSw; go_simp
              simp only [List.getElem_toArray, List.getElem_cons_zero, List.getElem_cons_succ, Act.put, List.setIfInBounds_toArray, List.set_cons_zero, List.set_cons_succ]
              refine wpAnyH_take (i := 21) (v := .pointer (some ⟨o, 0, none⟩)) rfl (by kernel_rfl) (by kernel_rfl) (by kernel_rfl) (fun _ _ _ h => h) (Or.inl ⟨by rfl, ?_⟩) hHeld ?_
              · intro w' hSw; go_simp
              simp only [List.getElem_toArray, List.getElem_cons_zero, List.getElem_cons_succ, Act.put, List.setIfInBounds_toArray, List.set_cons_zero, List.set_cons_succ]
              refine wpAnyH_take (i := 23) (v := .int .i64 (allT T)) rfl (by kernel_rfl) (by kernel_rfl) (by kernel_rfl) (fun _ _ _ h => h) (Or.inl ⟨by rfl, ?_⟩) hHeld ?_
              · intro w' hSw; go_simp
              simp only [List.getElem_toArray, List.getElem_cons_zero, List.getElem_cons_succ, Act.put, List.setIfInBounds_toArray, List.set_cons_zero, List.set_cons_succ]
              refine wpAnyH_ready (rs := [22]) (by kernel_rfl) (by simp) ?_
              refine AllReadyH.cons rfl (fun K hK => ?_) AllReadyH.nil
              simp only [List.getElem_toArray, List.getElem_cons_zero, List.getElem_cons_succ]
              go_simp
              refine KD.out.mono ?_
              rintro e w9 ⟨rfl, hS, HLD⟩
              have HS4 := Lib.hid hS
              refine hK.out _ _ hS (fun _ => ?_)
              clear hK hS K
              try simp only [List.getElem_toArray, List.getElem_cons_zero, List.getElem_cons_succ, Act.put, List.setIfInBounds_toArray, List.set_cons_zero, List.set_cons_succ]
              refine wpAnyH_take (i := 24) (v := .bool false) rfl (by kernel_rfl) (by kernel_rfl) (by kernel_rfl) (fun _ _ _ h => h) (Or.inl ⟨by rfl, ?_⟩) HS4.out ?_
              · intro w' hSw; go_simp
              simp only [List.getElem_toArray, List.getElem_cons_zero, List.getElem_cons_succ, Act.put, List.setIfInBounds_toArray, List.set_cons_zero, List.set_cons_succ]
              refine wpAnyH_take (i := 25) (v := .bool false) rfl (by kernel_rfl) (by kernel_rfl) (by kernel_rfl) (fun _ _ _ h => h) (Or.inl ⟨by rfl, ?_⟩) HS4.out ?_
              · intro w' hSw; go_simp
              simp only [List.getElem_toArray, List.getElem_cons_zero, List.getElem_cons_succ, Act.put, List.setIfInBounds_toArray, List.set_cons_zero, List.set_cons_succ]
              refine wpAnyH_take (i := 26) (v := .bool false) rfl (by kernel_rfl) (by kernel_rfl) (by kernel_rfl) (fun _ _ _ h => h) (Or.inl ⟨by rfl, ?_⟩) HS4.out ?_
              · intro w' hSw; go_simp
              simp only [List.getElem_toArray, List.getElem_cons_zero, List.getElem_cons_succ, Act.put, List.setIfInBounds_toArray, List.set_cons_zero, List.set_cons_succ]
              refine wpAnyH_done (by kernel_rfl) ?_ _
              -- END
              go_wp2_with fail
              go_roundw
              case rel => exact ⟨k + 1, by go_num, by omega, HLD⟩
              case measure => simp [intOf]; omega
      · have HB : Hid (Below w.heap.size w wr) := Lib.hid (by obtain ⟨_, _, _, _, hc, _⟩ := HE.out; exact hc.frame)
        have hlt' : decide ((k : Int) < (m : Int)) = false := by simp; omega
        clear HE
        go_wp2_with fail
        go_ret
        exact ⟨rfl, HB.out⟩
  · rw [if_neg (fun h => ht h.1)] at h
    obtain ⟨rfl, hb⟩ := h
    have HB2 := Lib.hid (HB1.out.trans (hb.mono HB1.out.size))
    clear KN hb
    go_wp2_with fail
    go_ret
    exact ⟨rfl, HB2.out⟩
end Go.Proofs.YtandmngfajoinaaGreat.Po
