/- DueqFirst: its walk. -/
import Derived.Test.YtghjanonffiohaaDk
import Derived.StillTailTactics
import Derived.Deep.DeepCutAuto
namespace Go.Proofs.Ytghjanonffiohaa
open Go.RowKit

theorem anyB_snoc {T : List RI} {k : Nat} {z : RI} {a : Int} (h : T[k]? = some z) : (T.take (k + 1)).any (fun z => decide (z.1 ≤ a)) = ((T.take k).any (fun z => decide (z.1 ≤ a)) || decide (z.1 ≤ a)) := by
  rw [List.take_add_one, h]
  simp
theorem wf64_nat' {k : Nat} (h : k ≤ 1000000) : wf64 (k : Int) := by unfold wf64; simp [Lit.wf, IntKind.min, IntKind.max, IntKind.signed, IntKind.bits]; omega
theorem getD_at' {l : List Int} {k : Nat} (h : k < l.length) : l.getD k 0 = l[k] := by simp [h]

/-- What First tells of two keys. -/
theorem first_two {T : List RI} (ho : Ord (qL T)) {a b : Int} (hab : a ≤ b) {oa ob : Option RI} (ha : firstT a T = oa) (hb : firstT b T = ob) :
    ((optR oa).2 = true → (optR oa).1.1 ≤ a ∧ (optR ob).2 = true ∧ (optR ob).1.2.1 ≤ (optR oa).1.2.1) ∧ (∀ z ∈ T, z.1 ≤ a → dueB z (optR oa).1 = false ∧ (optR oa).2 = true) ∧ ((optR oa).2 = true → ∃ z ∈ T, z.1 ≤ a) := by
  rcases first_spec ho a with ⟨h1, h2⟩ | ⟨r, h1, h2, h3, h4⟩
  · rw [h1] at ha
    subst ha
    refine ⟨(fun h => by cases h), fun z hz hk => ?_, (fun h => by cases h)⟩
    have := h2 z hz
    omega
  · rw [h1] at ha
    subst ha
    refine ⟨fun _ => ⟨h3, ?_⟩, fun z hz hk => ⟨h4 z hz hk, rfl⟩, fun _ => ⟨r, h2, h3⟩⟩
    rcases first_spec ho b with ⟨g1, g2⟩ | ⟨r', g1, g2, g3, g4⟩
    · have := g2 r h2
      omega
    · rw [g1] at hb
      subst hb
      have := dueB_false.1 (g4 r h2 (by omega))
      exact ⟨rfl, by show r'.2.1 ≤ r.2.1; omega⟩

set_option maxRecDepth 100000 in
set_option maxHeartbeats 8000000 in
theorem dueqFirst_c (A : Option Addr) (c : Nat) (l : List Int) (B : Option Addr) (cb : Nat) (ds : List Int) (a b : Int) (W : World) (hl : l.length ≤ c) (_ : c ≤ maxLen) (hr : IRow .i64 W W.heap.size A l) (hw : ∀ z ∈ l, (Lit.int .i64 z).wf = true)
    (_ : ds.length ≤ cb) (_ : cb ≤ maxLen) (hrb : IRow .i64 W W.heap.size B ds) (hwb : ∀ z ∈ ds, (Lit.int .i64 z).wf = true) :
    Calls Try.prog 8 #[.slice A l.length c, .slice B ds.length cb, .int .i64 a, .int .i64 b] W fun e w' => e = .returned (.bool true) ∧ Below W.heap.size W w' := by
  obtain ⟨n, hn⟩ : ∃ n, l.length = n := ⟨_, rfl⟩
  obtain ⟨nd, hnd⟩ : ∃ nd, ds.length = nd := ⟨_, rfl⟩
  have HN := Lib.hid hn
  have HND := Lib.hid hnd
  have HR := Lib.hid hr
  have HW := Lib.hid hw
  have HRB := Lib.hid hrb
  have HWB := Lib.hid hwb
  rw [hn] at hl ⊢
  rw [hnd]
  clear hn hr hw hnd hrb hwb
  by_cases h1 : 60 < n
  · go_enter Try.func8, Try.ntmps8
    go_wp2_with fail
    refine (awake5_c W).mono ?_
    rintro e w1 ⟨rfl, hb1⟩
    have HB1 := Lib.hid hb1
    clear hb1
    go_wp2_with fail
    all_goals
      go_ret
      exact ⟨rfl, HB1.out⟩
  have h1' : n ≤ 60 := by omega
  clear h1
  by_cases h2 : nd < n
  · go_enter Try.func8, Try.ntmps8
    go_wp2_with fail
    refine (awake5_c W).mono ?_
    rintro e w1 ⟨rfl, hb1⟩
    have HB1 := Lib.hid hb1
    clear hb1
    go_wp2_with fail
    all_goals
      go_ret
      exact ⟨rfl, HB1.out⟩
  have h2' : n ≤ nd := by omega
  clear h2
  by_cases h3 : b < a
  · go_enter Try.func8, Try.ntmps8
    go_wp2_with fail
    refine (awake5_c W).mono ?_
    rintro e w1 ⟨rfl, hb1⟩
    have HB1 := Lib.hid hb1
    clear hb1
    go_wp2_with fail
    all_goals
      go_ret
      exact ⟨rfl, HB1.out⟩
  have h3' : a ≤ b := by omega
  clear h3
  go_enter Try.func8, Try.ntmps8
  go_wp2_with fail
  refine (awake5_c W).mono ?_
  rintro e w1 ⟨rfl, hb1⟩
  have HB1 := Lib.hid hb1
  clear hb1
  go_wp2_with fail
  refine (dnew_in W w1 HB1.out 100 (fun _ => False) (fun _ h => h.elim)).mono ?_
  rintro e w2 ⟨d, rfl, hq, _⟩
  have e4 : clampQ 100 = 100 := by decide
  rw [e4] at hq
  have H2 := Lib.hid (DB.of hq)
  clear hq e4 HB1
  go_wp2_with fail
  go_loopw [10] (fun i wr => ∃ k : Nat, i = .int .i64 k ∧ k ≤ n ∧ Hid (DB W wr d 100 (k * 21) (dsTo l ds k) [] (fun _ => False))) (fun i _ => n - (intOf i).toNat)
  case atStart => exact ⟨0, rfl, Nat.zero_le _, by simpa [dsTo] using H2⟩
  case round =>
    obtain ⟨k, rfl, hk, HK⟩ := hrel
    by_cases hlt : k < n
    · have hkl : k < l.length := by rw [HN.out]; exact hlt
      have hkd : k < ds.length := by rw [HND.out]; omega
      obtain ⟨ad, rfl, hadb, hcell⟩ := HR.out.at hkl
      obtain ⟨bd, rfl, hbdb, hcelb⟩ := HRB.out.at hkd
      have hc := (HK.out.frame.cell (p := ad.add k) (by rw [add_block]; exact hadb)).trans hcell
      have hcb := (HK.out.frame.cell (p := bd.add k) (by rw [add_block]; exact hbdb)).trans hcelb
      have hwk : wf64 l[k] := HW.out _ (List.getElem_mem hkl)
      have hwd : wf64 ds[k] := HWB.out _ (List.getElem_mem hkd)
      have hp := putT_ds (l := l) (ds := ds) (k := k) (most := 100) (by omega)
      rw [getD_at' hkl, getD_at' hkd] at hp
      obtain ⟨x, hx⟩ : ∃ x, x = l[k] := ⟨_, rfl⟩
      obtain ⟨y, hy⟩ : ∃ y, y = ds[k] := ⟨_, rfl⟩
      rw [← hx] at hc hwk hp
      rw [← hy] at hcb hwd hp
      have KP := Lib.hid (dput_b (x, y, (k : Int)) (HK.out.below (Below.refl _ wr).drew) hwk hwd (wf64_nat' (by omega)) (by rw [dsTo_length]; omega) (by omega))
      rw [hp] at KP
      have hkm : (k : Int) < (n : Int) := by omega
      have hkm' : (k : Int) < (nd : Int) := by omega
      clear hp hx hy hcell hcelb hadb hbdb hwk hwd hkl hkd
      go_wp2_with fail
      go_still_tail 10, (by kernel_rfl)
      change wpList _ _ _ _ _ wr.drew
      go_wp2_with fail
      refine (KP.out).mono ?_
      rintro e w3 ⟨rfl, hq, _⟩
      have H3 := Lib.hid hq
      clear hq KP HK
      go_wp2_with fail
      go_roundw
      case rel => exact ⟨k + 1, by go_num, by omega, by have := H3; rwa [show k * 21 + 21 = (k + 1) * 21 by omega] at this⟩
      case measure => simp [intOf]; omega
    · obtain rfl : k = n := by omega
      obtain ⟨T, hT⟩ : ∃ T, dsTo l ds k = T := ⟨_, rfl⟩
      have hTl : T.length = k := by rw [← hT]; exact dsTo_length l ds k
      rw [hT] at HK
      have HOR := Lib.hid (HK.out.1.ord.1)
      have HTL := Lib.hid hTl
      clear hT hTl H2 hlt hk
      obtain ⟨oa, hoa⟩ : ∃ oa, firstT a T = oa := ⟨_, rfl⟩
      obtain ⟨ob, hob⟩ : ∃ ob, firstT b T = ob := ⟨_, rfl⟩
      have K1 := Lib.hid (dfirst_in a HK.out.1 (by rw [HTL.out]; omega))
      rw [hoa] at K1
      have hS := first_two HOR.out h3' hoa hob
      have HS := Lib.hid hS
      obtain ⟨xa, hxa⟩ : ∃ xa, (optR oa).1 = xa := ⟨_, rfl⟩
      obtain ⟨xb, hxb⟩ : ∃ xb, (optR ob).1 = xb := ⟨_, rfl⟩
      obtain ⟨oka, hoka⟩ : ∃ oka, (optR oa).2 = oka := ⟨_, rfl⟩
      obtain ⟨okb, hokb⟩ : ∃ okb, (optR ob).2 = okb := ⟨_, rfl⟩
      rw [hxa, hoka] at K1
      rw [hxa, hxb, hoka, hokb] at HS
      have HOB := Lib.hid hob
      have HXB := Lib.hid (And.intro hxb hokb)
      clear hoa hob hS hxa hxb hoka hokb
      obtain ⟨xa0, xa1, xa2⟩ := xa
      obtain ⟨xb0, xb1, xb2⟩ := xb
      simp only [encR] at K1
      simp only at HS
      go_wp2_with fail
      refine (K1.out).mono ?_
      rintro e w3 ⟨rfl, _, hb3⟩
      have H3 := Lib.hid ((HK.out.below hb3).push (xa0, xa1, xa2))
      have K2 := dfirst_in b H3.out.1 (by rw [HTL.out]; omega)
      rw [HOB.out, HXB.out.1, HXB.out.2] at K2
      have K2 := Lib.hid K2
      simp only [encR] at K2
      clear hb3 K1 HK
      go_wp2_with fail
      refine (K2.out).mono ?_
      rintro e w4 ⟨rfl, _, hb4⟩
      have H4 := Lib.hid ((H3.out.below hb4).push (xb0, xb1, xb2))
      obtain ⟨p0, p1, p2⟩ := H4.out.box (b := w3.heap.size) (r := (xa0, xa1, xa2)) (by simp)
      obtain ⟨q0, q1, q2⟩ := H4.out.box (b := w4.heap.size) (r := (xb0, xb1, xb2)) (by simp)
      simp only at p0 p1 p2 q0 q1 q2
      obtain ⟨w5, hw5⟩ : ∃ w5, w4.alloc (.cells #[.int .i64 xb0, .int .i64 xb1, .int .i64 xb2] 60) = w5 := ⟨_, rfl⟩
      simp only at H4
      rw [hw5] at H4 p0 p1 p2 q0 q1 q2
      have K3 := Lib.hid (dlist_in H4.out.1 (by rw [HTL.out]; omega))
      have HC : Hid (Calls Try.prog 32 #[.pointer (some ⟨d, 0, none⟩)] w5 (fun e w' => ∃ v', e = .returned v' ∧ MadeD w' w5.heap.size v' T ∧ DB W w' d 100 (k * 21) T [(w4.heap.size, (xb0, xb1, xb2)), (w3.heap.size, (xa0, xa1, xa2))] (fun _ => False))) := Lib.hid (K3.out.mono (by
        rintro e w' ⟨v', rfl, hM, _, hb⟩
        exact ⟨v', rfl, hM, H4.out.below hb⟩))
      clear hb4 K2 H3 K3 HOB HXB
      have hany : T.any (fun z => decide (z.1 ≤ a)) = oka := by
        cases hoka : oka with
        | false =>
          rw [List.any_eq_false]
          intro z hz hk
          have := (HS.out.2.1 z hz (by simpa using hk)).2
          rw [hoka] at this
          cases this
        | true =>
          obtain ⟨z, hz, hk⟩ := HS.out.2.2 hoka
          exact List.any_eq_true.2 ⟨z, hz, by simpa using hk⟩
      have HANY := Lib.hid hany
      clear hany
      cases oka
      case' false =>
        go_wp2_with fail
      case' true =>
        obtain ⟨r1, r2, r3⟩ := HS.out.1 rfl
        subst r2
        have d1 : decide (a < xa0) = false := decide_eq_false (by omega)
        have d2 : decide (xa1 < xb1) = false := decide_eq_false (by omega)
        go_wp2_with fail
        clear d1 d2 r1 r3
      all_goals
        clear hw5
        refine (HC.out).mono ?_
        rintro e w6 ⟨vl, rfl, hM, hq⟩
        have hrow : DRow w6 vl T := base_zero hM
        obtain ⟨Al, cl, rfl⟩ := hrow.form
        clear p0 p1 p2 q0 q1 q2
        obtain ⟨p0, p1, p2⟩ := hq.box (b := w3.heap.size) (r := (xa0, xa1, xa2)) (by simp)
        simp only at p0 p1 p2
        rw [HTL.out] at hrow ⊢
        have HROW := Lib.hid hrow
        have H6 := Lib.hid hq.frame
        clear hM hq hrow HC H4
        go_wp2_with fail
        go_loopw [16, 17] (fun sm i wr => ∃ q nq : Nat, ∃ sb : Bool, sm = .bool sb ∧ i = .int .i64 q ∧ q ≤ k ∧ wr = w6.drewN nq ∧ Hid ((T.take q).any (fun z => decide (z.1 ≤ a)) = sb)) (fun _ i _ => k - (intOf i).toNat)
        case atStart => exact ⟨0, 0, false, rfl, rfl, Nat.zero_le _, rfl, Lib.hid rfl⟩
        case round =>
          obtain ⟨q, nq, sb, rfl, rfl, hq, rfl, HSB⟩ := hrel
          by_cases hlt2 : q < k
          · have hql : q < T.length := by rw [HTL.out]; exact hlt2
            obtain ⟨z, hz⟩ : ∃ z, T[q]? = some z := ⟨_, List.getElem?_eq_getElem hql⟩
            obtain ⟨g, cg, hv, z0', z1', z2'⟩ := HROW.out.get hz
            injection hv with hv1 hv2 hv3
            subst hv1 hv3
            have hsn := anyB_snoc (a := a) hz
            rw [HSB.out] at hsn
            obtain ⟨z0, z1, z2⟩ := z
            simp only at z0' z1' z2' hsn
            have HSN := Lib.hid hsn
            have c0 : (w6.drewN nq).cell? ⟨g, q * 3, none⟩ = some (.int .i64 z0) := z0'
            have c1 : (w6.drewN nq).cell? ⟨g, q * 3 + 1, none⟩ = some (.int .i64 z1) := z1'
            have c2 : (w6.drewN nq).cell? ⟨g, q * 3 + 2, none⟩ = some (.int .i64 z2) := z2'
            have hqm : (q : Int) < (k : Int) := by omega
            have HZ := Lib.hid (List.mem_of_getElem? hz)
            clear hsn hv2 hz hql
            by_cases hza : z0 ≤ a
            · have hdz : decide (z0 ≤ a) = true := decide_eq_true hza
              obtain ⟨hdue, hok⟩ := HS.out.2.1 _ HZ.out hza
              first
                | (cases hok; done)
                | (clear hok
                   have hdue' := dueB_false.1 hdue
                   simp only at hdue'
                   have e1 : decide (z1 < xa1) = false := decide_eq_false (by omega)
                   clear hdue
                   by_cases he : z1 = xa1
                   · subst he
                     have e2 : (z1 == z1) = true := by simp
                     have e3 : decide (z2 < xa2) = false := decide_eq_false (by omega)
                     clear hdue'
                     go_wp2_with fail
                     go_big_quiet (fail)
                     go_wp2_with fail
                     go_roundw
                     case rel => exact ⟨q + 1, _, true, rfl, by go_num, by omega, rfl, Lib.hid (by rw [HSN.out, hdz]; simp)⟩
                     case measure => simp [intOf]; omega
                   · have e2 : (z1 == xa1) = false := by simpa using he
                     clear hdue'
                     go_wp2_with fail
                     go_big_quiet (fail)
                     go_wp2_with fail
                     go_roundw
                     case rel => exact ⟨q + 1, _, true, rfl, by go_num, by omega, rfl, Lib.hid (by rw [HSN.out, hdz]; simp)⟩
                     case measure => simp [intOf]; omega)
            · have hdz : decide (z0 ≤ a) = false := decide_eq_false hza
              go_wp2_with fail
              go_roundw
              case rel => exact ⟨q + 1, nq, sb, rfl, by go_num, by omega, rfl, Lib.hid (by rw [HSN.out, hdz]; simp)⟩
              case measure => simp [intOf]; omega
          · obtain rfl : q = k := by omega
            have hsb := HSB.out
            rw [List.take_of_length_le (by rw [HTL.out]; exact Nat.le_refl _), HANY.out] at hsb
            subst hsb
            go_wp2_with fail
            go_ret
            exact ⟨rfl, below_drewN H6.out nq⟩
end Go.Proofs.Ytghjanonffiohaa
