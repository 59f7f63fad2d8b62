/- GroupsUnder: its walk. -/
import Derived.Test.YtbhcooomdjhoiaaVj
namespace Go.Proofs.Ytbhcooomdjhoiaa
open Go.RowKit Go.Shelf

theorem any_take {L : List Nat} {k : Nat} {b : Int} (h : k < L.length) : (L.take (k + 1)).any (fun x => (x : Int) == b) = ((L.take k).any (fun x => (x : Int) == b) || ((L[k] : Nat) : Int) == b) := by
  rw [List.take_add_one, List.getElem?_eq_getElem h]
  simp only [Option.toList_some, List.any_append, List.any_cons, List.any_nil, Bool.or_false]

set_option maxRecDepth 100000 in
set_option maxHeartbeats 4000000 in
theorem groupsUnder_c (A0 : Option Addr) (n c0 : Nat) (l0 : List Int) (a b c : Int) (W : World) (hn : l0.length = n) (hm : n ≤ 9223372036854775807) (hr : IRow .i64 W W.heap.size A0 l0) :
    Calls Try.prog 5 #[.slice A0 n c0, .int .i64 a, .int .i64 b, .int .i64 c] W fun e w' => e = .returned (.bool true) ∧ Below W.heap.size W w' := by
  have HR := Lib.hid hr
  have HN := Lib.hid hn
  clear hr hn
  go_enter Try.func5, Try.ntmps5
  go_wp2_with fail
  refine (awake7_c W).mono ?_
  rintro e w1 ⟨rfl, hb1⟩
  have HB1 := Lib.hid hb1
  clear hb1
  by_cases h30 : n > 30
  · have hd : decide ((n : Int) > 30) = true := by simp; omega
    go_wp2_with fail
    go_ret
    exact ⟨rfl, HB1.out⟩
  · have hd : decide ((n : Int) > 30) = false := by simp; omega
    have h30' : n ≤ 30 := by omega
    go_wp2_with fail
    refine (new_in HB1.out).mono ?_
    rintro e w2 ⟨g, rfl, h2, _, _⟩
    have H2 := Lib.hid h2
    clear h2 HB1
    go_wp2_with fail
    go_loopw [10] (fun iv wr => ∃ (k : Nat) (G : List GR), iv = .int .i64 k ∧ k ≤ n ∧ Hid (GAt W wr g G)) (fun iv _ => n - (intOf iv).toNat)
    case atStart => exact ⟨0, _, rfl, by omega, H2⟩
    case round =>
      obtain ⟨k, G, rfl, hk, HG⟩ := hrel
      by_cases hlt : k < n
      · have hkl : k < l0.length := by rw [HN.out]; exact hlt
        obtain ⟨ad, rfl, _, hc⟩ := (HR.out.below HG.out.fr).at hkl
        obtain ⟨x, hx⟩ : ∃ x, x = l0[k] := ⟨_, rfl⟩
        rw [← hx] at hc
        clear hx
        obtain ⟨⟨r1, r2, G'⟩, hr⟩ : ∃ r, addG G x = r := ⟨_, rfl⟩
        have K1 := Lib.hid (add_in HG.out hr)
        clear hr
        go_wp2_with fail
        refine K1.out.mono ?_
        rintro e w3 ⟨rfl, h3, _⟩
        have H3 := Lib.hid h3
        clear h3 K1
        go_wp2_with fail
        go_roundw
        case rel => first | exact ⟨k + 1, _, by go_num, by omega, H3⟩ | ((repeat apply Exists.intro); refine ⟨⟨k + 1, G', ?_, by omega, H3⟩, rfl⟩; go_num)
        case measure => simp [intOf]; omega
      · obtain ⟨q, hq⟩ : ∃ q, (chI G a).length = q := ⟨_, rfl⟩
        have hq4 : q ≤ 4 := by rw [← hq]; exact HG.out.wf.len_ch a
        have K1 := Lib.hid (chain_in (id := a) HG.out rfl hq)
        have HQ := Lib.hid hq
        have HW := Lib.hid HG.out.wf
        clear hq HG
        go_wp2_with fail
        refine K1.out.mono ?_
        rintro e w3 ⟨A, ca, rfl, hr3, h3, _⟩
        have HR3 := Lib.hid hr3
        have H3 := Lib.hid h3
        clear hr3 h3 K1
        go_wp2_with fail
        go_loopw [13, 12] (fun iv on wr => ∃ (j : Nat) (o : Bool), iv = .int .i64 j ∧ on = .bool o ∧ j ≤ q ∧ o = ((chI G a).take j).any (fun x => (x : Int) == b) ∧ wr = w3) (fun iv _ _ => q - (intOf iv).toNat)
        case atStart => exact ⟨0, false, rfl, rfl, by omega, rfl, rfl⟩
        case round =>
          obtain ⟨j, o, rfl, rfl, hj, ho, rfl⟩ := hrel
          by_cases hjl : j < q
          · have hjc : j < (chI G a).length := by rw [HQ.out]; exact hjl
            have hji : j < (ints64 (chI G a)).length := by rw [ints64_length]; exact hjc
            obtain ⟨ad, rfl, _, hc⟩ := HR3.out.at hji
            have e1 := any_take (b := b) hjc
            rw [← ho] at e1
            have e2 : (ints64 (chI G a))[j] = (((chI G a)[j] : Nat) : Int) := by simp [ints64]
            rw [e2] at hc
            obtain ⟨z, hz⟩ : ∃ z : Int, (((chI G a)[j] : Nat) : Int) = z := ⟨_, rfl⟩
            rw [hz] at hc e1
            have E1 := Lib.hid e1
            clear e1 e2 hz hjc hji ho
            cases o with
            | true =>
              go_wp2_with fail
              go_roundw
              case rel => exact ⟨j + 1, true, by go_num, rfl, by omega, by rw [E1.out]; rfl, by first | rfl | trivial⟩
              case measure => simp [intOf]; omega
            | false =>
              go_wp2_with fail
              go_roundw
              case rel => exact ⟨j + 1, _, by go_num, rfl, by omega, by rw [E1.out]; simp, by first | rfl | trivial⟩
              case measure => simp [intOf]; omega
          · obtain rfl : j = q := by omega
            have hon : o = underG G a b := by
              rw [ho, List.take_of_length_le (by rw [HQ.out]; exact Nat.le_refl _)]
              rfl
            have hz0 : j = 0 → underG G a b = false := by
              intro h0
              have : chI G a = [] := List.eq_nil_of_length_eq_zero (by rw [HQ.out, h0])
              unfold underG
              rw [this]; rfl
            have hz1 : j ≠ 0 → underG G a 0 = true ∧ underG G a a = true := fun h0 => HW.out.top (fun e => h0 (by have := HQ.out; rw [e] at this; simpa using this.symm))
            have htr := fun h1 h2 => HW.out.trans (a := a) (b := b) (c := c) h1 h2
            have han := fun h1 h2 => HW.out.anti (a := a) (b := b) h1 h2
            obtain ⟨u1, hu1⟩ : ∃ u, underG G a b = u := ⟨_, rfl⟩
            obtain ⟨u2, hu2⟩ : ∃ u, underG G b c = u := ⟨_, rfl⟩
            obtain ⟨u3, hu3⟩ : ∃ u, underG G a c = u := ⟨_, rfl⟩
            obtain ⟨u4, hu4⟩ : ∃ u, underG G a 0 = u := ⟨_, rfl⟩
            obtain ⟨u5, hu5⟩ : ∃ u, underG G a a = u := ⟨_, rfl⟩
            obtain ⟨u6, hu6⟩ : ∃ u, underG G b a = u := ⟨_, rfl⟩
            rw [hu1] at hon hz0 htr han
            rw [hu2, hu3] at htr
            rw [hu4, hu5] at hz1
            rw [hu6] at han
            subst hon
            have K1 := Lib.hid (fun (w : World) (h : GAt W w g G) => under_in (id := a) (up := b) h hu1)
            have K2 := Lib.hid (fun (w : World) (h : GAt W w g G) => under_in (id := b) (up := c) h hu2)
            have K3 := Lib.hid (fun (w : World) (h : GAt W w g G) => under_in (id := a) (up := c) h hu3)
            have K4 := Lib.hid (fun (w : World) (h : GAt W w g G) => under_in (id := a) (up := 0) h hu4)
            have K5 := Lib.hid (fun (w : World) (h : GAt W w g G) => under_in (id := a) (up := a) h hu5)
            have K6 := Lib.hid (fun (w : World) (h : GAt W w g G) => under_in (id := b) (up := a) h hu6)
            clear hu1 hu2 hu3 hu4 hu5 hu6 HR3 HQ HW ho
            cases o with
            | false =>
              by_cases hj0 : j = 0
              · subst hj0
                clear hz0 hz1 htr han
                go_wp2_with fail
                refine (K1.out _ H3.out).mono ?_
                rintro e x1 ⟨rfl, h, _⟩
                have J1 := Lib.hid h
                clear h
                go_wp2_with fail
                refine (K1.out _ J1.out).mono ?_
                rintro e x2 ⟨rfl, h, _⟩
                have J2 := Lib.hid h
                clear h
                go_wp2_with fail
                refine (K1.out _ J2.out).mono ?_
                rintro e x3 ⟨rfl, h, _⟩
                have J3 := Lib.hid h
                clear h
                go_wp2_with fail
                have HF := Lib.hid J3.out.fr
                go_ret
                exact ⟨rfl, HF.out⟩
              · obtain ⟨rfl, rfl⟩ := hz1 hj0
                clear hz0 hz1 htr han
                go_wp2_with fail
                refine (K1.out _ H3.out).mono ?_
                rintro e x1 ⟨rfl, h, _⟩
                have J1 := Lib.hid h
                clear h
                go_wp2_with fail
                refine (K1.out _ J1.out).mono ?_
                rintro e x2 ⟨rfl, h, _⟩
                have J2 := Lib.hid h
                clear h
                go_wp2_with fail
                refine (K4.out _ J2.out).mono ?_
                rintro e x3 ⟨rfl, h, _⟩
                have J3 := Lib.hid h
                clear h
                go_wp2_with fail
                refine (K5.out _ J3.out).mono ?_
                rintro e x4 ⟨rfl, h, _⟩
                have J4 := Lib.hid h
                clear h
                go_wp2_with fail
                refine (K1.out _ J4.out).mono ?_
                rintro e x5 ⟨rfl, h, _⟩
                have J5 := Lib.hid h
                clear h
                go_wp2_with fail
                have HF := Lib.hid J5.out.fr
                go_ret
                exact ⟨rfl, HF.out⟩
            | true =>
              have hj0 : j ≠ 0 := fun h => (by have := hz0 h; cases this)
              obtain ⟨rfl, rfl⟩ := hz1 hj0
              cases u2 with
              | false =>
                cases u6 with
                | false =>
                  clear hz0 hz1 htr han
                  go_wp2_with fail
                  refine (K1.out _ H3.out).mono ?_
                  rintro e x1 ⟨rfl, h, _⟩
                  have J1 := Lib.hid h
                  clear h
                  go_wp2_with fail
                  refine (K1.out _ J1.out).mono ?_
                  rintro e x2 ⟨rfl, h, _⟩
                  have J2 := Lib.hid h
                  clear h
                  go_wp2_with fail
                  refine (K2.out _ J2.out).mono ?_
                  rintro e x3 ⟨rfl, h, _⟩
                  have J3 := Lib.hid h
                  clear h
                  go_wp2_with fail
                  refine (K4.out _ J3.out).mono ?_
                  rintro e x4 ⟨rfl, h, _⟩
                  have J4 := Lib.hid h
                  clear h
                  go_wp2_with fail
                  refine (K5.out _ J4.out).mono ?_
                  rintro e x5 ⟨rfl, h, _⟩
                  have J5 := Lib.hid h
                  clear h
                  go_wp2_with fail
                  refine (K1.out _ J5.out).mono ?_
                  rintro e x6 ⟨rfl, h, _⟩
                  have J6 := Lib.hid h
                  clear h
                  go_wp2_with fail
                  refine (K6.out _ J6.out).mono ?_
                  rintro e x7 ⟨rfl, h, _⟩
                  have J7 := Lib.hid h
                  clear h
                  go_wp2_with fail
                  have HF := Lib.hid J7.out.fr
                  go_ret
                  exact ⟨rfl, HF.out⟩
                | true =>
                  obtain rfl := han rfl rfl
                  clear hz0 hz1 htr han
                  go_wp2_with fail
                  refine (K1.out _ H3.out).mono ?_
                  rintro e x1 ⟨rfl, h, _⟩
                  have J1 := Lib.hid h
                  clear h
                  go_wp2_with fail
                  refine (K1.out _ J1.out).mono ?_
                  rintro e x2 ⟨rfl, h, _⟩
                  have J2 := Lib.hid h
                  clear h
                  go_wp2_with fail
                  refine (K2.out _ J2.out).mono ?_
                  rintro e x3 ⟨rfl, h, _⟩
                  have J3 := Lib.hid h
                  clear h
                  go_wp2_with fail
                  refine (K4.out _ J3.out).mono ?_
                  rintro e x4 ⟨rfl, h, _⟩
                  have J4 := Lib.hid h
                  clear h
                  go_wp2_with fail
                  refine (K5.out _ J4.out).mono ?_
                  rintro e x5 ⟨rfl, h, _⟩
                  have J5 := Lib.hid h
                  clear h
                  go_wp2_with fail
                  refine (K1.out _ J5.out).mono ?_
                  rintro e x6 ⟨rfl, h, _⟩
                  have J6 := Lib.hid h
                  clear h
                  go_wp2_with fail
                  refine (K6.out _ J6.out).mono ?_
                  rintro e x7 ⟨rfl, h, _⟩
                  have J7 := Lib.hid h
                  clear h
                  go_wp2_with fail
                  have HF := Lib.hid J7.out.fr
                  go_ret
                  exact ⟨rfl, HF.out⟩
              | true =>
                obtain rfl := htr rfl rfl
                cases u6 with
                | false =>
                  clear hz0 hz1 htr han
                  go_wp2_with fail
                  refine (K1.out _ H3.out).mono ?_
                  rintro e x1 ⟨rfl, h, _⟩
                  have J1 := Lib.hid h
                  clear h
                  go_wp2_with fail
                  refine (K1.out _ J1.out).mono ?_
                  rintro e x2 ⟨rfl, h, _⟩
                  have J2 := Lib.hid h
                  clear h
                  go_wp2_with fail
                  refine (K2.out _ J2.out).mono ?_
                  rintro e x3 ⟨rfl, h, _⟩
                  have J3 := Lib.hid h
                  clear h
                  go_wp2_with fail
                  refine (K3.out _ J3.out).mono ?_
                  rintro e x4 ⟨rfl, h, _⟩
                  have J4 := Lib.hid h
                  clear h
                  go_wp2_with fail
                  refine (K4.out _ J4.out).mono ?_
                  rintro e x5 ⟨rfl, h, _⟩
                  have J5 := Lib.hid h
                  clear h
                  go_wp2_with fail
                  refine (K5.out _ J5.out).mono ?_
                  rintro e x6 ⟨rfl, h, _⟩
                  have J6 := Lib.hid h
                  clear h
                  go_wp2_with fail
                  refine (K1.out _ J6.out).mono ?_
                  rintro e x7 ⟨rfl, h, _⟩
                  have J7 := Lib.hid h
                  clear h
                  go_wp2_with fail
                  refine (K6.out _ J7.out).mono ?_
                  rintro e x8 ⟨rfl, h, _⟩
                  have J8 := Lib.hid h
                  clear h
                  go_wp2_with fail
                  have HF := Lib.hid J8.out.fr
                  go_ret
                  exact ⟨rfl, HF.out⟩
                | true =>
                  obtain rfl := han rfl rfl
                  clear hz0 hz1 htr han
                  go_wp2_with fail
                  refine (K1.out _ H3.out).mono ?_
                  rintro e x1 ⟨rfl, h, _⟩
                  have J1 := Lib.hid h
                  clear h
                  go_wp2_with fail
                  refine (K1.out _ J1.out).mono ?_
                  rintro e x2 ⟨rfl, h, _⟩
                  have J2 := Lib.hid h
                  clear h
                  go_wp2_with fail
                  refine (K2.out _ J2.out).mono ?_
                  rintro e x3 ⟨rfl, h, _⟩
                  have J3 := Lib.hid h
                  clear h
                  go_wp2_with fail
                  refine (K3.out _ J3.out).mono ?_
                  rintro e x4 ⟨rfl, h, _⟩
                  have J4 := Lib.hid h
                  clear h
                  go_wp2_with fail
                  refine (K4.out _ J4.out).mono ?_
                  rintro e x5 ⟨rfl, h, _⟩
                  have J5 := Lib.hid h
                  clear h
                  go_wp2_with fail
                  refine (K5.out _ J5.out).mono ?_
                  rintro e x6 ⟨rfl, h, _⟩
                  have J6 := Lib.hid h
                  clear h
                  go_wp2_with fail
                  refine (K1.out _ J6.out).mono ?_
                  rintro e x7 ⟨rfl, h, _⟩
                  have J7 := Lib.hid h
                  clear h
                  go_wp2_with fail
                  refine (K6.out _ J7.out).mono ?_
                  rintro e x8 ⟨rfl, h, _⟩
                  have J8 := Lib.hid h
                  clear h
                  go_wp2_with fail
                  have HF := Lib.hid J8.out.fr
                  go_ret
                  exact ⟨rfl, HF.out⟩
end Go.Proofs.Ytbhcooomdjhoiaa
