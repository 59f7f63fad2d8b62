/- The reference's Groups: Add, Remove. -/
import Derived.Test.YtbhcooomdjhoiaaVk
namespace Go.Proofs.Ytbhcooomdjhoiaa
open Go.RowKit Go.Shelf

def RPost (p : Nat) (G : List GR) (w w' : World) : Prop := (∃ U, IsR w' p U G) ∧ Trip (fun k => k = p) w (fun k => k = p) w'
theorem RPost.below {p : Nat} {U : List Int} {G : List GR} {w w' : World} (h : IsR w p U G) (hb : Below w.heap.size w w') : RPost p G w w' :=
  ⟨⟨U, h.below hb⟩, ⟨hb.os, hb.tape, hb.output, hb.size, fun k hk _ => hb.block k hk, fun _ h => .inl h, by rintro k rfl; have := h.lt; have := hb.size; omega⟩⟩
theorem RPost.after {p : Nat} {G : List GR} {w w1 w2 : World} (hb : Below w.heap.size w w1) (hp : p < w.heap.size) (h : RPost p G w1 w2) : RPost p G w w2 := by
  obtain ⟨h1, h2⟩ := h
  have s1 := hb.size
  have s2 := h2.size
  exact ⟨h1, ⟨h2.os.trans hb.os, h2.tape.trans hb.tape, h2.output.trans hb.output, by omega, fun k hk hn => (h2.block k (by omega) hn).trans (hb.block k hk), fun _ h => .inl h, by rintro k rfl; omega⟩⟩
theorem RPost.drew {p : Nat} {G : List GR} {w w' : World} (h : RPost p G w w') : RPost p G w w'.drew := by
  obtain ⟨⟨U, h1⟩, h2⟩ := h
  exact ⟨⟨U, h1.box, h1.ups⟩, h2.drew⟩
theorem nums_first {G : List GR} {k t : Nat} (hj : ∀ j, j < k → ∃ t', G[j]? = some (t', true)) (hk : G[k]? = some (t, false)) : ∃ r, numsL G false = k :: r := by
  have h0 : ∀ m, m ≤ k → numsTo G false m = [] := by
    intro m
    induction m with
    | zero => intro _; rfl
    | succ m ih =>
      intro hm
      obtain ⟨t', h1⟩ := hj m (by omega)
      rw [numsTo_no h1 (by decide)]
      exact ih (by omega)
  have h1 := numsTo_le G false (k := k + 1) (n := G.length) (List.getElem?_eq_some_iff.1 hk).1
  rw [numsTo_yes hk, h0 k (Nat.le_refl _)] at h1
  obtain ⟨r, hr⟩ := h1
  exact ⟨r, hr.symm⟩
theorem nums_full {G : List GR} (hj : ∀ j, j < G.length → ∃ t', G[j]? = some (t', true)) : numsL G false = [] := by
  have h0 : ∀ m, m ≤ G.length → numsTo G false m = [] := by
    intro m
    induction m with
    | zero => intro _; rfl
    | succ m ih =>
      intro hm
      obtain ⟨t', h1⟩ := hj m (by omega)
      rw [numsTo_no h1 (by decide)]
      exact ih (by omega)
  exact h0 _ (Nat.le_refl _)
theorem setCell_list {w : World} {r i : Nat} {t : TypeId} {cs : List Value} (v : Value) (h : w.heap[r]? = some (.cells cs.toArray t (0, 0))) : (w.setCell ⟨r, i, none⟩ v).heap[r]? = some (.cells (cs.set i v).toArray t (0, 0)) := by
  rw [setCell_s v h]; simp
theorem flatR_setIn {U : List Int} {G : List GR} (hl : U.length = 16) (k u : Nat) (c : Bool) : (flatR U G).set (16 + k) (.bool c) = flatR U (G.set k (u, c)) := by
  unfold flatR
  rw [List.set_append_right _ _ (by simp; omega), List.length_map, hl, Nat.add_sub_cancel_left, List.map_set]
theorem flatR_setUp {U : List Int} {G : List GR} {k : Nat} (hk : k < U.length) (z : Int) : (flatR U G).set k (.int .i64 z) = flatR (U.set k z) G := by
  unfold flatR
  rw [List.set_append_left _ _ (by simpa using hk), List.map_set]
theorem UpsOf.drop {U : List Int} {G : List GR} (h : UpsOf U G) (k : Nat) : UpsOf U (G.set k (0, false)) := by
  refine ⟨h.ul, by simp [h.gl], h.u0, fun i u h0 hi => ?_⟩
  by_cases e : k = i
  · subst e
    have hl : k < G.length := by have := (List.getElem?_eq_some_iff.1 hi).1; simpa using this
    rw [List.getElem?_set_self hl] at hi
    simp at hi
  · rw [List.getElem?_set_ne e] at hi
    exact h.us i u h0 hi
theorem UpsOf.add {U : List Int} {G : List GR} (h : UpsOf U G) {k u : Nat} (hk0 : k ≠ 0) (hk : k < 16) : UpsOf (U.set k (u : Int)) (G.set k (u, true)) := by
  refine ⟨by simp [h.ul], by simp [h.gl], by rw [List.getElem?_set_ne hk0]; exact h.u0, fun i v h0 hi => ?_⟩
  by_cases e : k = i
  · subst e
    rw [List.getElem?_set_self (by rw [h.gl]; exact hk)] at hi
    rw [List.getElem?_set_self (by rw [h.ul]; exact hk)]
    simp at hi
    rw [hi]
  · rw [List.getElem?_set_ne e] at hi
    rw [List.getElem?_set_ne e]
    exact h.us i v h0 hi
theorem IsR.dropped {w : World} {p : Nat} {U : List Int} {G : List GR} (h : IsR w p U G) (k : Nat) : RPost p (G.set k (0, false)) w (w.setCell ⟨p, 16 + k, none⟩ (.bool false)) :=
  ⟨⟨U, by rw [← flatR_setIn h.ups.ul k 0 false]; exact setCell_list _ h.box, h.ups.drop k⟩, Trip.setAt (A := fun k => k = p) _ (by rintro k rfl; exact h.lt) rfl⟩
theorem IsR.added {w : World} {p : Nat} {U : List Int} {G : List GR} (h : IsR w p U G) {k : Nat} (u : Nat) (hk0 : k ≠ 0) (hk : k < 16) : RPost p (G.set k (u, true)) w ((w.setCell ⟨p, 16 + k, none⟩ (.bool true)).setCell ⟨p, k, none⟩ (.int .i64 u)) := by
  refine ⟨⟨U.set k (u : Int), ?_, h.ups.add hk0 hk⟩, (Trip.setAt (A := fun k => k = p) _ (by rintro k rfl; exact h.lt) rfl).trans (Trip.setAt (A := fun k => k = p) _ (by rintro k rfl; rw [setCell_z]; exact h.lt) rfl)⟩
  rw [← flatR_setUp (by rw [h.ups.ul]; exact hk), ← flatR_setIn h.ups.ul k u true]
  exact setCell_list _ (setCell_list _ h.box)
theorem IsR.added' {w : World} {p : Nat} {U : List Int} {G : List GR} (h : IsR w p U G) {k : Nat} (u : Nat) (hk0 : k ≠ 0) (hk : k < 16) : RPost p (G.set k (u, true)) w ((w.setCell ⟨p, k, none⟩ (.int .i64 u)).setCell ⟨p, 16 + k, none⟩ (.bool true)) := by
  refine ⟨⟨U.set k (u : Int), ?_, h.ups.add hk0 hk⟩, (Trip.setAt (A := fun k => k = p) _ (by rintro k rfl; exact h.lt) rfl).trans (Trip.setAt (A := fun k => k = p) _ (by rintro k rfl; rw [setCell_z]; exact h.lt) rfl)⟩
  rw [← flatR_setIn (by simp [h.ups.ul]) k u true, ← flatR_setUp (by rw [h.ups.ul]; exact hk)]
  exact setCell_list _ (setCell_list _ h.box)

set_option maxHeartbeats 2000000 in
theorem rremove_c (p : Nat) (U : List Int) (G : List GR) (id : Int) (w : World) (h : IsR w p U G) :
    Calls Try.prog 17 #[.pointer (some ⟨p, 0, none⟩), .int .i64 id] w fun e w' => e = .returned (.int .i64 (remG G id).1) ∧ RPost p (remG G id).2 w w' := by
  have H := Lib.hid h
  by_cases h0 : id = 0
  · subst h0
    rw [remG_zero]
    clear h
    go_enter Try.func17, Try.ntmps17
    go_wp2_with fail
    go_ret
    exact ⟨rfl, RPost.below H.out (Below.refl _ _)⟩
  · have KH := Lib.hid (rhas_c p U G id w h)
    cases hh : hasG G id with
    | false =>
      rw [hh] at KH
      rw [remG_no h0 hh]
      clear h hh
      go_enter Try.func17, Try.ntmps17
      go_wp2_with (go_at_call 26; refine KH.out.mono ?_; rintro e w' ⟨rfl, rfl⟩)
      go_ret
      exact ⟨rfl, RPost.below H.out (Below.refl _ _)⟩
    | true =>
      rw [hh] at KH
      obtain ⟨u, uu, rfl, hux⟩ := hasG_yes hh
      have hul : u < 16 := by have := (List.getElem?_eq_some_iff.1 hux).1; rw [h.ups.gl] at this; exact this
      have HF0 := Lib.hid (remG_ok (G := G) (k := u) h0 hh)
      have HF1 := Lib.hid (remG_in (G := G) h0 hh)
      have d1 := h.ci hux
      have f1 := h.frozen (16 + u)
      clear h hh hux
      go_enter Try.func17, Try.ntmps17
      go_wp2_with (go_at_call 26; refine KH.out.mono ?_; rintro e w' ⟨rfl, rfl⟩)
      go_loopw [5] (fun i wr => ∃ k : Nat, i = .int .i64 k ∧ 1 ≤ k ∧ k ≤ 16 ∧ wr = w ∧ Hid (∀ j, j < k → inB G u j = false ∨ ∃ t, G[j]? = some (t, false))) (fun i _ => 16 - (intOf i).toNat)
      case atStart =>
        refine ⟨1, rfl, by omega, by omega, rfl, Lib.hid (fun j hj => ?_)⟩
        obtain rfl : j = 0 := by omega
        left
        unfold inB upG
        simp
      case round =>
        obtain ⟨k, rfl, hk1, hk, hw, HK⟩ := hrel
        replace hw := hw.symm
        subst hw
        by_cases hlt : k < 16
        · obtain ⟨t, c, hx⟩ := H.out.at hlt
          have e1 := H.out.ci hx
          cases c with
          | false =>
            have HK' : Hid (∀ j, j < k + 1 → inB G u j = false ∨ ∃ t, G[j]? = some (t, false)) := Lib.hid (fun j hj => by
              by_cases e : j = k
              · subst e; exact .inr ⟨t, hx⟩
              · exact HK.out j (by omega))
            clear hx
            go_wp2_with fail
            go_roundw
            case rel => exact ⟨k + 1, by go_num, by omega, by omega, by first | rfl | trivial, HK'⟩
            case measure => simp [intOf]; omega
          | true =>
            have e2 := H.out.cu (H.out.ups.us k t (by omega) hx)
            have hu := upG_of (G := G) (i := k) (u := t) (by omega) hx
            by_cases htu : t = u
            · subst htu
              have HE := Lib.hid (HF1.out (List.any_eq_true.2 ⟨k, mem_numsL' hx, by unfold inB; rw [hu]; simp⟩))
              have hd : ((t : Int) == (t : Int)) = true := by simp
              clear hx hu
              go_wp2_with fail
              go_ret
              exact ⟨by rw [HE.out]; rfl, by rw [HE.out]; exact RPost.below H.out (Below.refl _ _)⟩
            · have hd : ((t : Int) == (u : Int)) = false := by simp; omega
              have hd2 : ¬ (t : Int) = (u : Int) := by omega
              have HK' : Hid (∀ j, j < k + 1 → inB G u j = false ∨ ∃ t, G[j]? = some (t, false)) := Lib.hid (fun j hj => by
                by_cases e : j = k
                · subst e; left; unfold inB; rw [hu]; exact hd
                · exact HK.out j (by omega))
              clear hx hu
              go_wp2_with fail
              go_roundw
              case rel => exact ⟨k + 1, by go_num, by omega, by omega, by first | rfl | trivial, HK'⟩
              case measure => simp [intOf]; omega
        · obtain rfl : k = 16 := by omega
          have HE := Lib.hid (HF0.out (List.any_eq_false.2 (fun x hx => by
            obtain ⟨t, ht⟩ := mem_numsL hx
            have hx16 : x < 16 := by have := (List.getElem?_eq_some_iff.1 ht).1; rw [H.out.ups.gl] at this; exact this
            rcases HK.out x hx16 with h1 | ⟨t', h1⟩
            · rw [h1]; simp
            · rw [ht] at h1; simp at h1)))
          have HP := Lib.hid (H.out.dropped u)
          clear HK
          go_wp2_with fail
          go_ret
          exact ⟨by rw [HE.out]; rfl, by rw [HE.out]; exact HP.out⟩

set_option maxHeartbeats 4000000 in
theorem radd_c (p : Nat) (U : List Int) (G : List GR) (up : Int) (w : World) (h : IsR w p U G) (hw : WfG G) :
    Calls Try.prog 18 #[.pointer (some ⟨p, 0, none⟩), .int .i64 up] w fun e w' => e = .returned (.tuple #[.int .i64 (addG G up).1, .int .i64 (addG G up).2.1]) ∧ RPost p (addG G up).2.2 w w' := by
  have H := Lib.hid h
  have KH := Lib.hid (rhas_c p U G up w h)
  have hpl := h.lt
  cases hh : hasG G up with
  | false =>
    rw [hh] at KH
    rw [addG_id hh]
    clear h hh hw
    go_enter Try.func18, Try.ntmps18
    go_wp2_with (go_at_call 26; refine KH.out.mono ?_; rintro e w' ⟨rfl, rfl⟩)
    go_ret2
    exact ⟨rfl, RPost.below H.out (Below.refl _ _)⟩
  | true =>
    rw [hh] at KH
    obtain ⟨u, uu, rfl, hux⟩ := hasG_yes hh
    obtain ⟨q, hq⟩ : ∃ q, (chI G u).length = q := ⟨_, rfl⟩
    have hq4 : q ≤ 4 := by rw [← hq]; exact hw.len_ch u
    have KP := Lib.hid ((rpath_c p U G u w h hw).mono (R' := fun e w' => ∃ A c, e = .returned (.slice A q c) ∧ Below w.heap.size w w') (by
      rintro e w' ⟨v, rfl, h1, h2⟩
      obtain ⟨A, c, g1, _, _, _⟩ := h1.form
      exact ⟨A, c, by rw [g1, ints64_length, hq], h2⟩))
    by_cases hd : 4 ≤ (chI G u).length
    · rw [addG_deep hh hd]
      rw [hq] at hd
      clear h hh hw hux hq
      go_enter Try.func18, Try.ntmps18
      go_wp2_with (first
        | (go_at_call 26; refine KH.out.mono ?_; rintro e w' ⟨rfl, rfl⟩)
        | (go_at_call 21; refine KP.out.mono ?_; rintro e w' ⟨A, c, rfl, h2⟩; have H2 := Lib.hid h2; clear h2))
      go_ret2
      exact ⟨rfl, RPost.below H.out H2.out⟩
    · have HF0 := Lib.hid (addG_full hh hd)
      have HF1 := Lib.hid (fun k r => addG_ok (k := k) (r := r) hh hd)
      have HW := Lib.hid hw
      rw [hq] at hd
      clear h hh hw hux hq
      go_enter Try.func18, Try.ntmps18
      go_wp2_with (first
        | (go_at_call 26; refine KH.out.mono ?_; rintro e w' ⟨rfl, rfl⟩)
        | (go_at_call 21; refine KP.out.mono ?_; rintro e w5 ⟨A, c, rfl, h2⟩; have H2 := Lib.hid h2; clear h2))
      have H5 := Lib.hid (H.out.below H2.out)
      go_loopw [6] (fun i wr => ∃ k : Nat, i = .int .i64 k ∧ 1 ≤ k ∧ k ≤ 16 ∧ wr = w5 ∧ Hid (∀ j, j < k → ∃ t, G[j]? = some (t, true))) (fun i _ => 16 - (intOf i).toNat)
      case atStart =>
        refine ⟨1, rfl, by omega, by omega, rfl, Lib.hid (fun j hj => ?_)⟩
        obtain rfl : j = 0 := by omega
        exact HW.out.root
      case round =>
        obtain ⟨k, rfl, hk1, hk, hw, HK⟩ := hrel
        replace hw := hw.symm
        subst hw
        by_cases hlt : k < 16
        · obtain ⟨t, c, hx⟩ := H5.out.at hlt
          have e1 := H5.out.ci hx
          cases c with
          | true =>
            have HK' : Hid (∀ j, j < k + 1 → ∃ t, G[j]? = some (t, true)) := Lib.hid (fun j hj => by
              by_cases e : j = k
              · subst e; exact ⟨t, hx⟩
              · exact HK.out j (by omega))
            clear hx
            go_wp2_with fail
            go_roundw
            case rel => exact ⟨k + 1, by go_num, by omega, by omega, by first | rfl | trivial, HK'⟩
            case measure => simp [intOf]; omega
          | false =>
            obtain ⟨r, hr⟩ := nums_first HK.out hx
            have HE := Lib.hid (HF1.out k r hr)
            have h5d : IsR w5 p U G := H5.out
            obtain ⟨z, hz⟩ : ∃ z, U[k]? = some z := ⟨_, List.getElem?_eq_getElem (by rw [H5.out.ups.ul]; exact hlt)⟩
            have P1 := Lib.hid ((RPost.after (H2.out) hpl (h5d.added u (by omega) hlt)).drew)
            have P2 := Lib.hid ((RPost.after (H2.out) hpl (h5d.added' u (by omega) hlt)).drew)
            have a1 := h5d.ci hx
            have a2 := h5d.cu hz
            have a3 := h5d.frozen (16 + k)
            have a4 := h5d.frozen k
            clear hx hr HK h5d hz
            go_wp2_with fail
            go_region
            all_goals
              go_wp2_with fail
              go_ret2
              exact ⟨by rw [HE.out]; rfl, by rw [HE.out]; first | exact P1.out | exact P2.out⟩
        · obtain rfl : k = 16 := by omega
          have HE := Lib.hid (HF0.out (nums_full (fun j hj => HK.out j (by rw [H5.out.ups.gl] at hj; exact hj))))
          clear HK
          go_wp2_with fail
          go_ret2
          exact ⟨by rw [HE.out]; rfl, by rw [HE.out]; exact RPost.below H.out H2.out⟩
end Go.Proofs.Ytbhcooomdjhoiaa
