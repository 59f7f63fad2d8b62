/- The contract of the reference's Div. -/
import Derived.Test.YtaeondpeaabfeaaRi
namespace Go.Proofs.Ytaeondpeaabfeaa
open Go.RowKit

theorem own_below {w w' : World} {base B e n : Nat} {v : Value} {xs : List Value} (h : w.ownsRow base e 1 v n xs) (hb : Below B w w') (hB : w.heap.size ≤ B) : w'.ownsRow base e 1 v n xs := by
  refine ⟨h.1, ?_⟩
  rcases h.2 with h2 | ⟨g, cap, cur, h1, h2, h3, h4⟩
  · exact .inl h2
  · refine .inr ⟨g, cap, cur, h1, h2, ?_, h4⟩
    have hg : g < w.heap.size := by
      rcases Nat.lt_or_ge g w.heap.size with h | h
      · exact h
      · rw [Array.getElem?_eq_none h] at h3; cases h3
    rw [hb.block g (by omega)]; exact h3

theorem RowP.row {w : World} {base n c : Nat} {A : Option Addr} {l : List Int} (h : RowP w base (.slice A n c) l) (hb : base ≤ w.heap.size) : IRow .i64 w w.heap.size A l := by
  obtain ⟨A', c', hv, hr⟩ := h.form hb
  injection hv with h1
  subst h1
  exact hr
/-- A row of the call's own: its form, its cells. -/
theorem own_form {w : World} {base e : Nat} {v : Value} {xs : List Value} (h : w.ownsRow base e 1 v xs.length xs) : ∃ A c, v = .slice A xs.length c ∧ xs.length ≤ c := by
  rcases h.2 with ⟨h1, h2⟩ | ⟨g, cap, cur, h1, _, _, h4, _⟩
  · exact ⟨none, 0, by rw [h1, h2], by omega⟩
  · exact ⟨some ⟨g, 0, none⟩, cap, h1, h4⟩
theorem own_cell {w : World} {base e n c j : Nat} {A : Option Addr} {x : Value} {xs : List Value} (h : w.ownsRow base e 1 (.slice A n c) xs.length xs) (hx : xs[j]? = some x) : ∃ ad, A = some ad ∧ w.cell? (ad.add j) = some x := by
  rcases h.2 with ⟨h1, h2⟩ | ⟨g, cap, cur, h1, _, _, h4, _⟩
  · rw [List.eq_nil_of_length_eq_zero h2] at hx; simp at hx
  · injection h1 with h1
    subst h1
    exact ⟨_, rfl, World.ownsRow.cells h rfl j x hx⟩
/-- The first loop's memory: two rows of rows, two rows. -/
structure DMem (base : Nat) (W wr : World) (s6 s7 s8 s9 : Value) (xs ys : List Value) (ls ms : List (List Int)) (d one : List Int) : Prop where
  o6 : wr.ownsRow base 30 1 s6 xs.length xs
  o9 : wr.ownsRow base 30 1 s9 ys.length ys
  ap : Apart s6 s9
  r6 : Rows wr base xs ls
  r9 : Rows wr base ys ms
  r7 : RowP wr base s7 d
  r8 : RowP wr base s8 one
  bel : Below base W wr
  sz : base ≤ wr.heap.size
/-- .. behind a call that has made memory alone. -/
theorem DMem.called {base : Nat} {W wr w' : World} {s6 s7 s8 s9 : Value} {xs ys : List Value} {ls ms : List (List Int)} {d one : List Int} (h : DMem base W wr s6 s7 s8 s9 xs ys ls ms d one) (hb : Below wr.heap.size wr w') : DMem base W w' s6 s7 s8 s9 xs ys ls ms d one :=
  ⟨own_below h.o6 hb (Nat.le_refl _), own_below h.o9 hb (Nat.le_refl _), h.ap, h.r6.below h.sz hb, h.r9.below h.sz hb, h.r7.below h.sz hb, h.r8.below h.sz hb, h.bel.trans (hb.mono h.sz), Nat.le_trans h.sz hb.size⟩
/-- .. behind 'steps = append(steps, d)'. -/
theorem DMem.app6 {base : Nat} {W wr w' : World} {s6 s6' s7 s8 s9 : Value} {xs ys : List Value} {ls ms : List (List Int)} {d one : List Int} (h : DMem base W wr s6 s7 s8 s9 xs ys ls ms d one)
    (ho : w'.ownsRow base 30 1 s6' (xs ++ [s7]).length (xs ++ [s7])) (hg : (wr.alloc (.cells #[s7] 30)).grownBy w' s6.ownBlock) (hb : Below base wr w') (hat : s6'.ownBlock = s6.ownBlock ∨ s6'.ownBlock = some (wr.heap.size + 1)) :
    DMem base W w' s6' s7 s8 s9 (xs ++ [s7]) ys (ls ++ [d]) ms d one := by
  have h0 : DMem base W (wr.alloc (.cells #[s7] 30)) s6 s7 s8 s9 xs ys ls ms d one := h.called ((Below.refl _ _).alloc (Nat.le_refl _) _)
  refine ⟨ho, own_kept h0.o9 h0.o6 h.ap.symm hg, (Apart.moved h.ap.symm h.o9 hat).symm, ?_, h0.r9.other h0.o6 (by decide) hg h0.sz, h0.r7.other h0.o6 (by decide) hg h0.sz, h0.r8.other h0.o6 (by decide) hg h0.sz, h.bel.trans hb, Nat.le_trans h.sz hb.size⟩
  exact (h0.r6.other h0.o6 (by decide) hg h0.sz).snoc (h0.r7.other h0.o6 (by decide) hg h0.sz)
/-- .. behind 'ones = append(ones, one)'. -/
theorem DMem.app9 {base : Nat} {W wr w' : World} {s6 s7 s8 s9 s9' : Value} {xs ys : List Value} {ls ms : List (List Int)} {d one : List Int} (h : DMem base W wr s6 s7 s8 s9 xs ys ls ms d one)
    (ho : w'.ownsRow base 30 1 s9' (ys ++ [s8]).length (ys ++ [s8])) (hg : (wr.alloc (.cells #[s8] 30)).grownBy w' s9.ownBlock) (hb : Below base wr w') (hat : s9'.ownBlock = s9.ownBlock ∨ s9'.ownBlock = some (wr.heap.size + 1)) :
    DMem base W w' s6 s7 s8 s9' xs (ys ++ [s8]) ls (ms ++ [one]) d one := by
  have h0 : DMem base W (wr.alloc (.cells #[s8] 30)) s6 s7 s8 s9 xs ys ls ms d one := h.called ((Below.refl _ _).alloc (Nat.le_refl _) _)
  refine ⟨own_kept h0.o6 h0.o9 h.ap hg, ho, Apart.moved h.ap h.o6 hat, h0.r6.other h0.o9 (by decide) hg h0.sz, ?_, h0.r7.other h0.o9 (by decide) hg h0.sz, h0.r8.other h0.o9 (by decide) hg h0.sz, h.bel.trans hb, Nat.le_trans h.sz hb.size⟩
  exact (h0.r9.other h0.o9 (by decide) hg h0.sz).snoc (h0.r8.other h0.o9 (by decide) hg h0.sz)
/-- .. with a new row in d's place, in one's place. -/
theorem DMem.set7 {base : Nat} {W wr : World} {s6 s7 s7' s8 s9 : Value} {xs ys : List Value} {ls ms : List (List Int)} {d d' one : List Int} (h : DMem base W wr s6 s7 s8 s9 xs ys ls ms d one) (h7 : RowP wr base s7' d') : DMem base W wr s6 s7' s8 s9 xs ys ls ms d' one := { h with r7 := h7 }
theorem DMem.set8 {base : Nat} {W wr : World} {s6 s7 s8 s8' s9 : Value} {xs ys : List Value} {ls ms : List (List Int)} {d one one' : List Int} (h : DMem base W wr s6 s7 s8 s9 xs ys ls ms d one) (h8 : RowP wr base s8' one') : DMem base W wr s6 s7 s8' s9 xs ys ls ms d one' := { h with r8 := h8 }

/-- A quotient, rounded down, where the sizes are P and D. -/
def divV (na nb : Bool) (P D : Int) : Int := if (!(na == nb)) = true then (if P % D = 0 then -(P / D) else -(P / D) - 1) else P / D
/-- What holds at the head of the first loop. -/
def DOne (w : World) (base : Nat) (W : World) (Pv D : Int) (gk : Nat) (s6 s7 s8 s9 : Value) (wr : World) : Prop :=
  ∃ (n : Nat) (xs ys : List Value) (ls ms : List (List Int)) (d one : List Int), DMem base W wr s6 s7 s8 s9 xs ys ls ms d one ∧ DSum Pv D n ls ms d one ∧ gk = (Pv + 1 - val d).toNat ∧ Below w.heap.size w wr

set_option maxHeartbeats 4000000 in
theorem div_ref (va vb : Value) (na nb : Bool) (la lb : List Int) (w : World) (ha : BigV w va na la) (hb : BigV w vb nb lb) (h1 : la.length ≤ 14) (h2 : lb.length ≤ 14) (hD : 1 ≤ val lb) :
    Calls Try.prog 36 #[va, vb] w (RetBig w (divV na nb (val la) (val lb)) 17) := by
  obtain ⟨A, c, rfl, hr, hd⟩ := ha
  obtain ⟨A', c', rfl, hr', hd'⟩ := hb
  obtain ⟨i0, hi0, hz0, hz1, hz2⟩ := info_parts info_row
  have hPv : val la < 65536 ^ 14 := Int.lt_of_lt_of_le (val_bound hd).2 (pow_mono h1)
  have HP := Lib.hid hPv
  have HR := Lib.hid hr
  have HR' := Lib.hid hr'
  have HD := Lib.hid hd
  have HD' := Lib.hid hd'
  clear hr hr' hd hd' hPv
  have hBW := three_below w #[.bool na, .slice A la.length c] #[.bool nb, .slice A' lb.length c'] #[.bool false, .slice none 0 0] 53
  go_enter Try.func36, Try.ntmps36
  go_wp2_with fail
  have hdm : DMem (w.heap.size + 3) (((w.alloc (.cells #[.bool na, .slice A la.length c] 53)).alloc (.cells #[.bool nb, .slice A' lb.length c'] 53)).alloc (.cells #[.bool false, .slice none 0 0] 53)) ((((w.alloc (.cells #[.bool na, .slice A la.length c] 53)).alloc (.cells #[.bool nb, .slice A' lb.length c'] 53)).alloc (.cells #[.bool false, .slice none 0 0] 53)).alloc (.cells #[.int .i64 1] 2)) (.slice none 0 0) (.slice A' lb.length c') (.slice (some ⟨w.heap.size + 1 + 1 + 1, 0, none⟩) 1 1) (.slice none 0 0) [] [] [] [] lb [1] := by
    have e1 : Below w.heap.size w ((((w.alloc (.cells #[.bool na, .slice A la.length c] 53)).alloc (.cells #[.bool nb, .slice A' lb.length c'] 53)).alloc (.cells #[.bool false, .slice none 0 0] 53)).alloc (.cells #[.int .i64 1] 2)) := hBW.alloc hBW.size _
    refine ⟨World.ownsRow_nil _ _ _ _, World.ownsRow_nil _ _ _ _, (fun g h => by cases h), Rows.nil _ _, Rows.nil _ _, .inl ⟨A', c', rfl, (HR'.out.below e1).more (by omega)⟩, .inr ?_, (Below.refl _ _).alloc (by simp) _, by simp⟩
    have h := World.ownsRow_lit (base := w.heap.size + 3) (e := 2) (size := 1) (((w.alloc (.cells #[.bool na, .slice A la.length c] 53)).alloc (.cells #[.bool nb, .slice A' lb.length c'] 53)).alloc (.cells #[.bool false, .slice none 0 0] 53)) #[.int .i64 1] 1 (by simp) (by decide) rfl
    unfold OwnI
    simpa using h
  have hds : DSum (val la) (val lb) 0 [] [] lb [1] := DSum.start HD'.out rfl h2
  have e1 : Below w.heap.size w ((((w.alloc (.cells #[.bool na, .slice A la.length c] 53)).alloc (.cells #[.bool nb, .slice A' lb.length c'] 53)).alloc (.cells #[.bool false, .slice none 0 0] 53)).alloc (.cells #[.int .i64 1] 2)) := hBW.alloc hBW.size _
  have hone : DOne w (w.heap.size + 3) (((w.alloc (.cells #[.bool na, .slice A la.length c] 53)).alloc (.cells #[.bool nb, .slice A' lb.length c'] 53)).alloc (.cells #[.bool false, .slice none 0 0] 53)) (val la) (val lb) (val la + 1 - val lb).toNat (.slice none 0 0) (.slice A' lb.length c') (.slice (some ⟨w.heap.size + 1 + 1 + 1, 0, none⟩) 1 1) (.slice none 0 0) ((((w.alloc (.cells #[.bool na, .slice A la.length c] 53)).alloc (.cells #[.bool nb, .slice A' lb.length c'] 53)).alloc (.cells #[.bool false, .slice none 0 0] 53)).alloc (.cells #[.int .i64 1] 2)) :=
    ⟨0, [], [], [], [], lb, [1], hdm, hds, rfl, e1⟩
  clear hdm hds e1
  go_loopg [6, 7, 8, 9] (val la + 1 - val lb).toNat (fun gk s6 s7 s8 s9 wr => DOne w (w.heap.size + 3) (((w.alloc (.cells #[.bool na, .slice A la.length c] 53)).alloc (.cells #[.bool nb, .slice A' lb.length c'] 53)).alloc (.cells #[.bool false, .slice none 0 0] 53)) (val la) (val lb) gk s6 s7 s8 s9 wr)
  case atStart => exact hone
  case round =>
    clear hone
    obtain ⟨n, xs, ys, ls, ms, d, one, hm, hs, hgk, hB⟩ := hrel
    have hsz := hm.sz
    obtain ⟨Ad, cd, rfl, hrd⟩ := hm.r7.form hsz
    obtain ⟨Ao, co, rfl, hro⟩ := hm.r8.form hsz
    have hra := (HR.out.below hB).more hB.size
    have HC := Lib.hid (cmpSize_c Ad A cd c wr.heap.size d la wr hrd hra hs.dd HD.out (by have := hs.ld; omega) (by omega))
    have HG := Lib.hid hgk
    have HM := Lib.hid hm
    have HS := Lib.hid hs
    have hxl : Hid ((xs.length + 1) * 24 ≤ 140737488355328) := Lib.hid (by have := hm.r6.1; have := hs.nl; have := hs.nn; omega)
    have hyl : Hid ((ys.length + 1) * 24 ≤ 140737488355328) := Lib.hid (by have := hm.r9.1; have := hs.nm; have := hs.nn; omega)
    have o6 := hm.o6
    clear hgk hrd hro hra hm hs
    by_cases hle : val d ≤ val la
    · have hc0 : cmpV (val d) (val la) ≤ 0 := cmpV_nonpos hle
      go_wp2_with fail
      refine HC.out.mono ?_
      rintro e w' ⟨rfl, rfl⟩
      go_wp2_with (first
        | (go_at_call_of 45 (Value.slice Ao one.length co); refine (put_add_p Ao Ao co co one one _ R8.out R8.out HS.out.dn HS.out.dn (by have := HS.out.lo; omega) (by have := HS.out.lo; omega)).mono ?_; rintro e w4 ⟨v8, one', rfl, ow8, dg8, vl8, ln8, bl8⟩; have hm4 := HM3.out.called bl8; have HM4 := Lib.hid (hm4.set8 (.inr (ow8.base_le sz3))); have H8 := Lib.hid (And.intro dg8 (And.intro vl8 ln8)); clear hm4 ow8 dg8 vl8 ln8 bl8)
        | (go_at_call_of 45 (Value.slice Ad d.length cd); refine (put_add_p Ad Ad cd cd d d _ (HM2.out.r7.row sz2) (HM2.out.r7.row sz2) HS.out.dd HS.out.dd (by have := HS.out.ld; omega) (by have := HS.out.ld; omega)).mono ?_; rintro e w3 ⟨v7, d', rfl, ow7, dg7, vl7, ln7, bl7⟩; have hm3 := HM2.out.called bl7; have sz3 := hm3.sz; have HM3 := Lib.hid (hm3.set7 (.inr (ow7.base_le sz2))); have R8 := Lib.hid (hm3.r8.row sz3); have H7 := Lib.hid (And.intro dg7 (And.intro vl7 ln7)); clear hm3 ow7 dg7 vl7 ln7 bl7)
        | (at_builtin; refine wpList_app1v rfl _ _ 64 rfl (w.heap.size + 3) 30 i0 24 (.slice none 0 0) Try.underlying64 hi0 hz0 hz1 rfl hz2 _ ys rfl o9 (.slice Ao one.length co) rfl rfl hyl.out (by decide) (by omega) ?_; intro v9 w2 q1 q2 q5 q4; have hm2 := HM1.out.app9 q1 q2 q5 q4; have sz2 := hm2.sz; have HM2 := Lib.hid hm2; clear q1 q2 q4 hm2 o9)
        | (at_builtin; refine wpList_app1v rfl _ _ 64 rfl (w.heap.size + 3) 30 i0 24 (.slice none 0 0) Try.underlying64 hi0 hz0 hz1 rfl hz2 _ xs rfl o6 (.slice Ad d.length cd) rfl rfl hxl.out (by decide) (by omega) ?_; intro v6 w1 q1 q2 q3 q4; have hm1 := HM.out.app6 q1 q2 q3 q4; have o9 := hm1.o9; have sz1 := hm1.sz; have HM1 := Lib.hid hm1; clear q1 q2 q4 hm1 o6))
      go_roundg (val la + 1 - val d').toNat
      case measure =>
        have h7 := H7.out.2.1
        have hv := HS.out.vd
        have hp := two_pow_pos n
        have hpos : 1 * 2 ^ n ≤ val lb * 2 ^ n := Int.mul_le_mul_of_nonneg_right hD (by omega)
        rw [HG.out]
        omega
      case rel => exact ⟨n + 1, _, _, _, _, d', one', HM4.out, HS.out.next hD HP.out hle H7.out.1 H7.out.2.1 H7.out.2.2 H8.out.1 H8.out.2.1 H8.out.2.2, rfl, hBW.trans (HM4.out.bel.mono (by omega))⟩
    · have hc0 : 0 < cmpV (val d) (val la) := by rw [cmpV_gt (by omega)]; decide
      obtain ⟨A6, c6, rfl, hc6⟩ := own_form o6
      have o9 := HM.out.o9
      obtain ⟨A9, c9, rfl, hc9⟩ := own_form o9
      clear o6 o9
      have hc0b : decide (cmpV (val d) (val la) ≤ 0) = false := by simp; omega
      have hyn : Hid (ys.length = n) := Lib.hid (by have := HM.out.r9.1; have := HS.out.nm; omega)
      have hxn : Hid (xs.length = n) := Lib.hid (by have := HM.out.r6.1; have := HS.out.nl; omega)
      have hlt0 : Hid (val la < val lb * 2 ^ n) := Lib.hid (by rw [← HS.out.vd]; omega)
      have hxs : xs.length ≤ 240 := by rw [hxn.out]; exact HS.out.nn
      go_wp2_with fail
      refine HC.out.mono ?_
      rintro e w' ⟨rfl, rfl⟩
      clear hle HC
      go_wp2_with fail
      have hm0 : DMem (w.heap.size + 3) (((w.alloc (.cells #[.bool na, .slice A la.length c] 53)).alloc (.cells #[.bool nb, .slice A' lb.length c'] 53)).alloc (.cells #[.bool false, .slice none 0 0] 53)) (wr.alloc (.cells #[.int .i64 0] 2)) (.slice A6 xs.length c6) (.slice A la.length c) (.slice (some ⟨wr.heap.size, 0, none⟩) 1 1) (.slice A9 ys.length c9) xs ys ls ms la [0] := by
        have e1 : Below wr.heap.size wr (wr.alloc (.cells #[.int .i64 0] 2)) := (Below.refl _ _).alloc (Nat.le_refl _) _
        have e2 := hB.trans (e1.mono hB.size)
        have h := World.ownsRow_lit (base := w.heap.size + 3) (e := 2) (size := 1) wr #[.int .i64 0] 1 hsz (by decide) rfl
        exact ((HM.out.called e1).set7 (.inl ⟨A, c, rfl, (HR.out.below e2).more (by omega)⟩)).set8 (.inr (by unfold OwnI; simpa using h))
      have hv0 : DDiv (val la) (val lb) n la [0] := ⟨by simp [val, V, dg], hlt0.out, HD.out, by intro x hx; simp at hx; omega, by omega, .inl (by simp), by simp⟩
      have PL := Lib.hid HS.out.pl
      have PM := Lib.hid HS.out.pm
      have LN := Lib.hid (And.intro HS.out.nl HS.out.nm)
      clear HM HS HG hxl hyl hsz hlt0
      go_loopw [5, 10, 11] (fun t5 t10 i wq => ∃ (k : Nat) (s q : List Int), i = .int .i64 ((k : Int) - 1) ∧ k ≤ n ∧ DMem (w.heap.size + 3) (((w.alloc (.cells #[.bool na, .slice A la.length c] 53)).alloc (.cells #[.bool nb, .slice A' lb.length c'] 53)).alloc (.cells #[.bool false, .slice none 0 0] 53)) wq (.slice A6 xs.length c6) t5 t10 (.slice A9 ys.length c9) xs ys ls ms s q ∧ DDiv (val la) (val lb) k s q) (fun _ _ i _ => (intOf i + 1).toNat)
      case atStart => exact ⟨n, la, [0], by rw [hxn.out], Nat.le_refl _, hm0, hv0⟩
      case round =>
        clear hm0 hv0
        obtain ⟨k, s, q, rfl, hk, hm, hv⟩ := hrel
        have hsz := hm.sz
        obtain ⟨As, cs, rfl, hrs⟩ := hm.r7.form hsz
        obtain ⟨Aq, cq, rfl, hrq⟩ := hm.r8.form hsz
        rcases k with _ | m
        · have hdone := hv.done hD
          have hb3 : Below (((w.alloc (.cells #[.bool na, .slice A la.length c] 53)).alloc (.cells #[.bool nb, .slice A' lb.length c'] 53)).alloc (.cells #[.bool false, .slice none 0 0] 53)).heap.size (((w.alloc (.cells #[.bool na, .slice A la.length c] 53)).alloc (.cells #[.bool nb, .slice A' lb.length c'] 53)).alloc (.cells #[.bool false, .slice none 0 0] 53)) wr := by
            have h := hm.bel
            have e : (((w.alloc (.cells #[.bool na, .slice A la.length c] 53)).alloc (.cells #[.bool nb, .slice A' lb.length c'] 53)).alloc (.cells #[.bool false, .slice none 0 0] 53)).heap.size = w.heap.size + 3 := by simp
            rw [e]; exact h
          obtain ⟨k1, k2, k3, k4⟩ := three_cells hb3
          have a0 : wr.cell? ⟨w.heap.size, 0, none⟩ = some (.bool na) := k1 0
          have b0 : wr.cell? ⟨w.heap.size + 1, 0, none⟩ = some (.bool nb) := k2 0
          have c0 : wr.cell? ⟨w.heap.size + 1 + 1, 0, none⟩ = some (.bool false) := k3 0
          have c1 : wr.cell? ⟨w.heap.size + 1 + 1, 1, none⟩ = some (.slice none 0 0) := k3 1
          have f0 : ∀ i, wr.frozen? ⟨w.heap.size + 1 + 1, i, none⟩ = false := k4
          have hBq : Below w.heap.size w wr := hBW.trans (hm.bel.mono (by omega))
          have hbq : ∀ sg, BigV wr (.agg #[.bool sg, .slice Aq q.length cq]) sg q := fun sg => ⟨Aq, cq, rfl, hrq, hv.dq⟩
          have HBQ := Lib.hid hbq
          have HPZ := Lib.hid (show PZ (w.heap.size + 1 + 1) wr from ⟨c0, c1, f0⟩)
          clear hbq
          have HCS := Lib.hid (fun W (hb : Below wr.heap.size wr W) => cmpSize_c As none cs 0 wr.heap.size s [] W (hrs.below hb) IRow.nil hv.ds Dig.nil (by have := hv.ls; omega) (by simp))
          have HDN := Lib.hid hdone
          have hlq := hv.lq
          have hs0 := (val_bound hv.ds).1
          clear hm hv hb3 k1 k2 k3 k4 hdone hrs hrq hk PL PM LN hxn hyn
          have z1 : w.heap.size < wr.heap.size := by omega
          have z2 : w.heap.size + 1 < wr.heap.size := by omega
          have z3 : w.heap.size + 1 + 1 < wr.heap.size := by omega
          by_cases hsg : na = nb
          · subst hsg
            have hsb : (na == na) = true := by simp
            have HV : Hid (sval false q = divV na na (val la) (val lb)) := Lib.hid (by unfold divV; rw [hsb, ← HDN.out.1]; rfl)
            go_wp2_with fail
            refine bodyPost_ret (v := .agg #[.bool false, .slice Aq q.length cq]) ?_ rfl ?_
            · have hcc := (HPZ.out.cells (u0 := .bool false) (u1 := .slice Aq q.length cq))
              have hcc1 := hcc.1
              have hcc2 := hcc.2
              simp [results, Try.results36, go_sem, hcc1, hcc2, z3]
            · exact ⟨_, false, q, rfl, ((HBQ.out false).set HPZ.out).alloc _, HV.out, by omega, ((hBq.setCell (by simp; omega) _).setCell (by simp; omega) _).alloc (by simp; omega) _⟩
          · have hsb : (na == nb) = false := beq_eq_false_iff_ne.2 hsg
            by_cases hs : val s = 0
            · have HV : Hid (sval true q = divV na nb (val la) (val lb)) := Lib.hid (by unfold divV; rw [hsb, ← HDN.out.1, ← HDN.out.2, if_pos hs]; rfl)
              have hcv : cmpV (val s) (val []) = 0 := by rw [hs, val_nil]; exact cmpV_eq rfl
              rw [hcv] at HCS
              clear hs hcv
              go_wp2_with (go_at_call 44; refine (HCS.out _ ((Below.refl _ _).alloc (Nat.le_refl _) _)).mono ?_; rintro e w' ⟨rfl, rfl⟩)
              refine bodyPost_ret (v := .agg #[.bool true, .slice Aq q.length cq]) ?_ rfl ?_
              · have hcc := (HPZ.out.cells (u0 := .bool true) (u1 := .slice Aq q.length cq))
                have hcc1 := hcc.1
                have hcc2 := hcc.2
                simp [results, Try.results36, go_sem, hcc1, hcc2, z3]
              · exact ⟨_, true, q, rfl, ((HBQ.out true).set HPZ.out).alloc _, HV.out, by omega, ((hBq.setCell (by simp; omega) _).setCell (by simp; omega) _).alloc (by simp; omega) _⟩
            · have hcv : cmpV (val s) (val []) = 1 := by rw [val_nil]; exact cmpV_gt (by omega)
              rw [hcv] at HCS
              have HV : Hid (sval true q + -1 = divV na nb (val la) (val lb)) := Lib.hid (by unfold divV; rw [hsb, ← HDN.out.1, ← HDN.out.2, if_neg hs, sval_neg]; simp; omega)
              clear hs hcv
              go_wp2_with (go_at_call 44; refine (HCS.out _ ((Below.refl _ _).alloc (Nat.le_refl _) _)).mono ?_; rintro e w' ⟨rfl, rfl⟩)
              have ee : Below wr.heap.size wr (wr.alloc (.cells #[.bool true, .slice Aq q.length cq] 53)) := (Below.refl _ _).alloc (Nat.le_refl _) _
              have q0 : Hid ((wr.alloc (.cells #[.bool true, .slice Aq q.length cq] 53)).cell? ⟨wr.heap.size, 0, none⟩ = some (.bool true) ∧ (wr.alloc (.cells #[.bool true, .slice Aq q.length cq] 53)).cell? ⟨wr.heap.size, 1, none⟩ = some (.slice Aq q.length cq)) := Lib.hid (by simp [go_sem])
              have g0 := Lib.hid ((HBQ.out true).below ee)
              have p0 := Lib.hid (HPZ.out.next ee)
              have d0 := Lib.hid (hBq.trans (ee.mono hBq.size))
              clear ee a0 b0 c0 c1 f0
              go_region_held3 (fun w' => w'.cell? ⟨wr.heap.size, 0, none⟩ = some (.bool true) ∧ w'.cell? ⟨wr.heap.size, 1, none⟩ = some (.slice Aq q.length cq)) (first | exact q2.out | exact q1.out | exact q0.out | exact two_set q2.out (by omega))
                (first
                  | (go_at_call 46; refine (add_ref _ _ _ _ _ _ _ g1 b1 (by omega) (by omega)).mono ?_; rintro e x2 ⟨v2, n2, r2, rfl, b2, s2, m2, y2⟩; have S2 := Lib.hid s2; clear s2; have d2 := d1.trans (y2.mono d1.size); have q2 := Lib.hid (two_next q1.out y2); have p2 := Lib.hid (p1.out.next y2); obtain ⟨A2, e2, rfl⟩ := b2.agg; have pz0 := p2.out.c0; have pz1 := p2.out.c1; have pzf := p2.out.f)
                  | (go_at_call 38; refine (of_c _ _ (by omega) (by omega)).mono ?_; rintro e x1 ⟨v1, n1, r1, rfl, b1, s1, m1, y1⟩; have y1 := below_of_drew y1; have S1 := Lib.hid s1; clear s1; have g1 := g0.out.below y1; have d1 := d0.out.trans (y1.mono d0.out.size); have q1 := Lib.hid (two_next q0.out y1); have p1 := Lib.hid (p0.out.next y1)))
              go_wp2_with fail
              have hcc := (p2.out.cells (u0 := .bool n2) (u1 := .slice A2 r2.length e2))
              have hcc1 := hcc.1
              have hcc2 := hcc.2
              refine bodyPost_ret (v := .agg #[.bool n2, .slice A2 r2.length e2]) (by simp [results, Try.results36, go_sem, hcc1, hcc2]) rfl ⟨_, n2, r2, rfl, b2.set p2.out, ?_, by omega, (d2.setCell (by simp; omega) _).setCell (by simp; omega) _⟩
              rw [S2.out, S1.out]; exact HV.out
        · obtain ⟨lm, hlm⟩ : ∃ lm, ls[m]? = some lm := ⟨_, List.getElem?_eq_getElem (by rw [LN.out.1]; omega)⟩
          obtain ⟨om, hom⟩ : ∃ om, ms[m]? = some om := ⟨_, List.getElem?_eq_getElem (by rw [LN.out.2]; omega)⟩
          obtain ⟨xm, hxm⟩ : ∃ xm, xs[m]? = some xm := ⟨_, List.getElem?_eq_getElem (by rw [hxn.out]; omega)⟩
          obtain ⟨ym, hym⟩ : ∃ ym, ys[m]? = some ym := ⟨_, List.getElem?_eq_getElem (by rw [hyn.out]; omega)⟩
          have rx := hm.r6.2 m xm lm hxm hlm
          have ry := hm.r9.2 m ym om hym hom
          obtain ⟨Am, cm, rfl, hrx⟩ := rx.form hsz
          obtain ⟨Ay, cy, rfl, hry⟩ := ry.form hsz
          obtain ⟨ad6, rfl, hcx⟩ := own_cell hm.o6 hxm
          obtain ⟨ad9, rfl, hcy⟩ := own_cell hm.o9 hym
          have hpl := PL.out m lm hlm
          have hpm := PM.out m om hom
          have HC := Lib.hid (cmpSize_c Am As cm cs wr.heap.size lm s wr hrx hrs hpl.2.1 hv.ds (by have := hpl.2.2.1; omega) (by have := hv.ls; omega))
          have HM := Lib.hid hm
          have HV := Lib.hid hv
          have HPL := Lib.hid hpl
          have HPM := Lib.hid hpm
          have HRX := Lib.hid hrx
          have HRS := Lib.hid hrs
          have hmx : m < xs.length := by rw [hxn.out]; omega
          have hmy : m < ys.length := by rw [hyn.out]; omega
          have hyl : ys.length ≤ 240 := by rw [hyn.out, ← hxn.out]; exact hxs
          have HX := Lib.hid hxm
          have HY := Lib.hid (And.intro hlm (And.intro hom hym))
          clear hm hv hpl hpm hrx hrs hrq hry rx ry hlm hom hxm hym
          by_cases hle : val lm ≤ val s
          · have hq0 : cmpV (val lm) (val s) ≤ 0 := cmpV_nonpos hle
            go_wp2_with fail
            refine HC.out.mono ?_
            rintro e w' ⟨rfl, rfl⟩
            go_wp2_with fail
            refine (put_sub_p As Am cs cm s lm wr HRS.out HRX.out HV.out.ds HPL.out.2.1 (by have := HV.out.ls; omega) (by have := HPL.out.2.2.1; omega) hle).mono ?_
            rintro e w1 ⟨v5, s', rfl, ow5, dg5, vl5, ln5, bl5⟩
            have hcy1 := (bl5.cell (cellLt hcy)).trans hcy
            have hm1 := (HM.out.called bl5).set7 (.inr (ow5.base_le hsz))
            have sz1 := hm1.sz
            have rq1 := Lib.hid (hm1.r8.row sz1)
            have ro1 := Lib.hid ((hm1.r9.2 m _ om HY.out.2.2 HY.out.2.1).row sz1)
            have HM1 := Lib.hid hm1
            have H5 := Lib.hid (And.intro dg5 (And.intro vl5 ln5))
            clear hm1 ow5 dg5 vl5 ln5 bl5 hcx hcy
            go_wp2_with fail
            refine (put_add_p Aq Ay cq cy q om w1 rq1.out ro1.out HV.out.dq HPM.out.2.1 (by have := HV.out.lq; omega) (by have := HPM.out.2.2.1; omega)).mono ?_
            rintro e w2 ⟨v10, q', rfl, ow10, dg10, vl10, ln10, bl10⟩
            have HM2 := Lib.hid ((HM1.out.called bl10).set8 (.inr (ow10.base_le sz1)))
            have H10 := Lib.hid (And.intro dg10 (And.intro vl10 ln10))
            clear ow10 dg10 vl10 ln10 bl10
            go_wp2_with fail
            go_roundw
            case rel => exact ⟨m, s', q', by go_num, by omega, HM2.out, HV.out.yes hD HP.out HPL.out HPM.out hle H5.out.1 H5.out.2.1 H5.out.2.2 H10.out.1 H10.out.2.1 H10.out.2.2⟩
            case measure => simp [intOf]
          · have hq0 : 0 < cmpV (val lm) (val s) := by rw [cmpV_gt (by omega)]; decide
            go_wp2_with fail
            refine HC.out.mono ?_
            rintro e w' ⟨rfl, rfl⟩
            go_wp2_with fail
            go_roundw
            case rel => exact ⟨m, s, q, by go_num, by omega, HM.out, HV.out.no HPL.out.1 (by omega)⟩
            case measure => simp [intOf]
end Go.Proofs.Ytaeondpeaabfeaa
