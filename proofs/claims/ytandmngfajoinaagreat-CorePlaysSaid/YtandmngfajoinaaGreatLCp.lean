/- CorePlays. -/
import Derived.Test.YtandmngfajoinaaGreatCpq
import Derived.Test.YtandmngfajoinaaGreatFra
namespace Go.Proofs.YtandmngfajoinaaGreat.Po
open Go.RowKit Go.Maps

/-- The slice's act k, cell by cell. -/
theorem actr_at {w0 : World} {A : Option Addr} {l : List AC} {k : Nat} (h : ARow w0 A l) (hk : k < l.length) :
    ∃ ad a0 i n g v ex, A = some ad ∧ (∀ w, Below w0.heap.size w0 w → w.cell? (ad.add (k * 6)) = some (.int .i64 a0) ∧ w.cell? ⟨(ad.add (k * 6)).block, (ad.add (k * 6)).off + 1, none⟩ = some (.int .i64 i) ∧ w.cell? ⟨(ad.add (k * 6)).block, (ad.add (k * 6)).off + 2, none⟩ = some (.int .i64 n) ∧ w.cell? ⟨(ad.add (k * 6)).block, (ad.add (k * 6)).off + 3, none⟩ = some (.int .i64 g) ∧ w.cell? ⟨(ad.add (k * 6)).block, (ad.add (k * 6)).off + 4, none⟩ = some (.int .i64 v) ∧ w.cell? ⟨(ad.add (k * 6)).block, (ad.add (k * 6)).off + 5, none⟩ = some (.bool ex)) ∧ wf64 i ∧ wf64 n ∧ wf64 g ∧ wf64 v := by
  obtain ⟨⟨a0, i, n, g, v, ex⟩, hr⟩ : ∃ r, l[k]? = some r := ⟨_, List.getElem?_eq_getElem hk⟩
  obtain ⟨ad, hA, hbl, ⟨c0, c1, c2, c3, c4, c5⟩, hw⟩ := h k _ hr
  refine ⟨ad, a0, i, n, g, v, ex, hA, fun w hb => ?_, hw⟩
  have e : ∀ j v, w0.cell? (ad.add (k * 6 + j)) = some v → w.cell? (ad.add (k * 6 + j)) = some v := fun j v hv => (hb.cell (p := ad.add (k * 6 + j)) (by rw [add_block]; exact hbl)).trans hv
  refine ⟨e 0 _ c0, ?_, ?_, ?_, ?_, ?_⟩
  · rw [add_next]; exact e 1 _ c1
  · rw [add_next]; exact e 2 _ c2
  · rw [add_next]; exact e 3 _ c3
  · rw [add_next]; exact e 4 _ c4
  · rw [add_next]; exact e 5 _ c5
/-- The act, in a box of its own. -/
def ActB (w : World) (b : Nat) (a0 i n g v : Int) (ex : Bool) : Prop := BoxAt w b 33 #[.int .i64 a0, .int .i64 i, .int .i64 n, .int .i64 g, .int .i64 v, .bool ex]
theorem ActB.cells {w : World} {b : Nat} {a0 i n g v : Int} {ex : Bool} (h : ActB w b a0 i n g v ex) : w.cell? ⟨b, 0, none⟩ = some (.int .i64 a0) ∧ w.cell? ⟨b, 1, none⟩ = some (.int .i64 i) ∧ w.cell? ⟨b, 2, none⟩ = some (.int .i64 n) ∧ w.cell? ⟨b, 3, none⟩ = some (.int .i64 g) ∧ w.cell? ⟨b, 4, none⟩ = some (.int .i64 v) ∧ w.cell? ⟨b, 5, none⟩ = some (.bool ex) :=
  ⟨BoxAt.cell h, BoxAt.cell h, BoxAt.cell h, BoxAt.cell h, BoxAt.cell h, BoxAt.cell h⟩

theorem PlS.bd {W w : World} {o p mr k : Nat} {idle age : Int} {F : Nat → Prop} (h : PlS W w o p mr k idle age F) : 0 ≤ idle ∧ idle ≤ 400 ∧ 0 ≤ age ∧ age ≤ 400 := by
  obtain ⟨t, d, b, c, T, C, ⟨vt, Q, ⟨_, _, _, _, _, _, _, h6⟩, _⟩, _, _, _, _, hk⟩ := h
  omega
/-- Both are there, and the act in its box; the core is as old as the law says, behind an answer r. -/
def AtQ (w wx : World) (o p mr k ab : Nat) (idle age : Int) (a0 i n g v : Int) (ex : Bool) : Prop := PlS w wx o p mr k idle age (fun j => j = ab) ∧ ActB wx ab a0 i n g v ex

theorem allT_take {T : List TI} {k : Nat} {x : TI} (h : T[k]? = some x) : allT (T.take (k + 1)) = allT (T.take k) + x.2.1 := by
  rw [List.take_add_one, h]
  show allT (T.take k ++ [x]) = _
  generalize T.take k = U
  induction U with
  | nil => rfl
  | cons y ys ih =>
    show allT (ys ++ [x]) + y.2.1 = allT ys + y.2.1 + x.2.1
    rw [ih]; omega
theorem allT_bd {T : List TI} (h : ∀ x ∈ T, 1 ≤ x.2.1 ∧ x.2.1 ≤ 20) : 0 ≤ allT T ∧ allT T ≤ 20 * (T.length : Int) := by
  induction T with
  | nil => exact ⟨Int.le_refl _, Int.le_refl _⟩
  | cons y ys ih =>
    have h1 := ih (fun x hx => h x (by simp [hx]))
    have h2 := h y (by simp)
    have e : allT (y :: ys) = allT ys + y.2.1 := rfl
    rw [e, List.length_cons]
    omega

/-- The tail of a round: what the calls of its last test give. S: the tag's cell, the ID's. -/
theorem plq_tail {W w : World} {o p mr S N n ab : Nat} {t d b c idle age : Int} {T : List TI} {C : Int → Int} {F : Nat → Prop} {a0 i n2 g v : Int} {ex : Bool} (hq : PC W w o p mr t (b + d) c (shU d T) C idle age S N t b c T C n F) (hwf : WfS b c (cutL T)) (_hF : F ab) (ha : ActB w ab a0 i n2 g v ex) (hi : wf64 i) :
    (w.drew.cell? ⟨p, 0, none⟩ = some (.int .i64 t) ∧ w.drew.cell? ⟨ab, 1, none⟩ = some (.int .i64 i)) ∧
    Hid (Calls Tryz.prog 21 #[.pointer (some ⟨o, 0, none⟩)] w.drew fun e w8 => ∃ A8 c8, e = .returned (.agg #[.int .i64 c, .slice A8 T.length c8]) ∧ (w8.cell? ⟨p, 0, none⟩ = some (.int .i64 t) ∧ w8.cell? ⟨ab, 1, none⟩ = some (.int .i64 i)) ∧
      Hid (Calls Tryz.prog 26 #[.agg #[.int .i64 c, .slice A8 T.length c8]] w8 fun e w9 => ∃ A9 c9, e = .returned (.agg #[.int .i64 c, .slice A9 T.length c9]) ∧ (w9.cell? ⟨p, 0, none⟩ = some (.int .i64 t) ∧ w9.cell? ⟨ab, 1, none⟩ = some (.int .i64 i)) ∧
      Hid (Calls Tryz.prog 24 #[.pointer (some ⟨p, 0, none⟩)] w9 fun e w10 => ∃ A10 c10, e = .returned (.agg #[.int .i64 c, .slice A10 T.length c10]) ∧ (w10.cell? ⟨p, 0, none⟩ = some (.int .i64 t) ∧ w10.cell? ⟨ab, 1, none⟩ = some (.int .i64 i)) ∧
      Hid (Calls Tryz.prog 25 #[.agg #[.int .i64 c, .slice A9 T.length c9], .agg #[.int .i64 c, .slice A10 T.length c10]] w10 fun e w11 => e = .returned (.bool true) ∧ (w11.cell? ⟨p, 0, none⟩ = some (.int .i64 t) ∧ w11.cell? ⟨ab, 1, none⟩ = some (.int .i64 i)) ∧
      Hid (Calls Tryz.prog 27 #[.pointer (some ⟨o, 0, none⟩)] w11 fun e w12 => e = .returned (.int .i64 t) ∧ w11 = w12) ∧
      Hid (Calls Tryz.prog 28 #[.pointer (some ⟨o, 0, none⟩)] w11 fun e w12 => e = .returned (.int .i64 idle) ∧ w11 = w12) ∧
      Hid (Calls Tryz.prog 29 #[.pointer (some ⟨o, 0, none⟩)] w11 fun e w12 => e = .returned (.int .i64 age) ∧ w11 = w12) ∧
      Hid (Calls Tryz.prog 30 #[.pointer (some ⟨o, 0, none⟩)] w11 fun e w15 => e = .returned (.int .i64 (allT T)) ∧ (w15.cell? ⟨p, 0, none⟩ = some (.int .i64 t) ∧ w15.cell? ⟨ab, 1, none⟩ = some (.int .i64 i)) ∧
      Hid (Calls Tryz.prog 31 #[.pointer (some ⟨o, 0, none⟩), .int .i64 i] w15 fun e w16 => e = .returned (.int .i64 (C i)) ∧ w15 = w16) ∧
      ((Instr.lookup 31 (.map (some mr)) (.int .i64 i) false).run Tryz.prog w15 = .ok (.int .i64 (C i)) w15) ∧ Hid (PC W w15 o p mr t (b + d) c (shU d T) C idle age S N t b c T C n (fun _ => False)))))))  := by
  have hfo : formU (b + d) (shU d T) = formU b T := shU_form d b T
  have hln : (shU d T).length = T.length := shU_len d T
  have hl := len_of hwf
  have hcell : ∀ W', Below w.heap.size w W' → W'.cell? ⟨p, 0, none⟩ = some (.int .i64 t) ∧ W'.cell? ⟨ab, 1, none⟩ = some (.int .i64 i) := fun W' hb => by
    obtain ⟨vt, Q, hc, ⟨h2, _⟩, _⟩ := hq
    exact ⟨(h2.below hb).cells.1, (BoxAt.next ha hb (Nat.le_refl _) |> fun h => (ActB.cells (show ActB W' ab a0 i n2 g v ex from h)).2.1)⟩
  have hcore : ∀ W', Below w.heap.size w W' → ∃ G, CIn t W W' o (b + d) c (shU d T) C idle age S N G := fun W' hb => by
    obtain ⟨vt, Q, hc, _⟩ := hq
    exact ⟨_, hc.below hb⟩
  have kd : Below w.heap.size w w.drew := (Below.refl _ w).drew
  refine ⟨hcell _ kd, Lib.hid ?_⟩
  obtain ⟨G, hcd⟩ := hcore _ kd
  have K1 := cform_in hcd
  rw [hfo, hln] at K1
  refine K1.mono ?_
  rintro e w8 ⟨A8, c8, rfl, hT8, hb8⟩
  have k8 : Below w.heap.size w w8 := kd.trans hb8
  refine ⟨A8, c8, rfl, hcell _ k8, Lib.hid ((own_c c A8 T.length c8 (formU b T) w8 (formU_length _ _) (by omega) hT8).mono ?_)⟩
  rintro e w9 ⟨A9, c9, rfl, hT9, hb9⟩
  have k9 : Below w.heap.size w w9 := k8.trans (hb9.mono k8.size)
  rw [formU_length]
  refine ⟨A9, c9, rfl, hcell _ k9, Lib.hid ?_⟩
  obtain ⟨_, _, _, ⟨hi9, hQ⟩, _⟩ := hq.more k9 (G := F) (fun _ h => .inl h)
  rw [hQ] at hi9
  refine (rform_m hi9 hwf).mono ?_
  rintro e w10 ⟨A10, c10, rfl, hT10, hb10⟩
  have k10 : Below w.heap.size w w10 := k9.trans (hb10.mono k9.size)
  rw [formU_length]
  refine ⟨A10, c10, rfl, hcell _ k10, Lib.hid ((rsame_c c A9 A10 T.length c9 c10 (formU b T) w10 (formU_length _ _) (by omega) (hT9.below hb10 (Nat.le_refl _)) hT10).mono ?_)⟩
  rintro e w11 ⟨rfl, hb11⟩
  have k11 : Below w.heap.size w w11 := k10.trans (hb11.mono k10.size)
  obtain ⟨G, hc11⟩ := hcore _ k11
  have KL := cload_in hc11
  rw [(shU_all d T).1] at KL
  refine ⟨rfl, hcell _ k11, Lib.hid (ctag_in hc11), Lib.hid (cidle_in hc11), Lib.hid (cage_in hc11), Lib.hid (KL.mono ?_)⟩
  rintro e w15 ⟨rfl, hb15⟩
  have k15 : Below w.heap.size w w15 := k11.trans (hb15.mono k11.size)
  obtain ⟨G, hc15⟩ := hcore _ k15
  have hp15 := hq.more k15 (G := fun _ => False) (fun _ h => h.elim)
  obtain ⟨_, _, _, _, _, _, _, hm15, _⟩ := id hp15
  exact ⟨rfl, hcell _ k15, Lib.hid (cserved_in i hi hc15), hm15.look hi, Lib.hid hp15⟩

set_option maxRecDepth 100000 in
set_option maxHeartbeats 40000000 in
theorem cplays_c (t : Int) (A1 : Option Addr) (c1 : Nat) (acts : List AC) (w : World) (hr1 : ARow w A1 acts) :
    Calls Tryz.prog 3 #[.int .i64 t, .slice A1 acts.length c1] w fun e w' => e = .returned (.bool true) ∧ Below w.heap.size w w' := by
  have KA := Lib.hid (awake15_c w)
  obtain ⟨m1, hm1⟩ : ∃ m1, acts.length = m1 := ⟨_, rfl⟩
  rw [hm1]
  have HR1 := Lib.hid hr1
  have HN := Lib.hid hm1
  clear hr1 hm1
  have hmm := @run_makeMap Tryz.prog
  go_enter Tryz.func3, Tryz.ntmps3
  go_wp2_with fail
  refine KA.out.mono ?_
  rintro e w1 ⟨rfl, hb⟩
  have KN := Lib.hid (cnew_in t 0 hb (F := fun _ => False) (fun _ h => h.elim))
  have HB1 := Lib.hid hb
  clear hb KA
  by_cases h200 : (200 : Int) < (m1 : Int)
  · go_wp2_with fail
    go_ret
    exact ⟨rfl, HB1.out⟩
  have HM := Lib.hid (show m1 ≤ 200 by omega)
  go_wp2_with fail
  refine KN.out.mono ?_
  intro e w2 h
  unfold CSeedP at h
  by_cases ht : Tag t
  · rw [if_pos ⟨ht, good_none, by decide, by decide⟩] at h
    obtain ⟨o, rfl, hc, -⟩ := h
    have KR := Lib.hid (rnew_c t 0 w2 ht (by decide) (by decide))
    have HT := Lib.hid ht
    have HC := Lib.hid hc
    clear hc KN HB1 ht
    go_wp2_with fail
    refine KR.out.mono ?_
    rintro e w3 ⟨rfl, hw3⟩
    obtain ⟨p, hp⟩ : ∃ p, w2.heap.size = p := ⟨_, rfl⟩
    have hi3 : IsT w3 p t 0 (-1) (.slice none 0 0) [] := by rw [hw3, ← hp]; exact rnew_is t 0
    have hb3 : Below w2.heap.size w2 w3 := by rw [hw3]; exact (Below.refl _ w2).alloc (Nat.le_refl _) _
    have hsz3 : w3.heap.size = p + 1 := by rw [hw3, ← hp]; simp
    rw [hp]
    have HI3 := Lib.hid (And.intro hi3 (And.intro hb3 (And.intro hsz3 hp)))
    clear hw3 hi3 hb3 hsz3 hp KR
    obtain ⟨mr, hmr⟩ : ∃ mr, w3.heap.size = mr := ⟨_, rfl⟩
    obtain ⟨w4, hw4⟩ : ∃ w4, w3.alloc (.map #[] 0) = w4 := ⟨_, rfl⟩
    have HS0 : Hid (PlS w w4 o p mr 0 0 0 (fun _ => False)) := Lib.hid (by
      obtain ⟨hi3, hb3, hsz3, hp⟩ := HI3.out
      have hb4 : Below w3.heap.size w3 w4 := by rw [← hw4]; exact (Below.refl _ w3).alloc (Nat.le_refl _) _
      have hsz4 : w4.heap.size = mr + 1 := by rw [← hw4, ← hmr]; simp
      have hm4 : CMap w4 mr 0 (fun _ => 0) := by rw [← hw4, ← hmr]; exact CMap.new w3
      have hws := HC.out.frame.size
      have hTO : ∀ j, TOf p (.slice none 0 0) j ↔ j = p := fun j => by unfold TOf; simp [Value.ownBlock]
      refine ⟨t, 0, 0, -1, [], fun _ => 0, ⟨.slice none 0 0, [], HC.out.more (hb3.trans (hb4.mono hb3.size)) (fun j hj => ?_), ⟨hi3.below hb4, rfl⟩, fun j hj => ?_, by omega, fun hj => ?_, hm4, fun j hj => hj.elim⟩, (seed_upF good_none (by decide) (by decide)), ?_, (seed_lag (base := 0) good_none).2, HT.out, by omega⟩
      · rcases hj with hj | rfl | hj
        · have := (hTO j).1 hj; exact .inr ⟨by omega, by omega⟩
        · exact .inr ⟨by omega, by omega⟩
        · exact hj.elim
      · have := (hTO j).1 hj; omega
      · have := (hTO mr).1 hj; omega
      · exact seed_upF good_none (by decide) (by decide))
    clear HC HI3
    go_wp2_with fail
    clear hw4 hmr hmm
    go_loopw [7, 10, 11, 12] (fun pv il av iv wr => ∃ (k q : Nat) (idle age : Int), iv = .int .i64 k ∧ pv = .pointer (some ⟨q, 0, none⟩) ∧ il = .int .i64 idle ∧ av = .int .i64 age ∧ k ≤ m1 ∧ Hid (PlS w wr o q mr k idle age (fun _ => False))) (fun _ _ _ iv _ => m1 - (intOf iv).toNat)
    case atStart => exact ⟨0, p, 0, 0, rfl, rfl, rfl, rfl, Nat.zero_le _, HS0⟩
    case round =>
      clear HS0
      obtain ⟨k, q, idle, age, rfl, rfl, rfl, rfl, hk, HQ⟩ := hrel
      by_cases hlt : k < m1
      · have hlt' : (k : Int) < (m1 : Int) := by omega
        have hk200 : k < 200 := by have := HM.out; omega
        obtain ⟨ad, a0, i, n, g, v, ex, rfl, hcl, hwi, hwn, hwg, hwv⟩ := actr_at HR1.out (by rw [HN.out]; exact hlt)
        obtain ⟨y0, y1, y2, y3, y4, y5⟩ := hcl wr HQ.out.frame
        have hb2 : Below wr.heap.size wr (wr.alloc (.cells #[.int .i64 a0, .int .i64 i, .int .i64 n, .int .i64 g, .int .i64 v, .bool ex] 33)) := (Below.refl _ wr).alloc (Nat.le_refl _) _
        have hbx : ActB (wr.alloc (.cells #[.int .i64 a0, .int .i64 i, .int .i64 n, .int .i64 g, .int .i64 v, .bool ex] 33)) wr.heap.size a0 i n g v ex := heap_alloc_new wr _
        obtain ⟨ab, hab⟩ : ∃ ab, wr.heap.size = ab := ⟨_, rfl⟩
        obtain ⟨w6, hw6⟩ : ∃ w6, wr.alloc (.cells #[.int .i64 a0, .int .i64 i, .int .i64 n, .int .i64 g, .int .i64 v, .bool ex] 33) = w6 := ⟨_, rfl⟩
        have hsz6 : w6.heap.size = ab + 1 := by rw [← hw6, ← hab]; simp
        rw [hw6, hab] at hbx
        rw [hw6] at hb2
        have HX : Hid (∀ W' : World, W'.heap[ab]? = w6.heap[ab]? → ActB W' ab a0 i n g v ex) := Lib.hid (fun W' h => h.trans hbx)
        have HQ6 : Hid (PlS w w6 o q mr k idle age (fun j => j = ab)) := Lib.hid (HQ.out.more hb2 (fun j hj => .inr (by omega)))
        have HI := Lib.hid (And.intro hwi (And.intro hwn (And.intro hwg hwv)))
        obtain ⟨b1, b2, b3, b4⟩ := HQ.out.bd
        obtain ⟨x0, x1, x2, x3, x4, x5⟩ := hbx.cells
        clear HQ hb2 hbx hsz6 hwi hwn hwg hwv hcl
        go_upto_block 2 with fail
        -- ROUND
        go_cut [6, 7, 8, 10, 11, 14, 15, 16, 17, 18, 19, 20, 21, 22, 23, 24, 25, 26] from 71 to 255 (fun e1 pv f1 il av _ _ _ _ _ _ _ _ _ _ _ _ _ wx => ∃ (r : Int) (q2 : Nat) (idle2 age2 : Int), e1 = .int .i64 r ∧ pv = .pointer (some ⟨q2, 0, none⟩) ∧ f1 = .int .i64 r ∧ il = .int .i64 idle2 ∧ av = .int .i64 age2 ∧ (age2 - 1 < 500 ∧ -2 < age2) ∧ Hid (AtQ w wx o q2 mr (k + 1) ab idle2 (upI r age2) a0 i n g v ex))
        case first =>
          by_cases ho0 : a0 = 0
          · as_aux_lemma =>
              subst ho0
              have HCE : Hid (∀ W' : World, W'.heap[ab]? = w6.heap[ab]? → W'.cell? ⟨ab, 1, none⟩ = some (.int .i64 i) ∧ W'.cell? ⟨ab, 2, none⟩ = some (.int .i64 n) ∧ W'.cell? ⟨ab, 4, none⟩ = some (.int .i64 v) ∧ W'.cell? ⟨ab, 5, none⟩ = some (.bool ex)) := Lib.hid (fun W' h => ⟨(HX.out W' h).cells.2.1, (HX.out W' h).cells.2.2.1, (HX.out W' h).cells.2.2.2.2.1, (HX.out W' h).cells.2.2.2.2.2⟩)
              have HQD : Hid (PlS w w6.drew o q mr k idle age (fun j => j = ab)) := Lib.hid (HQ6.out.more (Below.refl _ w6).drew (fun j hj => .inl hj))
              obtain ⟨r, K1⟩ := pl_enter (i, n, v) ex HQD.out hk200
              have K1 := Lib.hid K1
              have HS0 := Lib.hid (HCE.out w6.drew rfl)
              clear HQ6 HQD HI x0 x1 x2 x3 x4 x5
              go_wp2_with fail
              go_region_held3 (fun w' => w'.cell? ⟨ab, 1, none⟩ = some (.int .i64 i) ∧ w'.cell? ⟨ab, 2, none⟩ = some (.int .i64 n) ∧ w'.cell? ⟨ab, 4, none⟩ = some (.int .i64 v) ∧ w'.cell? ⟨ab, 5, none⟩ = some (.bool ex)) (first | exact HS0.out | exact HS1.out | exact HS2.out | go_keep)
                (first
                  | (go_at_call 11; refine K1.out.mono ?_; rintro e w7 ⟨rfl, h7, K2⟩; have HS1 := Lib.hid (HCE.out w7 (h7 ab rfl)); clear h7)
                  | (go_at_call 12; refine K2.out.mono ?_; rintro e w8 ⟨rfl, h8, HD⟩; have HS2 := Lib.hid (HCE.out w8 (h8 ab rfl)); have HA := Lib.hid (HX.out w8 (h8 ab rfl)); clear h8))
              have HB : Hid (AtQ w w8 o q mr (k + 1) ab idle (upI r age) 0 i n g v ex) := Lib.hid ⟨HD.out, HA.out⟩
              clear HS0 HS1 HS2 K1 K2 HD HA HCE HX
              go_wp2_with fail
              go_meet
              exact ⟨r, q, idle, age, rfl, rfl, rfl, rfl, rfl, by omega, HB⟩
          by_cases ho1 : a0 = 1
          · as_aux_lemma =>
              subst ho1
              obtain ⟨r0, r, K1⟩ := pl_leave i HI.out.1 HQ6.out hk200
              have K1 := Lib.hid K1
              have HX1 : Hid (∀ W' : World, W'.heap[ab]? = w6.heap[ab]? → W'.cell? ⟨ab, 1, none⟩ = some (.int .i64 i)) := Lib.hid (fun W' h => (HX.out W' h).cells.2.1)
              clear HQ6 HI
              go_wp2_with fail
              refine K1.out.mono ?_
              rintro e w7 ⟨rfl, h7, K2⟩
              have z1 := HX1.out w7 (h7 ab rfl)
              clear K1 h7 x0 x1 x2 x3 x4 x5
              go_wp2_with fail
              refine K2.out.mono ?_
              rintro e w8 ⟨rfl, h8, HD⟩
              have HB : Hid (AtQ w w8 o q mr (k + 1) ab idle (upI r age) 1 i n g v ex) := Lib.hid ⟨HD.out, HX.out w8 (h8 ab rfl)⟩
              clear K2 h8 z1 HD HX HX1
              go_wp2_with fail
              go_meet
              exact ⟨r, q, idle, age, rfl, rfl, rfl, rfl, rfl, by omega, HB⟩
          by_cases ho2 : a0 = 2
          · as_aux_lemma =>
              subst ho2
              have HCE : Hid (∀ W' : World, W'.heap[ab]? = w6.heap[ab]? → W'.cell? ⟨ab, 1, none⟩ = some (.int .i64 i) ∧ W'.cell? ⟨ab, 2, none⟩ = some (.int .i64 n)) := Lib.hid (fun W' h => ⟨(HX.out W' h).cells.2.1, (HX.out W' h).cells.2.2.1⟩)
              have HQD : Hid (PlS w w6.drew o q mr k idle age (fun j => j = ab)) := Lib.hid (HQ6.out.more (Below.refl _ w6).drew (fun j hj => .inl hj))
              obtain ⟨r, K1⟩ := pl_weigh i n HI.out.1 HI.out.2.1 HQD.out hk200
              have K1 := Lib.hid K1
              have HS0 := Lib.hid (HCE.out w6.drew rfl)
              clear HQ6 HQD HI x0 x1 x2 x3 x4 x5
              go_wp2_with fail
              go_region_held3 (fun w' => w'.cell? ⟨ab, 1, none⟩ = some (.int .i64 i) ∧ w'.cell? ⟨ab, 2, none⟩ = some (.int .i64 n)) (first | exact HS0.out | exact HS1.out | exact HS2.out | go_keep)
                (first
                  | (go_at_call 15; refine K1.out.mono ?_; rintro e w7 ⟨rfl, h7, K2⟩; have HS1 := Lib.hid (HCE.out w7 (h7 ab rfl)); clear h7)
                  | (go_at_call 16; refine K2.out.mono ?_; rintro e w8 ⟨rfl, h8, HD⟩; have HS2 := Lib.hid (HCE.out w8 (h8 ab rfl)); have HA := Lib.hid (HX.out w8 (h8 ab rfl)); clear h8))
              have HB : Hid (AtQ w w8 o q mr (k + 1) ab idle (upI r age) 2 i n g v ex) := Lib.hid ⟨HD.out, HA.out⟩
              clear HS0 HS1 HS2 K1 K2 HD HA HCE HX
              go_wp2_with fail
              go_meet
              exact ⟨r, q, idle, age, rfl, rfl, rfl, rfl, rfl, by omega, HB⟩
          by_cases ho3 : a0 = 3
          · as_aux_lemma =>
              subst ho3
              have HRUN := Lib.hid (pl_run HQ6.out hk200)
              clear HQ6 HI x1 x2 x3 x4 x5
              rcases HRUN.out with K1 | ⟨j, hj, K1⟩
              · clear HRUN
                go_wp2_with fail
                refine K1.out.mono ?_
                rintro e w7 ⟨rfl, -, K2⟩
                clear K1 x0
                go_wp2_with fail
                refine K2.out.mono ?_
                rintro e w8 ⟨u, rfl, h8, HD⟩
                have HB : Hid (AtQ w w8 o q mr (k + 1) ab (idle + 1) (upI 0 age) 3 i n g v ex) := Lib.hid ⟨HD.out, HX.out w8 (h8 ab rfl)⟩
                clear K2 h8 HD HX
                go_wp2_with fail
                go_meet
                exact ⟨0, q, idle + 1, age, rfl, rfl, rfl, rfl, rfl, by omega, HB⟩
              · clear HRUN
                go_wp2_with fail
                refine K1.out.mono ?_
                rintro e w7 ⟨rfl, -, K2⟩
                clear K1 x0
                go_wp2_with fail
                refine K2.out.mono ?_
                rintro e w8 ⟨u, rfl, -, K3⟩
                clear K2
                go_wp2_with fail
                refine K3.out.mono ?_
                rintro e w9 ⟨rfl, -, z, w10, hz0, hz1, hlk, hup, h10, HD⟩
                have HB : Hid (AtQ w w10 o q mr (k + 1) ab idle (upI 0 age) 3 i n g v ex) := Lib.hid ⟨HD.out, HX.out w10 (h10 ab rfl)⟩
                clear K3 h10 HD HX
                go_wp2_with fail
                go_meet
                exact ⟨0, q, idle, age, rfl, rfl, rfl, rfl, rfl, by omega, HB⟩
          as_aux_lemma =>
            have e0 : (a0 == 0) = false := by simp [ho0]
            have e1 : (a0 == 1) = false := by simp [ho1]
            have e2 : (a0 == 2) = false := by simp [ho2]
            have e3 : (a0 == 3) = false := by simp [ho3]
            have hw1 : IntKind.i64.wrap (1000 * (k : Int)) = 1000 * (k : Int) := by rw [IntKind.wrap_i64]; omega
            have HX3 : Hid (∀ W' : World, W'.heap[ab]? = w6.heap[ab]? → W'.cell? ⟨ab, 3, none⟩ = some (.int .i64 g)) := Lib.hid (fun W' h => (HX.out W' h).cells.2.2.2.1)
            have HLT : Hid (ab < w6.heap.size) := Lib.hid (HQ6.out.lts ab rfl)
            have HCH := Lib.hid (pl_change g HQ6.out hk200)
            have HS0 := Lib.hid (HX3.out w6.drew rfl)
            clear HQ6 HI ho0 ho1 ho2 ho3 x1 x2 x4 x5
            rcases HCH.out with ⟨c5, n5, K1⟩ | ⟨c5, n5, K1⟩
            · clear HCH
              go_wp2_with fail
              go_region_held3 (fun w' => w'.cell? ⟨ab, 3, none⟩ = some (.int .i64 g)) (first | exact HS0.out | exact HS1.out | exact HS2.out | go_keep)
                (first
                  | (go_at_call 21; refine K1.out.mono ?_; rintro e w7 ⟨A7, c7, rfl, hb7, K2⟩; have HS1 := Lib.hid (HX3.out w7 (hb7.block ab HLT.out)); clear hb7)
                  | (go_at_call 20; refine K2.out.mono ?_; rintro e w8 ⟨s8, rfl, hb8, K3⟩; have HS2 := Lib.hid (HX3.out w8 (hb8.block ab HLT.out)); clear hb8))
              clear HS0 HS1 HS2 K1 K2 x0 x3
              go_wp2_with fail
              refine K3.out.mono ?_
              rintro e w9 ⟨rfl, h9, K4⟩
              have HA9 := Lib.hid (HX.out w9 (h9 ab rfl))
              have HS3 := Lib.hid (show w9.drew.cell? ⟨ab, 3, none⟩ = some (.int .i64 g) from HA9.out.cells.2.2.2.1)
              have HX9 : Hid (∀ W' : World, Below w9.heap.size w9 W' → ActB W' ab a0 i n g v ex) := Lib.hid (fun W' hb => BoxAt.next HA9.out hb (Nat.le_refl _))
              clear K3 h9 HX HX3 HLT
              go_wp2_with fail
              go_region_held3 (fun w' => w'.cell? ⟨ab, 3, none⟩ = some (.int .i64 g)) (first | exact HS3.out | exact HS4.out | exact HS5.out | go_keep)
                (first
                  | (go_at_call 24; refine K4.out.mono ?_; rintro e w10 ⟨A10, c10, rfl, hb10, K5⟩; have HS4 := Lib.hid (HX9.out w10 hb10).cells.2.2.2.1; clear hb10)
                  | (go_at_call 23; refine K5.out.mono ?_; rintro e w11 ⟨p2, rfl, hb11, HD⟩; have HS5 := Lib.hid (HX9.out w11 hb11).cells.2.2.2.1; have HA := Lib.hid (HX9.out w11 hb11); clear hb11))
              have HB : Hid (AtQ w w11 o p2 mr (k + 1) ab idle (upI 0 (age - 1)) a0 i n g v ex) := Lib.hid (by rw [upI_zero, Int.sub_add_cancel]; exact ⟨HD.out, HA.out⟩)
              clear HS3 HS4 HS5 K4 K5 HD HA HA9 HX9
              go_wp2_with fail
              go_meet
              exact ⟨0, p2, idle, age - 1, rfl, rfl, rfl, rfl, rfl, by omega, HB⟩
            · clear HCH
              go_wp2_with fail
              go_region_held3 (fun w' => w'.cell? ⟨ab, 3, none⟩ = some (.int .i64 g)) (first | exact HS0.out | exact HS1.out | exact HS2.out | go_keep)
                (first
                  | (go_at_call 21; refine K1.out.mono ?_; rintro e w7 ⟨A7, c7, rfl, hb7, K2⟩; have HS1 := Lib.hid (HX3.out w7 (hb7.block ab HLT.out)); clear hb7)
                  | (go_at_call 20; refine K2.out.mono ?_; rintro e w8 ⟨rfl, hb8, HD⟩; have HS2 := Lib.hid (HX3.out w8 (hb8.block ab HLT.out)); clear hb8))
              have HE : Hid (PlS w w8 o q mr (k + 1) idle age (fun _ => False)) := Lib.hid (HD.out.more (Below.refl _ w8) (fun _ h => h.elim))
              clear HS0 HS1 HS2 K1 K2 HD HX HX3 HLT x0 x3
              go_wp2_with fail
              go_roundw
              case rel => exact ⟨k + 1, q, idle, age, by go_num, rfl, rfl, rfl, by omega, HE⟩
              case measure => simp [intOf]; omega
        case rest =>
          obtain ⟨r, q2, idle2, age2, rfl, rfl, rfl, rfl, rfl, hag, HB⟩ := hcut
          obtain ⟨b5, b6, b7, b8⟩ := HB.out.1.bd
          clear HQ6 HX x0 x1 x2 x3 x4 x5
          obtain ⟨age3, hage3⟩ : ∃ age3, upI r age2 = age3 := ⟨_, rfl⟩
          rw [hage3] at HB b7 b8
          have HU := Lib.hid hage3
          clear hage3
          go_upto_if 189 with fail
          go_cut [11] from 71 to 255 (fun av wx => av = .int .i64 age3 ∧ Hid (AtQ w wx o q2 mr (k + 1) ab idle2 age3 a0 i n g v ex))
          case first =>
            by_cases hr : r = 0
            · as_aux_lemma =>
                subst hr
                have hu := HU.out
                rw [upI_zero] at hu
                have hw1 : IntKind.i64.wrap (age2 + 1) = age3 := by rw [IntKind.wrap_i64]; omega
                clear hu HU
                go_wp2_with fail
                go_meet
                exact ⟨rfl, HB⟩
            · as_aux_lemma =>
                have hr' : (r == 0) = false := by simp [hr]
                have hu := HU.out
                rw [upI_no age2 hr] at hu
                subst hu
                clear hr HU
                go_wp2_with fail
                go_meet
                exact ⟨rfl, HB⟩
          case rest =>
            obtain ⟨rfl, HB⟩ := hcut
            clear HU
            obtain ⟨t3, d3, bs3, cu3, T, C, hpc, hu1, hu2, hlow, htg, hk3⟩ := HB.out.1
            have hwf : WfS bs3 cu3 (cutL T) := by
              obtain ⟨_, _, hc, _⟩ := hpc
              exact wf_sh hc.wf hu1 (by omega)
            have HWF := Lib.hid hwf
            have HPL : Hid (∀ W' : World, PC w W' o q2 mr t3 (bs3 + d3) cu3 (shU d3 T) C idle2 age3 (4000 + 64 * (k + 1)) (2 * (k + 1)) t3 bs3 cu3 T C (k + 1) (fun _ => False) → PlS w W' o q2 mr (k + 1) idle2 age3 (fun _ => False)) := Lib.hid (fun W' h => ⟨t3, d3, bs3, cu3, T, C, h, hu1, hu2, hlow, htg, hk3⟩)
            have HPC := Lib.hid (And.intro hpc HB.out.2)
            obtain ⟨nT, hnT⟩ : ∃ nT, T.length = nT := ⟨_, rfl⟩
            have HNT := Lib.hid hnT
            have HW20 : Hid (∀ x ∈ T, 1 ≤ x.2.1 ∧ x.2.1 ≤ 20) := Lib.hid (fun x hx => wgt_of hwf hx)
            have hl64 : nT ≤ 64 := by have := len_of hwf; omega
            clear hpc hu1 hu2 hlow htg hk3 hwf HB
            go_wp2_with fail
            go_loopw [27, 28] (fun lv iv wy => ∃ (j : Nat) (z : Int), iv = .int .i64 j ∧ lv = .int .i64 z ∧ j ≤ nT ∧ allT (T.take j) = z ∧ Hid (PC w wy o q2 mr t3 (bs3 + d3) cu3 (shU d3 T) C idle2 age3 (4000 + 64 * (k + 1)) (2 * (k + 1)) t3 bs3 cu3 T C (k + 1) (fun j => j = ab) ∧ ActB wy ab a0 i n g v ex)) (fun _ iv _ => nT - (intOf iv).toNat)
            case atStart => exact ⟨0, 0, rfl, rfl, Nat.zero_le _, rfl, HPC⟩
            case round =>
              clear HPC
              obtain ⟨j, z, rfl, rfl, hj, hz, HP⟩ := hrel
              by_cases hjl : j < nT
              · obtain ⟨x, hx⟩ : ∃ x, T[j]? = some x := ⟨_, List.getElem?_eq_getElem (by rw [HNT.out]; exact hjl)⟩
                obtain ⟨vt, Q, -, ⟨hi, hQ⟩, -⟩ := HP.out.1
                obtain ⟨-, -, -, z3⟩ := hi.cells
                rw [hQ] at hi
                obtain ⟨gb, cp, hv, -, -, -, z1, -, -⟩ := hi.2.1.get hx
                rw [HNT.out] at hv
                rw [hv] at z3
                have hx20 := HW20.out x (List.mem_of_getElem? hx)
                have hzb := allT_bd (T := T.take j) (fun y hy => HW20.out y (List.mem_of_mem_take hy))
                have hlt2 : (T.take j).length ≤ 64 := by rw [List.length_take]; omega
                have HZ : Hid (allT (T.take (j + 1)) = z + x.2.1) := Lib.hid (by rw [allT_take hx, hz])
                have hw1 : IntKind.i64.wrap (z + x.2.1) = z + x.2.1 := by rw [IntKind.wrap_i64]; omega
                have hjl' : (j : Int) < (nT : Int) := by omega
                clear hi hQ hv hx hx20 hzb hlt2 hz hnT
                generalize x.2.1 = xw at *
                go_wp2_with fail
                go_roundw
                case rel => exact ⟨j + 1, z + xw, by go_num, rfl, by omega, HZ.out, HP⟩
                case measure => simp [intOf]; omega
              · obtain rfl : j = nT := by omega
                obtain ⟨vt, Q, -, ⟨hi, hQ⟩, -⟩ := HP.out.1
                obtain ⟨-, -, -, z3⟩ := hi.cells
                rw [hQ] at hi
                obtain ⟨A9, c9, hv⟩ := hi.2.1.form
                rw [HNT.out] at hv
                rw [hv] at z3
                have hjl' : decide ((j : Int) < (j : Int)) = false := by simp
                have hall : T.take j = T := List.take_of_length_le (by rw [HNT.out]; omega)
                rw [hall] at hz
                subst hz
                obtain ⟨hs0, KF⟩ := plq_tail HP.out.1 HWF.out rfl HP.out.2 HI.out.1
                rw [hnT] at KF
                have HS0 := Lib.hid hs0
                clear hi hQ hv hall hs0 hnT HNT HW20 HWF HP
                go_wp2_with fail
                go_region_held3 (fun w' => w'.cell? ⟨q2, 0, none⟩ = some (.int .i64 t3) ∧ w'.cell? ⟨ab, 1, none⟩ = some (.int .i64 i)) (first | exact HS0.out | exact HS1.out | exact HS2.out | exact HS3.out | exact HS4.out | exact HS5.out | go_keep)
                  (first
                    | (go_at_call 21; refine KF.out.mono ?_; rintro e w8 ⟨A8, c8, rfl, hS, KO⟩; have HS1 := Lib.hid hS; clear hS)
                    | (go_at_call 26; refine KO.out.mono ?_; rintro e w9 ⟨A10, c10, rfl, hS, KR⟩; have HS2 := Lib.hid hS; clear hS)
                    | (go_at_call 24; refine KR.out.mono ?_; rintro e w10 ⟨A11, c11, rfl, hS, KS⟩; have HS3 := Lib.hid hS; clear hS)
                    | (go_at_call 25; refine KS.out.mono ?_; rintro e w11 ⟨rfl, hS, KT, KI, KG, KL⟩; have HS4 := Lib.hid hS; clear hS)
                    | (go_at_call 27; refine KT.out.mono ?_; rintro e w12 ⟨rfl, rfl⟩)
                    | (go_at_call 28; refine KI.out.mono ?_; rintro e w12 ⟨rfl, rfl⟩)
                    | (go_at_call 29; refine KG.out.mono ?_; rintro e w12 ⟨rfl, rfl⟩)
                    | (go_at_call 30; refine KL.out.mono ?_; rintro e w15 ⟨rfl, hS, KV, hlk, HE⟩; have HS5 := Lib.hid hS; clear hS)
                    | (go_at_call 31; refine KV.out.mono ?_; rintro e w16 ⟨rfl, rfl⟩))
                all_goals
                  have HD := Lib.hid (HPL.out _ HE.out)
                  clear HPL HE hlk
                  go_wp2_with fail
                  go_roundw
                  case rel => exact ⟨k + 1, q2, idle2, age3, by go_num, rfl, rfl, rfl, by omega, HD⟩
                  case measure => simp [intOf]; omega
        -- ROUNDEND
      · have HB : Hid (Below w.heap.size w wr) := Lib.hid HQ.out.frame
        have hlt' : decide ((k : Int) < (m1 : Int)) = false := by simp; omega
        clear HQ
        go_wp2_with fail
        go_ret
        exact ⟨rfl, HB.out⟩
  · rw [if_neg (fun h => ht h.1)] at h
    obtain ⟨rfl, hb⟩ := h
    have KR := Lib.hid (rnew_bad t 0 w2 ht)
    have HB2 := Lib.hid (HB1.out.trans (hb.mono HB1.out.size))
    clear KN hb
    go_wp2_with fail
    refine KR.out.mono ?_
    rintro e w3 ⟨rfl, rfl⟩
    clear KR
    go_wp2_with fail
    go_ret
    exact ⟨rfl, HB2.out⟩
end Go.Proofs.YtandmngfajoinaaGreat.Po
