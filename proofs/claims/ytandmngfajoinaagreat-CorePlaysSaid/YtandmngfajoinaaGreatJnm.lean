/- Under any policies, however they are changed: nobody gets far; how often each runs. Moved by d, over the tags; sums of weights. -/
import Derived.Test.YtandmngfajoinaaGreatJcd
namespace Go.Proofs.YtandmngfajoinaaGreat.Po
open Go.RowKit

/-- Who is picked is there, and not too far ahead. -/
theorem pick_nearP {t cur base b0 c0 : Int} {T : List TI} (ht : Tag t) (h : Near base T) (hw : WfS b0 c0 (cutL T)) (hd : DayOk T) :
    ∃ x ∈ T, pickPC t cur T = x.1 ∧ x.2.2.1 + stepV x.2.1 ≤ base + 1163962800 := by
  have hne := h.ne
  have hc : cutL T ≠ [] := fun e => hne (cut_nil.1 e)
  obtain ⟨q, hq, h1, h2⟩ := minR_mem (R := cutL T) hc
  obtain ⟨y, hy, rfl⟩ := List.mem_map.1 hq
  have e1 : (cutT y).1 = y.1 := rfl
  have e2 : (cutT y).2.2 = y.2.2.1 := rfl
  have hst := stepV_bd y.2.1
  have h0 := h.at0
  have hleast : ∃ x ∈ T, (minR (cutL T)).2 = x.1 ∧ x.2.2.1 + stepV x.2.1 ≤ base + 1163962800 := ⟨y, hy, h2.symm.trans e1, by omega⟩
  unfold pickPC pickP
  rw [if_neg hne]
  rcases ht with rfl | rfl | rfl
  · rw [if_pos rfl]; exact hleast
  · rw [if_neg (by decide), if_pos rfl]
    unfold Fa.pickC
    rw [if_neg hc]
    by_cases hI : hasI (cutL T) cur = true
    · rw [if_pos hI]
      by_cases hf : (minR (cutL T)).1 < (getI (cutL T) cur).2.2 - 465585120
      · rw [if_pos hf]; exact hleast
      · rw [if_neg hf]
        obtain ⟨hm, hid⟩ := getI_mem hI
        obtain ⟨x, hx, he⟩ := List.mem_map.1 hm
        rw [← he] at hid hf
        have f1 : (cutT x).1 = x.1 := rfl
        have f2 : (cutT x).2.2 = x.2.2.1 := rfl
        have hsx := stepV_bd x.2.1
        exact ⟨x, hx, by omega, by omega⟩
    · rw [if_neg hI]; exact hleast
  · rw [if_neg (by decide), if_neg (by decide)]
    obtain ⟨x, hx, e1, e2, hm, hbest⟩ := pickC_spec hw hne
    unfold pickC at e1
    rw [if_neg hne] at e1
    refine ⟨x, hx, e1, ?_⟩
    have htk : tickV x.2.1 = stepV x.2.1 := rfl
    have hxd := hd x hx
    have hsx := stepV_bd x.2.1
    obtain ⟨z, hz, hzb, hze⟩ := low_mem hne (fun _ => by omega : Low base (cutL T))
    have hmz : mayI T (dayI z) = true := by
      unfold mayI
      rw [decide_eq_true_eq]
      have := sum_least (base := 0) (m := z.2.2.1) (l := T) (fun u hu => ⟨by
        have h1 := minR_le (cut_mem hu)
        have e : (cutT u).2.2 = u.2.2.1 := rfl
        rw [e] at h1
        omega, by have := wgt_of hw hu; omega⟩)
      rw [Int.sub_zero] at this
      exact this
    have h1 := dueB_false.1 (hbest z hz hmz)
    have f1 : (dayI z).2.1 = z.2.2.2 := rfl
    have f2 : (dayI x).2.1 = x.2.2.2 := rfl
    rw [f1, f2] at h1
    have hyd := hd z hz
    have hty := tickV_bd z.2.1
    omega
/-- One more comes. -/
theorem near_enterP {t : Int} {T : List TI} {id n : Int} (ht : Tag t) (h : T = [] ∨ Near 0 T) (hall : ∀ x ∈ T, x.2.2.1 = 0 ∧ x.1 < id) (hid : 0 ≤ id) (hid2 : id ≤ 1073741824) (h1 : 1 ≤ n) (h2 : n ≤ 20) (hl : T.length < 64) :
    entP t 0 T (id, n, 0) = (0, 0, T ++ [newU 0 (id, n, 0)]) ∧ Near 0 (T ++ [newU 0 (id, n, 0)]) ∧ ∀ x ∈ T ++ [newU 0 (id, n, 0)], x.2.2.1 = 0 ∧ x.1 < id + 1 := by
  have hn := near_enter h hall hid hid2 h1 h2 hl
  rw [ent_du] at hn
  have e : entP t 0 T (id, n, 0) = entP 2 0 T (id, n, 0) := by
    unfold entP
    rcases ht with rfl | rfl | rfl <;> rfl
  rw [e]
  exact hn
/-- One tick. -/
theorem near_tickP {t cur base b0 c0 : Int} {T : List TI} (ht : Tag t) (h : Near base T) (hw : WfS b0 c0 (cutL T)) (hd : DayOk T) (hb : base ≤ 1000000000000000) :
    ∃ b' x, x ∈ T ∧ pickPC t cur T = x.1 ∧ 0 ≤ x.1 ∧ chargeU base x.1 T = (x.1, 0, b', updU T x.1 chaT) ∧ Near b' (updU T x.1 chaT) ∧ base ≤ b' ∧ b' ≤ base + 1163962800 := by
  obtain ⟨x, hx, e1, hv⟩ := pick_nearP (cur := cur) ht h hw hd
  have e2 : getU T x.1 = x := getU_of hw.asc hx
  have heach := hw.each _ (cut_mem hx)
  have i1 : (cutT x).1 = x.1 := rfl
  rw [i1] at heach
  have hm1 : x.1 ≠ -1 := by omega
  have hge := h.ge hx
  have hst := stepV_bd x.2.1
  have htk : tickV x.2.1 = stepV x.2.1 := rfl
  obtain ⟨T', hT'⟩ : ∃ T', updU T x.1 chaT = T' := ⟨_, rfl⟩
  have hne : T' ≠ [] := fun e => by
    have := length_updU T x.1 chaT
    rw [hT', e] at this
    simp at this
    exact h.ne (List.eq_nil_of_length_eq_zero (by omega))
  have hall : ∀ z ∈ T', base ≤ z.2.2.1 ∧ z.2.2.1 ≤ base + 1163962800 := fun z hz => by
    rw [← hT'] at hz
    rcases mem_updU hz with ⟨y, hy, he, rfl⟩ | ⟨hz, _⟩
    · obtain rfl := uniqU hw.asc hy hx he
      have e : (chaT y).2.2.1 = y.2.2.1 + tickV y.2.1 := rfl
      rw [e]; omega
    · exact ⟨h.ge hz, h.le z hz⟩
  have hne' : cutL T' ≠ [] := fun e => hne (cut_nil.1 e)
  obtain ⟨r, hr, hr1, _⟩ := minR_mem hne'
  obtain ⟨p, hp, rfl⟩ := List.mem_map.1 hr
  have hpb := hall p hp
  have e3 : (cutT p).2.2 = p.2.2.1 := rfl
  rw [e3] at hr1
  refine ⟨raiseM base (cutL T'), x, hx, e1, heach.1, ?_⟩
  rw [hT']
  refine ⟨?_, ⟨hne, ?_, fun z hz => ?_⟩, raiseM_ge _ _, ?_⟩
  · unfold chargeU
    rw [if_neg hm1, e2, if_neg (by omega), hT']
  · unfold raiseM; rw [if_neg hne']; omega
  · unfold raiseM; rw [if_neg hne']
    have := hall z hz; omega
  · unfold raiseM; rw [if_neg hne']; omega
/-- A new queue of what is owed. -/
theorem near_change {base b : Int} {T : List TI} (h : Near base T) : Near b (seedU b (formU base T)) ∧ (seedU b (formU base T)).map (fun x => (x.1, x.2.1)) = T.map (fun x => (x.1, x.2.1)) := by
  have hmap : seedU b (formU base T) = T.map (fun x => newU b (x.1, x.2.1, base - x.2.2.1)) := by
    unfold seedU formU formL cutL
    rw [List.map_map, List.map_map]
    rfl
  rw [hmap]
  have hpt : ∀ x : TI, (newU b (x.1, x.2.1, base - x.2.2.1)).2.2.1 = b - base + x.2.2.1 := fun x => by show b - (base - x.2.2.1) = _; omega
  refine ⟨⟨fun e => h.ne (by simpa using e), ?_, fun z hz => ?_⟩, by rw [List.map_map]; rfl⟩
  · have hne : cutL (T.map (fun x => newU b (x.1, x.2.1, base - x.2.2.1))) ≠ [] := fun e => h.ne (by simpa using cut_nil.1 e)
    obtain ⟨r, hr, h1, _⟩ := minR_mem hne
    obtain ⟨y, hy, rfl⟩ := List.mem_map.1 hr
    obtain ⟨x, hx, rfl⟩ := List.mem_map.1 hy
    have e1 : (cutT (newU b (x.1, x.2.1, base - x.2.2.1))).2.2 = b - base + x.2.2.1 := hpt x
    have hge := h.ge hx
    obtain ⟨u, hu, hub, hue⟩ := low_mem h.ne (fun _ => by have := h.at0; omega : Low base (cutL T))
    have hm := minR_le (cut_mem (List.mem_map.2 ⟨u, hu, rfl⟩ : newU b (u.1, u.2.1, base - u.2.2.1) ∈ T.map (fun x => newU b (x.1, x.2.1, base - x.2.2.1))))
    have e2 : (cutT (newU b (u.1, u.2.1, base - u.2.2.1))).2.2 = b - base + u.2.2.1 := hpt u
    have h0 := h.at0
    omega
  · obtain ⟨x, hx, rfl⟩ := List.mem_map.1 hz
    have := h.le x hx
    rw [hpt]; omega

/-! How often each ran -/
/-- The points but for d are what c tells of ticks. -/
def Ran (c : Int → Int) (d : Int) (T : List TI) : Prop := ∀ x ∈ T, x.2.2.1 - d = c x.1 * tickV x.2.1
def ranSum (c : Int → Int) : List TI → Int
  | [] => 0
  | x :: l => c x.1 + ranSum c l
def incC (c : Int → Int) (id : Int) : Int → Int := fun i => if i = id then c i + 1 else c i
theorem Ran.tick {c : Int → Int} {d : Int} {T : List TI} (h : Ran c d T) {x : TI} (ha : AscR (cutL T)) (hx : x ∈ T) : Ran (incC c x.1) d (updU T x.1 chaT) := fun z hz => by
  rcases mem_updU hz with ⟨y, hy, he, rfl⟩ | ⟨hz, hn⟩
  · obtain rfl := uniqU ha hy hx he
    have e : (chaT y).2.2.1 = y.2.2.1 + tickV y.2.1 := rfl
    have e1 : (chaT y).1 = y.1 := rfl
    have e2 : (chaT y).2.1 = y.2.1 := rfl
    have := h y hx
    rw [e, e1, e2]
    unfold incC
    rw [if_pos rfl, Int.add_mul, Int.one_mul]
    omega
  · unfold incC
    rw [if_neg hn]
    exact h z hz
theorem Ran.change {c : Int → Int} {d base : Int} {T : List TI} (h : Ran c d T) (b : Int) : Ran c (d + b - base) (seedU b (formU base T)) := fun z hz => by
  have hmap : seedU b (formU base T) = T.map (fun x => newU b (x.1, x.2.1, base - x.2.2.1)) := by
    unfold seedU formU formL cutL
    rw [List.map_map, List.map_map]
    rfl
  rw [hmap] at hz
  obtain ⟨x, hx, rfl⟩ := List.mem_map.1 hz
  have e : (newU b (x.1, x.2.1, base - x.2.2.1)).2.2.1 = b - (base - x.2.2.1) := rfl
  have e1 : (newU b (x.1, x.2.1, base - x.2.2.1)).1 = x.1 := rfl
  have e2 : (newU b (x.1, x.2.1, base - x.2.2.1)).2.1 = x.2.1 := rfl
  rw [e, e1, e2, ← h x hx]
  omega
theorem ranSum_of {c : Int → Int} : ∀ {T U : List TI}, T.map (fun x => (x.1, x.2.1)) = U.map (fun x => (x.1, x.2.1)) → ranSum c T = ranSum c U
  | [], [], _ => rfl
  | [], _ :: _, h => by simp at h
  | _ :: _, [], h => by simp at h
  | x :: T, y :: U, h => by
    simp only [List.map_cons, List.cons.injEq, Prod.mk.injEq] at h
    show c x.1 + ranSum c T = c y.1 + ranSum c U
    rw [h.1.1, ranSum_of h.2]
theorem allT_of : ∀ {T U : List TI}, T.map (fun x => (x.1, x.2.1)) = U.map (fun x => (x.1, x.2.1)) → allT T = allT U
  | [], [], _ => rfl
  | [], _ :: _, h => by simp at h
  | _ :: _, [], h => by simp at h
  | x :: T, y :: U, h => by
    simp only [List.map_cons, List.cons.injEq, Prod.mk.injEq] at h
    have := allT_of h.2
    show allT T + x.2.1 = allT U + y.2.1
    rw [h.1.2, this]
theorem upd_ids (T : List TI) (id : Int) : (updU T id chaT).map (fun x => (x.1, x.2.1)) = T.map (fun x => (x.1, x.2.1)) := by
  unfold updU
  rw [List.map_map]
  refine List.map_congr_left (fun x _ => ?_)
  simp only [Function.comp]
  by_cases hx : x.1 = id
  · rw [if_pos hx]; rfl
  · rw [if_neg hx]
theorem ranSum_no {c : Int → Int} {id : Int} : ∀ {T : List TI}, (∀ x ∈ T, x.1 ≠ id) → ranSum (incC c id) T = ranSum c T
  | [], _ => rfl
  | x :: T, h => by
    show incC c id x.1 + ranSum (incC c id) T = c x.1 + ranSum c T
    rw [ranSum_no (fun y hy => h y (by simp [hy]))]
    unfold incC
    rw [if_neg (h x (by simp))]
theorem ranSum_inc {c : Int → Int} {id : Int} : ∀ {T : List TI}, AscR (cutL T) → (∃ x ∈ T, x.1 = id) → ranSum (incC c id) T = ranSum c T + 1
  | [], _, h => by obtain ⟨x, hx, _⟩ := h; simp at hx
  | x :: T, ha, h => by
    have ha' : AscR (cutT x :: cutL T) := ha
    obtain ⟨h1, h2⟩ := List.pairwise_cons.1 ha'
    show incC c id x.1 + ranSum (incC c id) T = c x.1 + ranSum c T + 1
    by_cases hx : x.1 = id
    · rw [ranSum_no (fun y hy => by
        have := h1 _ (cut_mem hy)
        have e1 : (cutT y).1 = y.1 := rfl
        have e2 : (cutT x).1 = x.1 := rfl
        omega)]
      unfold incC
      rw [if_pos hx]; omega
    · have hT : ∃ y ∈ T, y.1 = id := by
        obtain ⟨y, hy, he⟩ := h
        rcases List.mem_cons.1 hy with rfl | hy
        · exact absurd he hx
        · exact ⟨y, hy, he⟩
      rw [ranSum_inc h2 hT]
      unfold incC
      rw [if_neg hx]; omega
/-- A tick of each weight is its part of a Scale. -/
theorem tick_mul {n : Int} (h1 : 1 ≤ n) (h2 : n ≤ 20) : tickV n * n = 232792560 := by
  obtain ⟨k, rfl⟩ : ∃ k : Nat, n = (k : Int) := ⟨n.toNat, by omega⟩
  have hk : k ≤ 20 := by omega
  have hk1 : 1 ≤ k := by omega
  clear h1 h2
  rcases k with _ | _ | _ | _ | _ | _ | _ | _ | _ | _ | _ | _ | _ | _ | _ | _ | _ | _ | _ | _ | _ | k
  · omega
  all_goals first | rfl | omega
/-- Two of which neither is five Scales ahead: their ticks. -/
theorem pair_near {a b p q x y : Int} (hx1 : 1 ≤ x) (hx2 : x ≤ 20) (hy1 : 1 ≤ y) (hy2 : y ≤ 20) (hp : p = a * tickV x) (hq : q = b * tickV y) (h1 : p - q ≤ 1163962800) (h2 : q - p ≤ 1163962800) :
    a * y - b * x ≤ 5 * (x * y) ∧ b * x - a * y ≤ 5 * (x * y) := by
  have ex := tick_mul hx1 hx2
  have ey := tick_mul hy1 hy2
  have hxy : 0 ≤ x * y := Int.mul_nonneg (by omega) (by omega)
  have k1 : p * (x * y) = 232792560 * (a * y) := by
    subst hp
    calc a * tickV x * (x * y) = (tickV x * x) * (a * y) := by ac_rfl
      _ = _ := by rw [ex]
  have k2 : q * (x * y) = 232792560 * (b * x) := by
    subst hq
    calc b * tickV y * (x * y) = (tickV y * y) * (b * x) := by ac_rfl
      _ = _ := by rw [ey]
  have m1 := Int.mul_le_mul_of_nonneg_right h1 hxy
  have m2 := Int.mul_le_mul_of_nonneg_right h2 hxy
  rw [Int.sub_mul, k1, k2] at m1
  rw [Int.sub_mul, k1, k2] at m2
  generalize a * y = u at *
  generalize b * x = v at *
  generalize x * y = z at *
  omega
theorem all_near {c : Int → Int} {a x : Int} : ∀ {T : List TI}, (∀ y ∈ T, a * y.2.1 - c y.1 * x ≤ 5 * (x * y.2.1) ∧ c y.1 * x - a * y.2.1 ≤ 5 * (x * y.2.1)) →
    a * allT T - ranSum c T * x ≤ 5 * (x * allT T) ∧ ranSum c T * x - a * allT T ≤ 5 * (x * allT T)
  | [], _ => by
    have e1 : allT [] = 0 := rfl
    have e2 : ranSum c [] = 0 := rfl
    rw [e1, e2]; simp
  | y :: T, h => by
    have h1 := h y (by simp)
    have h2 := all_near (c := c) (a := a) (x := x) (T := T) (fun z hz => h z (by simp [hz]))
    have e1 : allT (y :: T) = y.2.1 + allT T := Int.add_comm _ _
    have e2 : ranSum c (y :: T) = c y.1 + ranSum c T := rfl
    rw [e1, e2, Int.mul_add, Int.add_mul, Int.mul_add, Int.mul_add]
    generalize a * y.2.1 = u1 at *
    generalize c y.1 * x = u2 at *
    generalize x * y.2.1 = u3 at *
    generalize a * allT T = u4 at *
    generalize ranSum c T * x = u5 at *
    generalize x * allT T = u6 at *
    omega
/-- Each ran its share, but for five ticks for each of its weight. -/
theorem share_near {c : Int → Int} {d base b0 c0 : Int} {T : List TI} (h : Near base T) (hw : WfS b0 c0 (cutL T)) (hr : Ran c d T) {x : TI} (hx : x ∈ T) :
    c x.1 * allT T - ranSum c T * x.2.1 ≤ 5 * (x.2.1 * allT T) ∧ ranSum c T * x.2.1 - c x.1 * allT T ≤ 5 * (x.2.1 * allT T) := by
  refine all_near (fun y hy => ?_)
  have w1 := wgt_of hw hx
  have w2 := wgt_of hw hy
  have g1 := h.ge hx
  have g2 := h.ge hy
  have l1 := h.le x hx
  have l2 := h.le y hy
  have r1 := hr x hx
  have r2 := hr y hy
  exact pair_near w1.1 w1.2 w2.1 w2.2 r1 r2 (by omega) (by omega)
end Go.Proofs.YtandmngfajoinaaGreat.Po

namespace Go.Proofs.YtandmngfajoinaaGreat.Po
open Go.RowKit

/-! Moved by d -/
def mvI (d : Int) (r : RI) : RI := (r.1, r.2.1, r.2.2 + d)
def shR (d : Int) (R : List RI) : List RI := R.map (mvI d)
theorem sh_nil {d : Int} {R : List RI} : shR d R = [] ↔ R = [] := by unfold shR; simp
theorem sh_has (d : Int) (R : List RI) (id : Int) : hasI (shR d R) id = hasI R id := has_map (f := mvI d) (fun _ => rfl) id
theorem sh_len (d : Int) (R : List RI) : (shR d R).length = R.length := by unfold shR; simp
theorem sh_asc {d : Int} {R : List RI} (h : AscR R) : AscR (shR d R) := asc_map (f := mvI d) h (fun _ => rfl)
theorem sh_get {d : Int} {R : List RI} (h : AscR R) {id : Int} (hi : hasI R id = true) : getI (shR d R) id = mvI d (getI R id) := by
  obtain ⟨h1, h2⟩ := getI_mem hi
  have hm : mvI d (getI R id) ∈ shR d R := by unfold shR; exact List.mem_map.2 ⟨_, h1, rfl⟩
  have := getI_of (sh_asc h) hm
  rw [show (mvI d (getI R id)).1 = id from h2] at this
  exact this
theorem sh_ins (d : Int) (R : List RI) (x : RI) : insR (shR d R) (mvI d x) = shR d (insR R x) := by
  induction R with
  | nil => rfl
  | cons y ys ih =>
    show insR (mvI d y :: shR d ys) (mvI d x) = shR d (insR (y :: ys) x)
    unfold insR
    by_cases h : y.1 < x.1
    · rw [if_pos (show (mvI d y).1 < (mvI d x).1 from h), if_pos h, ih]; rfl
    · rw [if_neg (show ¬ (mvI d y).1 < (mvI d x).1 from h), if_neg h]; rfl
theorem sh_del (d : Int) (R : List RI) (id : Int) : delI (shR d R) id = shR d (delI R id) := by
  unfold delI shR
  rw [List.filter_map]
  rfl
theorem sh_wgt (d : Int) (R : List RI) (id n : Int) : wgtI (shR d R) id n = shR d (wgtI R id n) := by
  unfold wgtI shR
  rw [List.map_map, List.map_map]
  refine List.map_congr_left (fun r _ => ?_)
  simp only [Function.comp, mvI]
  by_cases h : r.1 = id <;> simp [h]
theorem sh_chg (d : Int) (R : List RI) (id v : Int) : chgI (shR d R) id (v + d) = shR d (chgI R id v) := by
  unfold chgI shR
  rw [List.map_map, List.map_map]
  refine List.map_congr_left (fun r _ => ?_)
  simp only [Function.comp, mvI]
  by_cases h : r.1 = id <;> simp [h]
theorem sh_min {d : Int} {R : List RI} (h : R ≠ []) : minR (shR d R) = ((minR R).1 + d, (minR R).2) := by
  obtain ⟨q, hq, h1, h2⟩ := minR_mem h
  refine minR_eq ⟨mvI d q, by unfold shR; exact List.mem_map.2 ⟨q, hq, rfl⟩, by show q.2.2 + d = _; rw [h1], h2⟩ (fun r hr => ?_)
  unfold shR at hr
  obtain ⟨z, hz, rfl⟩ := List.mem_map.1 hr
  have := minR_le hz
  show (minR R).1 + d < z.2.2 + d ∨ ((minR R).1 + d = z.2.2 + d ∧ (minR R).2 ≤ z.1)
  omega
theorem sh_raise (d base : Int) (R : List RI) : raiseM (base + d) (shR d R) = raiseM base R + d := by
  unfold raiseM
  by_cases h : R = []
  · rw [if_pos h, if_pos (sh_nil.2 h)]
  · rw [if_neg h, if_neg (fun e => h (sh_nil.1 e)), sh_min h]
    simp only
    omega
theorem sh_form (d base : Int) (R : List RI) : formL (base + d) (shR d R) = formL base R := by
  unfold formL shR
  rw [List.map_map]
  refine List.map_congr_left (fun r _ => ?_)
  simp only [Function.comp, mvI]
  congr 2
  omega
theorem sh_add (d base : Int) (R : List RI) (x : RI) : addM (base + d) (shR d R) x = ((addM base R x).1, shR d (addM base R x).2) := by
  unfold addM
  rw [sh_has, sh_len]
  split
  · rfl
  · split
    · rfl
    · have e : ((x.1, x.2.1, base + d - x.2.2) : RI) = mvI d (x.1, x.2.1, base - x.2.2) := by unfold mvI; simp only; congr 2; omega
      rw [e, sh_ins]
theorem sh_put (d base : Int) (R : List RI) (x : RI) : putM (base + d) (shR d R) x = ((putM base R x).1, (putM base R x).2.1 + d, shR d (putM base R x).2.2) := by
  unfold putM
  rw [sh_add]
  split
  · simp only
    split
    · rw [sh_raise]
    · rfl
  · rfl
def mvT (d : Int) (x : TI) : TI := (x.1, x.2.1, x.2.2.1 + d, x.2.2.2 + d)
def shU (d : Int) (T : List TI) : List TI := T.map (mvT d)
theorem shU_cut (d : Int) (T : List TI) : cutL (shU d T) = shR d (cutL T) := by
  unfold cutL shU shR
  rw [List.map_map, List.map_map]
  rfl
theorem shU_nil {d : Int} {T : List TI} : shU d T = [] ↔ T = [] := by unfold shU; simp
theorem shU_len (d : Int) (T : List TI) : (shU d T).length = T.length := by unfold shU; simp
theorem shU_mem {d : Int} {T : List TI} {x : TI} (h : x ∈ T) : mvT d x ∈ shU d T := List.mem_map.2 ⟨x, h, rfl⟩
theorem shU_asc {d : Int} {T : List TI} (h : AscR (cutL T)) : AscR (cutL (shU d T)) := by rw [shU_cut]; exact sh_asc h
theorem shU_get {d : Int} {T : List TI} (h : AscR (cutL T)) {id : Int} (hi : hasI (cutL T) id = true) : getU (shU d T) id = mvT d (getU T id) := by
  obtain ⟨h1, h2⟩ := getU_mem hi
  have := getU_of (shU_asc (d := d) h) (shU_mem (d := d) h1)
  rwa [show (mvT d (getU T id)).1 = id from h2] at this
theorem shU_ins (d : Int) (T : List TI) (x : TI) : insTT (shU d T) (mvT d x) = shU d (insTT T x) := by
  induction T with
  | nil => rfl
  | cons y ys ih =>
    show insTT (mvT d y :: shU d ys) (mvT d x) = shU d (insTT (y :: ys) x)
    unfold insTT
    by_cases h : y.1 < x.1
    · rw [if_pos (show (mvT d y).1 < (mvT d x).1 from h), if_pos h, ih]; rfl
    · rw [if_neg (show ¬ (mvT d y).1 < (mvT d x).1 from h), if_neg h]; rfl
theorem shU_del (d : Int) (T : List TI) (id : Int) : delU (shU d T) id = shU d (delU T id) := by
  unfold delU shU
  rw [List.filter_map]
  rfl
theorem shU_upd (d : Int) (T : List TI) (id : Int) {f : TI → TI} (hf : ∀ x, f (mvT d x) = mvT d (f x)) : updU (shU d T) id f = shU d (updU T id f) := by
  unfold updU shU
  rw [List.map_map, List.map_map]
  refine List.map_congr_left (fun x _ => ?_)
  simp only [Function.comp]
  by_cases h : x.1 = id
  · rw [if_pos h, if_pos (show (mvT d x).1 = id from h), hf]
  · rw [if_neg h, if_neg (show ¬ (mvT d x).1 = id from h)]
theorem wei_mv (d n : Int) (x : TI) : weiT n (mvT d x) = mvT d (weiT n x) := by
  unfold weiT mvT
  simp only
  congr 3
  omega
theorem cha_mv (d : Int) (x : TI) : chaT (mvT d x) = mvT d (chaT x) := by
  unfold chaT mvT
  simp only
  congr 2
  refine Prod.ext (by simp only; omega) ?_
  simp only
  by_cases h : x.2.2.2 ≤ x.2.2.1 + tickV x.2.1
  · rw [if_pos h, if_pos (by omega)]; omega
  · rw [if_neg h, if_neg (by omega)]
theorem new_mv (d base : Int) (x : RI) : newU (base + d) x = mvT d (newU base x) := by
  unfold newU mvT
  simp only
  congr 2
  refine Prod.ext (by simp only; omega) (by simp only; omega)
theorem shU_raise (d base : Int) (T : List TI) : raiseM (base + d) (cutL (shU d T)) = raiseM base (cutL T) + d := by rw [shU_cut, sh_raise]
theorem shU_form (d base : Int) (T : List TI) : formU (base + d) (shU d T) = formU base T := by unfold formU; rw [shU_cut, sh_form]
theorem shU_has (d : Int) (T : List TI) (id : Int) : hasI (cutL (shU d T)) id = hasI (cutL T) id := by rw [shU_cut, sh_has]
theorem shU_put (d base : Int) (T : List TI) (x : RI) : putU (base + d) (shU d T) x = ((putU base T x).1, (putU base T x).2.1 + d, shU d (putU base T x).2.2) := by
  unfold putU
  rw [shU_has, shU_len, new_mv, shU_ins, shU_raise]
  split
  · split
    · rfl
    · split <;> rfl
  · rfl
theorem shU_enter (d base : Int) (T : List TI) (x : RI) : enterU (base + d) (shU d T) x = ((enterU base T x).1, (enterU base T x).2.1 + d, shU d (enterU base T x).2.2) := by
  unfold enterU
  split
  · exact shU_put d base T _
  · rfl
theorem shU_leave {d base cur : Int} {T : List TI} (h : AscR (cutL T)) (id : Int) : leaveU (base + d) cur (shU d T) id = ((leaveU base cur T id).1, (leaveU base cur T id).2.1, (leaveU base cur T id).2.2.1 + d, (leaveU base cur T id).2.2.2.1, shU d (leaveU base cur T id).2.2.2.2) := by
  unfold leaveU
  rw [shU_has, shU_del, shU_raise]
  split
  · rename_i hi
    rw [shU_get h hi]
    have e : base + d - (mvT d (getU T id)).2.2.1 = base - (getU T id).2.2.1 := by show base + d - ((getU T id).2.2.1 + d) = _; omega
    rw [e]
  · rfl
theorem shU_weigh (d : Int) (T : List TI) (id n : Int) : weighU (shU d T) id n = ((weighU T id n).1, shU d (weighU T id n).2) := by
  unfold weighU
  rw [shU_has, shU_upd d T id (wei_mv d n)]
  split
  · split <;> rfl
  · rfl
theorem shU_charge {d base cur : Int} {T : List TI} {k : Nat} (hw : WfS base cur (cutL T)) (h1 : Up base (cutL T) k) (h2 : Up (base + d) (cutL (shU d T)) k) (hk : k ≤ 900) :
    chargeU (base + d) cur (shU d T) = ((chargeU base cur T).1, (chargeU base cur T).2.1, (chargeU base cur T).2.2.1 + d, shU d (chargeU base cur T).2.2.2) := by
  unfold chargeU
  split
  · rfl
  · rename_i hc
    have hI : hasI (cutL T) cur = true := by rcases hw.cur with h1 | h1; exact absurd h1 hc; exact h1
    rw [shU_get hw.asc hI]
    have hm := (getU_mem hI).1
    have e1 := h1.each _ (cut_mem hm)
    have e2 := h2.each _ (cut_mem (shU_mem (d := d) hm))
    have hst := stepV_bd (getU T cur).2.1
    have i1 : (cutT (getU T cur)).2.2 = (getU T cur).2.2.1 := rfl
    have i2 : (cutT (mvT d (getU T cur))).2.2 = (getU T cur).2.2.1 + d := rfl
    have i3 : (mvT d (getU T cur)).2.1 = (getU T cur).2.1 := rfl
    have i4 : (mvT d (getU T cur)).2.2.1 = (getU T cur).2.2.1 + d := rfl
    rw [i1] at e1
    rw [i2] at e2
    rw [i3, i4, if_neg (by omega), if_neg (by omega), shU_upd d T cur (cha_mv d), shU_raise]
theorem shU_all (d : Int) (T : List TI) : allT (shU d T) = allT T ∧ sumT 0 (shU d T) = sumT 0 T + d * allT T := by
  induction T with
  | nil => simp [shU, allT, sumT]
  | cons x xs ih =>
    have e1 : allT (shU d (x :: xs)) = allT (shU d xs) + x.2.1 := rfl
    have e2 : sumT 0 (shU d (x :: xs)) = sumT 0 (shU d xs) + (x.2.2.1 + d - 0) * x.2.1 := rfl
    have e3 : allT (x :: xs) = allT xs + x.2.1 := rfl
    have e4 : sumT 0 (x :: xs) = sumT 0 xs + (x.2.2.1 - 0) * x.2.1 := rfl
    rw [e1, e2, e3, e4, ih.1, ih.2, Int.sub_zero, Int.sub_zero, Int.add_mul, Int.mul_add]
    refine ⟨rfl, ?_⟩
    omega
theorem shU_may (d : Int) (T : List TI) (x : TI) : mayI (shU d T) (dayI (mvT d x)) = mayI T (dayI x) := by
  unfold mayI
  rw [(shU_all d T).1, (shU_all d T).2]
  have e1 : (dayI (mvT d x)).1 = x.2.2.1 + d := rfl
  have e2 : (dayI x).1 = x.2.2.1 := rfl
  rw [e1, e2, Int.add_mul, Bool.eq_iff_iff, decide_eq_true_eq, decide_eq_true_eq]
  omega
theorem shU_pick {b0 c0 : Int} (d : Int) {T : List TI} (hw : WfS b0 c0 (cutL T)) : pickC (shU d T) = pickC T := by
  by_cases hT : T = []
  · subst hT; rfl
  · obtain ⟨x, hx, e1, e2, hm, hb⟩ := pickC_spec hw hT
    have hp := pick_best (shU_asc (d := d) hw.asc) (shU_mem (d := d) hx) (by rw [shU_may]; exact hm) (fun y hy hm' => by
      obtain ⟨z, hz, rfl⟩ := List.mem_map.1 hy
      rw [shU_may] at hm'
      have h1 := dueB_false.1 (hb z hz hm')
      refine dueB_false.2 ?_
      have f1 : (dayI (mvT d x)).2.1 = (dayI x).2.1 + d := rfl
      have f2 : (dayI (mvT d z)).2.1 = (dayI z).2.1 + d := rfl
      have f3 : (dayI (mvT d x)).2.2 = (dayI x).2.2 := rfl
      have f4 : (dayI (mvT d z)).2.2 = (dayI z).2.2 := rfl
      rw [f1, f2, f3, f4]
      omega)
    rw [e1]
    unfold pickC pickU
    rw [if_neg (fun e => hT (shU_nil.1 e)), hp]
    rfl
theorem shU_pickV {b0 c0 : Int} (d : Int) {T : List TI} (hw : WfS b0 c0 (cutL T)) : pickV (shU d T) = pickV T := by
  have h := shU_pick d hw
  unfold pickC at h
  unfold pickV
  by_cases hT : T = []
  · rw [if_pos hT, if_pos (shU_nil.2 hT)]
  · rw [if_neg hT, if_neg (fun e => hT (shU_nil.1 e))] at h ⊢
    exact h
theorem shU_pickB (d : Int) (T : List TI) : pickB (shU d T) = pickB T := by
  unfold pickB
  by_cases h : T = []
  · rw [decide_eq_true h, decide_eq_true (shU_nil.2 h)]
  · rw [decide_eq_false h, decide_eq_false (fun e => h (shU_nil.1 e))]
theorem shU_seed (a b : Int) (l : List RI) : seedU b l = shU (b - a) (seedU a l) := by
  unfold seedU shU
  rw [List.map_map]
  refine List.map_congr_left (fun r _ => ?_)
  simp only [Function.comp]
  rw [← new_mv]
  congr 1
  omega
/-! By the tag -/
theorem sh_entP (t d base : Int) (T : List TI) (x : RI) : entP t (base + d) (shU d T) x = ((entP t base T x).1, (entP t base T x).2.1 + d, shU d (entP t base T x).2.2) := by
  rw [ent_put, ent_put]
  split
  · exact shU_put d base T _
  · rfl
theorem sh_pickP {t cur b0 c0 : Int} (ht : Tag t) (d : Int) {T : List TI} (hw : WfS b0 c0 (cutL T)) : pickPC t cur (shU d T) = pickPC t cur T := by
  by_cases hT : T = []
  · subst hT; rfl
  · have hc : cutL T ≠ [] := fun e => hT (cut_nil.1 e)
    unfold pickPC
    rw [if_neg hT, if_neg (fun e => hT (shU_nil.1 e))]
    unfold pickP
    rcases ht with rfl | rfl | rfl
    · rw [if_pos rfl, if_pos rfl, shU_cut, sh_min hc]
    · rw [if_neg (by decide), if_pos rfl, if_neg (by decide), if_pos rfl, shU_cut]
      unfold Fa.pickC
      rw [if_neg hc, if_neg (fun e => hc (sh_nil.1 e)), sh_has, sh_min hc]
      by_cases hI : hasI (cutL T) cur = true
      · rw [if_pos hI, if_pos hI, sh_get hw.asc hI]
        have e : (mvI d (getI (cutL T) cur)).2.2 = (getI (cutL T) cur).2.2 + d := rfl
        rw [e]
        by_cases hf : (minR (cutL T)).1 < (getI (cutL T) cur).2.2 - 465585120
        · rw [if_pos hf, if_pos (by show (minR (cutL T)).1 + d < _; omega)]
        · rw [if_neg hf, if_neg (by show ¬ ((minR (cutL T)).1 + d < _); omega)]
      · rw [if_neg hI, if_neg hI]
    · rw [if_neg (by decide), if_neg (by decide), if_neg (by decide), if_neg (by decide)]
      have h := shU_pick d hw
      unfold pickC at h
      rw [if_neg hT, if_neg (fun e => hT (shU_nil.1 e))] at h
      exact h

/-! Sums of weights -/
theorem allT_ins (T : List TI) (x : TI) : allT (insTT T x) = allT T + x.2.1 := by
  induction T with
  | nil => rfl
  | cons y ys ih =>
    unfold insTT
    split
    · show allT (insTT ys x) + y.2.1 = allT ys + y.2.1 + x.2.1
      rw [ih]; omega
    · rfl
theorem delU_no {T : List TI} {id : Int} (h : ∀ x ∈ T, x.1 ≠ id) : delU T id = T := by
  unfold delU
  rw [List.filter_eq_self]
  intro x hx
  simp [h x hx]
theorem allT_del : ∀ {T : List TI}, AscR (cutL T) → ∀ {x : TI}, x ∈ T → allT (delU T x.1) = allT T - x.2.1
  | [], _, x, h => by simp at h
  | y :: T, ha, x, h => by
    have ha' : AscR (cutT y :: cutL T) := ha
    obtain ⟨h1, h2⟩ := List.pairwise_cons.1 ha'
    rcases List.mem_cons.1 h with rfl | h
    · have hn : ∀ z ∈ T, z.1 ≠ x.1 := fun z hz => by
        have := h1 _ (cut_mem hz)
        have e1 : (cutT z).1 = z.1 := rfl
        have e2 : (cutT x).1 = x.1 := rfl
        omega
      have e : delU (x :: T) x.1 = delU T x.1 := by unfold delU; rw [List.filter_cons, if_neg (by simp)]
      rw [e, delU_no hn]
      show _ = allT T + x.2.1 - x.2.1
      omega
    · have hn : y.1 ≠ x.1 := by
        have := h1 _ (cut_mem h)
        have e1 : (cutT x).1 = x.1 := rfl
        have e2 : (cutT y).1 = y.1 := rfl
        omega
      have e : delU (y :: T) x.1 = y :: delU T x.1 := by unfold delU; rw [List.filter_cons, if_pos (by simp [hn])]
      rw [e]
      show allT (delU T x.1) + y.2.1 = allT T + y.2.1 - x.2.1
      rw [allT_del h2 h]; omega
theorem allT_cha (T : List TI) (id : Int) : allT (updU T id chaT) = allT T := allT_of (upd_ids T id)
theorem allT_form (base : Int) (T : List TI) : allW (formU base T) = allT T := by
  have h : ∀ R : List RI, allW (formL base R) = allW R := fun R => by
    induction R with
    | nil => rfl
    | cons r R ih =>
      show r.2.1 + allW (formL base R) = r.2.1 + allW R
      rw [ih]
  unfold formU
  rw [h]
  exact (sumW_cut T).2
end Go.Proofs.YtandmngfajoinaaGreat.Po
