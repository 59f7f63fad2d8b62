/- Under any policies, however they are changed: nobody gets far; how often each runs. -/
import Derived.Test.YtandmngfajoinaaGreatJcd
namespace Go.Proofs.YtandmngfajoinaaGreat.Po
open Go.RowKit

/-- Who is picked is there, and not too far ahead. -/
theorem pick_nearP {t cur base b0 c0 : Int} {T : List TI} (ht : Tag t) (h : Near base T) (hw : WfS b0 c0 (cutL T)) (hd : DayOk T) :
    ∃ x ∈ T, pickPC t cur T = x.1 ∧ x.2.2.1 + stepV x.2.1 ≤ base + 1163962800 := by
  have hne := h.ne
  have hc : cutL T ≠ [] := fun e => hne (cut_nil.1 e)
  obtain ⟨q, hq, h1, h2⟩ := minR_mem (R := cutL T) hc
  obtain ⟨y, hy, rfl⟩ := List.mem_map.1 hq
  have e1 : (cutT y).1 = y.1 := rfl
  have e2 : (cutT y).2.2 = y.2.2.1 := rfl
  have hst := stepV_bd y.2.1
  have h0 := h.at0
  have hleast : ∃ x ∈ T, (minR (cutL T)).2 = x.1 ∧ x.2.2.1 + stepV x.2.1 ≤ base + 1163962800 := ⟨y, hy, h2.symm.trans e1, by omega⟩
  unfold pickPC pickP
  rw [if_neg hne]
  rcases ht with rfl | rfl | rfl
  · rw [if_pos rfl]; exact hleast
  · rw [if_neg (by decide), if_pos rfl]
    unfold Fa.pickC
    rw [if_neg hc]
    by_cases hI : hasI (cutL T) cur = true
    · rw [if_pos hI]
      by_cases hf : (minR (cutL T)).1 < (getI (cutL T) cur).2.2 - 465585120
      · rw [if_pos hf]; exact hleast
      · rw [if_neg hf]
        obtain ⟨hm, hid⟩ := getI_mem hI
        obtain ⟨x, hx, he⟩ := List.mem_map.1 hm
        rw [← he] at hid hf
        have f1 : (cutT x).1 = x.1 := rfl
        have f2 : (cutT x).2.2 = x.2.2.1 := rfl
        have hsx := stepV_bd x.2.1
        exact ⟨x, hx, by omega, by omega⟩
    · rw [if_neg hI]; exact hleast
  · rw [if_neg (by decide), if_neg (by decide)]
    obtain ⟨x, hx, e1, e2, hm, hbest⟩ := pickC_spec hw hne
    unfold pickC at e1
    rw [if_neg hne] at e1
    refine ⟨x, hx, e1, ?_⟩
    have htk : tickV x.2.1 = stepV x.2.1 := rfl
    have hxd := hd x hx
    have hsx := stepV_bd x.2.1
    obtain ⟨z, hz, hzb, hze⟩ := low_mem hne (fun _ => by omega : Low base (cutL T))
    have hmz : mayI T (dayI z) = true := by
      unfold mayI
      rw [decide_eq_true_eq]
      have := sum_least (base := 0) (m := z.2.2.1) (l := T) (fun u hu => ⟨by
        have h1 := minR_le (cut_mem hu)
        have e : (cutT u).2.2 = u.2.2.1 := rfl
        rw [e] at h1
        omega, by have := wgt_of hw hu; omega⟩)
      rw [Int.sub_zero] at this
      exact this
    have h1 := dueB_false.1 (hbest z hz hmz)
    have f1 : (dayI z).2.1 = z.2.2.2 := rfl
    have f2 : (dayI x).2.1 = x.2.2.2 := rfl
    rw [f1, f2] at h1
    have hyd := hd z hz
    have hty := tickV_bd z.2.1
    omega
/-- One more comes. -/
theorem near_enterP {t : Int} {T : List TI} {id n : Int} (ht : Tag t) (h : T = [] ∨ Near 0 T) (hall : ∀ x ∈ T, x.2.2.1 = 0 ∧ x.1 < id) (hid : 0 ≤ id) (hid2 : id ≤ 1073741824) (h1 : 1 ≤ n) (h2 : n ≤ 20) (hl : T.length < 64) :
    entP t 0 T (id, n, 0) = (0, 0, T ++ [newU 0 (id, n, 0)]) ∧ Near 0 (T ++ [newU 0 (id, n, 0)]) ∧ ∀ x ∈ T ++ [newU 0 (id, n, 0)], x.2.2.1 = 0 ∧ x.1 < id + 1 := by
  have hn := near_enter h hall hid hid2 h1 h2 hl
  rw [ent_du] at hn
  have e : entP t 0 T (id, n, 0) = entP 2 0 T (id, n, 0) := by
    unfold entP
    rcases ht with rfl | rfl | rfl <;> rfl
  rw [e]
  exact hn
/-- One tick. -/
theorem near_tickP {t cur base b0 c0 : Int} {T : List TI} (ht : Tag t) (h : Near base T) (hw : WfS b0 c0 (cutL T)) (hd : DayOk T) (hb : base ≤ 1000000000000000) :
    ∃ b' x, x ∈ T ∧ pickPC t cur T = x.1 ∧ 0 ≤ x.1 ∧ chargeU base x.1 T = (x.1, 0, b', updU T x.1 chaT) ∧ Near b' (updU T x.1 chaT) ∧ base ≤ b' ∧ b' ≤ base + 1163962800 := by
  obtain ⟨x, hx, e1, hv⟩ := pick_nearP (cur := cur) ht h hw hd
  have e2 : getU T x.1 = x := getU_of hw.asc hx
  have heach := hw.each _ (cut_mem hx)
  have i1 : (cutT x).1 = x.1 := rfl
  rw [i1] at heach
  have hm1 : x.1 ≠ -1 := by omega
  have hge := h.ge hx
  have hst := stepV_bd x.2.1
  have htk : tickV x.2.1 = stepV x.2.1 := rfl
  obtain ⟨T', hT'⟩ : ∃ T', updU T x.1 chaT = T' := ⟨_, rfl⟩
  have hne : T' ≠ [] := fun e => by
    have := length_updU T x.1 chaT
    rw [hT', e] at this
    simp at this
    exact h.ne (List.eq_nil_of_length_eq_zero (by omega))
  have hall : ∀ z ∈ T', base ≤ z.2.2.1 ∧ z.2.2.1 ≤ base + 1163962800 := fun z hz => by
    rw [← hT'] at hz
    rcases mem_updU hz with ⟨y, hy, he, rfl⟩ | ⟨hz, _⟩
    · obtain rfl := uniqU hw.asc hy hx he
      have e : (chaT y).2.2.1 = y.2.2.1 + tickV y.2.1 := rfl
      rw [e]; omega
    · exact ⟨h.ge hz, h.le z hz⟩
  have hne' : cutL T' ≠ [] := fun e => hne (cut_nil.1 e)
  obtain ⟨r, hr, hr1, _⟩ := minR_mem hne'
  obtain ⟨p, hp, rfl⟩ := List.mem_map.1 hr
  have hpb := hall p hp
  have e3 : (cutT p).2.2 = p.2.2.1 := rfl
  rw [e3] at hr1
  refine ⟨raiseM base (cutL T'), x, hx, e1, heach.1, ?_⟩
  rw [hT']
  refine ⟨?_, ⟨hne, ?_, fun z hz => ?_⟩, raiseM_ge _ _, ?_⟩
  · unfold chargeU
    rw [if_neg hm1, e2, if_neg (by omega), hT']
  · unfold raiseM; rw [if_neg hne']; omega
  · unfold raiseM; rw [if_neg hne']
    have := hall z hz; omega
  · unfold raiseM; rw [if_neg hne']; omega
/-- A new queue of what is owed. -/
theorem near_change {base b : Int} {T : List TI} (h : Near base T) : Near b (seedU b (formU base T)) ∧ (seedU b (formU base T)).map (fun x => (x.1, x.2.1)) = T.map (fun x => (x.1, x.2.1)) := by
  have hmap : seedU b (formU base T) = T.map (fun x => newU b (x.1, x.2.1, base - x.2.2.1)) := by
    unfold seedU formU formL cutL
    rw [List.map_map, List.map_map]
    rfl
  rw [hmap]
  have hpt : ∀ x : TI, (newU b (x.1, x.2.1, base - x.2.2.1)).2.2.1 = b - base + x.2.2.1 := fun x => by show b - (base - x.2.2.1) = _; omega
  refine ⟨⟨fun e => h.ne (by simpa using e), ?_, fun z hz => ?_⟩, by rw [List.map_map]; rfl⟩
  · have hne : cutL (T.map (fun x => newU b (x.1, x.2.1, base - x.2.2.1))) ≠ [] := fun e => h.ne (by simpa using cut_nil.1 e)
    obtain ⟨r, hr, h1, _⟩ := minR_mem hne
    obtain ⟨y, hy, rfl⟩ := List.mem_map.1 hr
    obtain ⟨x, hx, rfl⟩ := List.mem_map.1 hy
    have e1 : (cutT (newU b (x.1, x.2.1, base - x.2.2.1))).2.2 = b - base + x.2.2.1 := hpt x
    have hge := h.ge hx
    obtain ⟨u, hu, hub, hue⟩ := low_mem h.ne (fun _ => by have := h.at0; omega : Low base (cutL T))
    have hm := minR_le (cut_mem (List.mem_map.2 ⟨u, hu, rfl⟩ : newU b (u.1, u.2.1, base - u.2.2.1) ∈ T.map (fun x => newU b (x.1, x.2.1, base - x.2.2.1))))
    have e2 : (cutT (newU b (u.1, u.2.1, base - u.2.2.1))).2.2 = b - base + u.2.2.1 := hpt u
    have h0 := h.at0
    omega
  · obtain ⟨x, hx, rfl⟩ := List.mem_map.1 hz
    have := h.le x hx
    rw [hpt]; omega

/-! How often each ran -/
/-- The points but for d are what c tells of ticks. -/
def Ran (c : Int → Int) (d : Int) (T : List TI) : Prop := ∀ x ∈ T, x.2.2.1 - d = c x.1 * tickV x.2.1
def ranSum (c : Int → Int) : List TI → Int
  | [] => 0
  | x :: l => c x.1 + ranSum c l
def incC (c : Int → Int) (id : Int) : Int → Int := fun i => if i = id then c i + 1 else c i
theorem Ran.tick {c : Int → Int} {d : Int} {T : List TI} (h : Ran c d T) {x : TI} (ha : AscR (cutL T)) (hx : x ∈ T) : Ran (incC c x.1) d (updU T x.1 chaT) := fun z hz => by
  rcases mem_updU hz with ⟨y, hy, he, rfl⟩ | ⟨hz, hn⟩
  · obtain rfl := uniqU ha hy hx he
    have e : (chaT y).2.2.1 = y.2.2.1 + tickV y.2.1 := rfl
    have e1 : (chaT y).1 = y.1 := rfl
    have e2 : (chaT y).2.1 = y.2.1 := rfl
    have := h y hx
    rw [e, e1, e2]
    unfold incC
    rw [if_pos rfl, Int.add_mul, Int.one_mul]
    omega
  · unfold incC
    rw [if_neg hn]
    exact h z hz
theorem Ran.change {c : Int → Int} {d base : Int} {T : List TI} (h : Ran c d T) (b : Int) : Ran c (d + b - base) (seedU b (formU base T)) := fun z hz => by
  have hmap : seedU b (formU base T) = T.map (fun x => newU b (x.1, x.2.1, base - x.2.2.1)) := by
    unfold seedU formU formL cutL
    rw [List.map_map, List.map_map]
    rfl
  rw [hmap] at hz
  obtain ⟨x, hx, rfl⟩ := List.mem_map.1 hz
  have e : (newU b (x.1, x.2.1, base - x.2.2.1)).2.2.1 = b - (base - x.2.2.1) := rfl
  have e1 : (newU b (x.1, x.2.1, base - x.2.2.1)).1 = x.1 := rfl
  have e2 : (newU b (x.1, x.2.1, base - x.2.2.1)).2.1 = x.2.1 := rfl
  rw [e, e1, e2, ← h x hx]
  omega
theorem ranSum_of {c : Int → Int} : ∀ {T U : List TI}, T.map (fun x => (x.1, x.2.1)) = U.map (fun x => (x.1, x.2.1)) → ranSum c T = ranSum c U
  | [], [], _ => rfl
  | [], _ :: _, h => by simp at h
  | _ :: _, [], h => by simp at h
  | x :: T, y :: U, h => by
    simp only [List.map_cons, List.cons.injEq, Prod.mk.injEq] at h
    show c x.1 + ranSum c T = c y.1 + ranSum c U
    rw [h.1.1, ranSum_of h.2]
theorem allT_of : ∀ {T U : List TI}, T.map (fun x => (x.1, x.2.1)) = U.map (fun x => (x.1, x.2.1)) → allT T = allT U
  | [], [], _ => rfl
  | [], _ :: _, h => by simp at h
  | _ :: _, [], h => by simp at h
  | x :: T, y :: U, h => by
    simp only [List.map_cons, List.cons.injEq, Prod.mk.injEq] at h
    have := allT_of h.2
    show allT T + x.2.1 = allT U + y.2.1
    rw [h.1.2, this]
theorem upd_ids (T : List TI) (id : Int) : (updU T id chaT).map (fun x => (x.1, x.2.1)) = T.map (fun x => (x.1, x.2.1)) := by
  unfold updU
  rw [List.map_map]
  refine List.map_congr_left (fun x _ => ?_)
  simp only [Function.comp]
  by_cases hx : x.1 = id
  · rw [if_pos hx]; rfl
  · rw [if_neg hx]
theorem ranSum_no {c : Int → Int} {id : Int} : ∀ {T : List TI}, (∀ x ∈ T, x.1 ≠ id) → ranSum (incC c id) T = ranSum c T
  | [], _ => rfl
  | x :: T, h => by
    show incC c id x.1 + ranSum (incC c id) T = c x.1 + ranSum c T
    rw [ranSum_no (fun y hy => h y (by simp [hy]))]
    unfold incC
    rw [if_neg (h x (by simp))]
theorem ranSum_inc {c : Int → Int} {id : Int} : ∀ {T : List TI}, AscR (cutL T) → (∃ x ∈ T, x.1 = id) → ranSum (incC c id) T = ranSum c T + 1
  | [], _, h => by obtain ⟨x, hx, _⟩ := h; simp at hx
  | x :: T, ha, h => by
    have ha' : AscR (cutT x :: cutL T) := ha
    obtain ⟨h1, h2⟩ := List.pairwise_cons.1 ha'
    show incC c id x.1 + ranSum (incC c id) T = c x.1 + ranSum c T + 1
    by_cases hx : x.1 = id
    · rw [ranSum_no (fun y hy => by
        have := h1 _ (cut_mem hy)
        have e1 : (cutT y).1 = y.1 := rfl
        have e2 : (cutT x).1 = x.1 := rfl
        omega)]
      unfold incC
      rw [if_pos hx]; omega
    · have hT : ∃ y ∈ T, y.1 = id := by
        obtain ⟨y, hy, he⟩ := h
        rcases List.mem_cons.1 hy with rfl | hy
        · exact absurd he hx
        · exact ⟨y, hy, he⟩
      rw [ranSum_inc h2 hT]
      unfold incC
      rw [if_neg hx]; omega
/-- A tick of each weight is its part of a Scale. -/
theorem tick_mul {n : Int} (h1 : 1 ≤ n) (h2 : n ≤ 20) : tickV n * n = 232792560 := by
  obtain ⟨k, rfl⟩ : ∃ k : Nat, n = (k : Int) := ⟨n.toNat, by omega⟩
  have hk : k ≤ 20 := by omega
  have hk1 : 1 ≤ k := by omega
  clear h1 h2
  rcases k with _ | _ | _ | _ | _ | _ | _ | _ | _ | _ | _ | _ | _ | _ | _ | _ | _ | _ | _ | _ | _ | k
  · omega
  all_goals first | rfl | omega
/-- Two of which neither is five Scales ahead: their ticks. -/
theorem pair_near {a b p q x y : Int} (hx1 : 1 ≤ x) (hx2 : x ≤ 20) (hy1 : 1 ≤ y) (hy2 : y ≤ 20) (hp : p = a * tickV x) (hq : q = b * tickV y) (h1 : p - q ≤ 1163962800) (h2 : q - p ≤ 1163962800) :
    a * y - b * x ≤ 5 * (x * y) ∧ b * x - a * y ≤ 5 * (x * y) := by
  have ex := tick_mul hx1 hx2
  have ey := tick_mul hy1 hy2
  have hxy : 0 ≤ x * y := Int.mul_nonneg (by omega) (by omega)
  have k1 : p * (x * y) = 232792560 * (a * y) := by
    subst hp
    calc a * tickV x * (x * y) = (tickV x * x) * (a * y) := by ac_rfl
      _ = _ := by rw [ex]
  have k2 : q * (x * y) = 232792560 * (b * x) := by
    subst hq
    calc b * tickV y * (x * y) = (tickV y * y) * (b * x) := by ac_rfl
      _ = _ := by rw [ey]
  have m1 := Int.mul_le_mul_of_nonneg_right h1 hxy
  have m2 := Int.mul_le_mul_of_nonneg_right h2 hxy
  rw [Int.sub_mul, k1, k2] at m1
  rw [Int.sub_mul, k1, k2] at m2
  generalize a * y = u at *
  generalize b * x = v at *
  generalize x * y = z at *
  omega
theorem all_near {c : Int → Int} {a x : Int} : ∀ {T : List TI}, (∀ y ∈ T, a * y.2.1 - c y.1 * x ≤ 5 * (x * y.2.1) ∧ c y.1 * x - a * y.2.1 ≤ 5 * (x * y.2.1)) →
    a * allT T - ranSum c T * x ≤ 5 * (x * allT T) ∧ ranSum c T * x - a * allT T ≤ 5 * (x * allT T)
  | [], _ => by
    have e1 : allT [] = 0 := rfl
    have e2 : ranSum c [] = 0 := rfl
    rw [e1, e2]; simp
  | y :: T, h => by
    have h1 := h y (by simp)
    have h2 := all_near (c := c) (a := a) (x := x) (T := T) (fun z hz => h z (by simp [hz]))
    have e1 : allT (y :: T) = y.2.1 + allT T := Int.add_comm _ _
    have e2 : ranSum c (y :: T) = c y.1 + ranSum c T := rfl
    rw [e1, e2, Int.mul_add, Int.add_mul, Int.mul_add, Int.mul_add]
    generalize a * y.2.1 = u1 at *
    generalize c y.1 * x = u2 at *
    generalize x * y.2.1 = u3 at *
    generalize a * allT T = u4 at *
    generalize ranSum c T * x = u5 at *
    generalize x * allT T = u6 at *
    omega
/-- Each ran its share, but for five ticks for each of its weight. -/
theorem share_near {c : Int → Int} {d base b0 c0 : Int} {T : List TI} (h : Near base T) (hw : WfS b0 c0 (cutL T)) (hr : Ran c d T) {x : TI} (hx : x ∈ T) :
    c x.1 * allT T - ranSum c T * x.2.1 ≤ 5 * (x.2.1 * allT T) ∧ ranSum c T * x.2.1 - c x.1 * allT T ≤ 5 * (x.2.1 * allT T) := by
  refine all_near (fun y hy => ?_)
  have w1 := wgt_of hw hx
  have w2 := wgt_of hw hy
  have g1 := h.ge hx
  have g2 := h.ge hy
  have l1 := h.le x hx
  have l2 := h.le y hy
  have r1 := hr x hx
  have r2 := hr y hy
  exact pair_near w1.1 w1.2 w2.1 w2.2 r1 r2 (by omega) (by omega)
end Go.Proofs.YtandmngfajoinaaGreat.Po
