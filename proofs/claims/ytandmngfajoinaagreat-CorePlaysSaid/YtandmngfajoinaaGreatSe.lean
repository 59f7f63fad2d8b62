/- The queue of points: Base, Back, PickLeast, Cur, Leave. -/
import Derived.Test.YtandmngfajoinaaGreatSd
namespace Go.Proofs.YtandmngfajoinaaGreat
open Go.RowKit Go.Maps

section
variable {w w' : World} {s b mp mw : Nat} {v : Value} {st base cur : Int} {L : List QI} {R : List RI}


set_option maxHeartbeats 1000000 in
theorem sback_c (w : World) (h : IsS w s b mp mw v st base cur L R) :
    Calls Tryz.prog 185 #[.pointer (some ⟨s, 0, none⟩)] w fun e w' => e = .returned (.bool (!decide (cur = -1))) ∧ SPost s b mp mw v st base (-1) R 0 w w' := by
  obtain ⟨-, c1, -, -, -, f1⟩ := h.box.cells
  have FIN : Hid (SPost s b mp mw v st base (-1) R 0 w (w.setCell ⟨s, 1, none⟩ (.int .i64 (-1)))) := Lib.hid ⟨v, L, 0, Nat.le_refl _, by simpa using h.set1 (.inl rfl), (h.self (Below.refl _ w)).setS⟩
  have hb : (cur != -1) = !decide (cur = -1) := by by_cases e : cur = -1 <;> simp [e]
  clear h
  go_enter Tryz.func185, Tryz.ntmps185
  go_wp2
  go_ret
  exact ⟨ret_b hb, FIN.out⟩

set_option maxRecDepth 100000 in
set_option maxHeartbeats 2000000 in
theorem look_w (h : IsS w s b mp mw v st base cur L R) (id : Int) (hid : wf64 id) :
    (Instr.lookup 126 (.map (some mw)) (.int .i64 id) true).run Tryz.prog w = .ok (.tuple #[.int .i64 (if hasI R id = true then (getI R id).2.1 else 0), .bool (hasI R id)]) w := by
  cases hI : hasI R id with
  | true =>
    obtain ⟨hr, he⟩ := getI_mem hI
    rw [if_pos rfl]
    exact (h.wm.look id hid).1 ((getI R id).2.1, (getI R id).1) (mem_wL.2 ⟨_, hr, rfl, rfl⟩) he
  | false =>
    rw [if_neg (by decide)]
    refine (h.wm.look id hid).2 (fun x hx he => ?_)
    obtain ⟨r, hr, _, h2⟩ := mem_wL.1 hx
    exact hasI_no.1 hI r hr (h2.trans he)

set_option maxRecDepth 100000 in
set_option maxHeartbeats 2000000 in
/-- The one of a number runs; nobody, if there is none. -/
theorem spid_c (id : Int) (w : World) (h : IsS w s b mp mw v st base cur L R) (hid : wf64 id) :
    Calls Tryz.prog 145 #[.pointer (some ⟨s, 0, none⟩), .int .i64 id] w fun e w' => e = .returned (.tuple #[.int .i64 (if hasI R id = true then id else 0), .bool (hasI R id)]) ∧ SPost s b mp mw v st base (if hasI R id = true then id else -1) R 0 w w' := by
  obtain ⟨-, c1, -, c3, -, f1⟩ := h.box.cells
  have hrun := look_w h id hid
  have FIN : Hid (SPost s b mp mw v st base (if hasI R id = true then id else -1) R 0 w (w.setCell ⟨s, 1, none⟩ (.int .i64 (if hasI R id = true then id else -1)))) := by
    have hz : (if hasI R id = true then id else -1) = -1 ∨ hasI R (if hasI R id = true then id else -1) = true := by
      by_cases hI : hasI R id = true
      · rw [if_pos hI]; exact .inr hI
      · rw [if_neg hI]; exact .inl rfl
    exact Lib.hid ⟨v, L, 0, Nat.le_refl _, by simpa using h.set1 hz, (h.self (Below.refl _ w)).setS⟩
  cases hI : hasI R id with
  | false =>
    rw [hI] at hrun FIN
    simp only [Bool.false_eq_true, if_false] at hrun FIN ⊢
    clear h hI hid
    go_enter Tryz.func145, Tryz.ntmps145
    go_wp2_with fail
    go_ret2
    exact ⟨rfl, FIN.out⟩
  | true =>
    rw [hI] at hrun FIN
    simp only [if_true] at hrun FIN ⊢
    generalize (getI R id).2.1 = r1 at hrun
    clear h hI hid
    go_enter Tryz.func145, Tryz.ntmps145
    go_wp2_with fail
    go_ret2
    exact ⟨rfl, FIN.out⟩

set_option maxRecDepth 100000 in
set_option maxHeartbeats 2000000 in
/-- Who runs next. -/
theorem spick_c (w : World) (h : IsS w s b mp mw v st base cur L R) :
    Calls Tryz.prog 135 #[.pointer (some ⟨s, 0, none⟩)] w fun e w' => e = .returned (.tuple #[.int .i64 (if R = [] then 0 else (minR R).2), .bool (!decide (R = []))]) ∧ SPost s b mp mw v st base (if R = [] then -1 else (minR R).2) R 0 w w' := by
  have KM := Lib.hid (sleast_c w h)
  have H := Lib.hid h
  have FIN : Hid (∀ w2, Below w.heap.size w w2 → SPost s b mp mw v st base (if R = [] then -1 else (minR R).2) R 0 w (w2.setCell ⟨s, 1, none⟩ (.int .i64 (if R = [] then -1 else (minR R).2)))) := Lib.hid (fun w2 hb => by
    have hz : (if R = [] then -1 else (minR R).2) = -1 ∨ hasI R (if R = [] then -1 else (minR R).2) = true := by
      by_cases hR : R = []
      · rw [if_pos hR]; exact .inl rfl
      · rw [if_neg hR]
        obtain ⟨r, hr, _, h2⟩ := minR_mem hR
        exact .inr (hasI_iff.2 ⟨r, hr, h2⟩)
    exact ⟨v, L, 0, Nat.le_refl _, by simpa using (h.below hb).set1 hz, (h.self hb).setS⟩)
  by_cases hR : R = []
  · have hd : decide (R = []) = true := by simp [hR]
    rw [if_pos hR] at KM FIN
    rw [if_pos hR, if_pos hR, hd]
    clear h hR hd
    go_enter Tryz.func135, Tryz.ntmps135
    go_wp2_with fail
    refine KM.out.mono ?_
    rintro e w1 ⟨rfl, hb⟩
    have hb2 := hb.alloc hb.size (.cells #[.int .i64 0, .int .i64 0] 136)
    have HB := Lib.hid hb2
    obtain ⟨-, c1, -, -, -, f1⟩ := (H.out.below hb2).box.cells
    simp only [encQ]
    clear hb KM hb2
    go_wp2_with fail
    go_ret2
    exact ⟨rfl, FIN.out _ HB.out⟩
  · have hd : decide (R = []) = false := by simp [hR]
    obtain ⟨r, hr, hr1, hr2⟩ := minR_mem hR
    have hk64 := (h.id64 hr).1
    have hI : hasI R (minR R).2 = true := hasI_iff.2 ⟨r, hr, hr2⟩
    rw [hr2] at hk64
    rw [if_neg hR] at KM FIN
    rw [if_neg hR, if_neg hR, hd]
    have KP : Hid (∀ w2, Below w.heap.size w w2 → Calls Tryz.prog 145 #[.pointer (some ⟨s, 0, none⟩), .int .i64 (minR R).2] w2 fun e w' => e = .returned (.tuple #[.int .i64 (minR R).2, .bool true]) ∧ SPost s b mp mw v st base (minR R).2 R 0 w w') := Lib.hid (fun w2 hb => by
      have K := spid_c (minR R).2 w2 (h.below hb) hk64
      rw [hI, if_pos rfl, if_pos rfl] at K
      refine K.mono ?_
      rintro e w' ⟨he, v', L', k, hk, hq, ht⟩
      exact ⟨he, v', L', k, hk, hq, (h.self hb).trans ht⟩)
    generalize minR R = m at *
    obtain ⟨k0, k1⟩ := m
    simp only at FIN KP ⊢
    clear h hR hd hr hr1 hr2 hI hk64 FIN
    go_enter Tryz.func135, Tryz.ntmps135
    go_wp2_with fail
    refine KM.out.mono ?_
    rintro e w1 ⟨rfl, hb⟩
    obtain ⟨w2, hw2⟩ : ∃ w2, w1.alloc (.cells #[.int .i64 k0, .int .i64 k1] 136) = w2 := ⟨_, rfl⟩
    have hb2 : Below w.heap.size w w2 := by rw [← hw2]; exact hb.alloc hb.size _
    have hnew : w2.heap[w1.heap.size]? = some (.cells #[.int .i64 k0, .int .i64 k1] 136 (0, 0)) := by rw [← hw2]; exact World.alloc_heap_new _ _
    have y1 : w2.cell? ⟨w1.heap.size, 1, none⟩ = some (.int .i64 k1) := by simp [World.cell?, hnew]
    have K2 := Lib.hid (KP.out _ hb2)
    simp only [encQ]
    clear hb KM hb2 hnew KP
    go_wp2_with fail
    refine K2.out.mono ?_
    rintro e w3 ⟨rfl, hP⟩
    have HP := Lib.hid hP
    clear hP K2
    go_wp2_with fail
    go_ret2
    exact ⟨rfl, HP.out⟩

/-- Who runs, with its point; none. -/
def curV (cur : Int) (R : List RI) : QI × Bool := if hasI R cur = true then (((getI R cur).2.2, cur), true) else ((0, 0), false)
theorem IsS.cur64 (h : IsS w s b mp mw v st base cur L R) : wf64 cur := by
  rcases h.wf.cur with hc | hc
  · rw [hc]; exact wf64_of (by decide) (by decide)
  · obtain ⟨hr, he⟩ := getI_mem hc
    have := (h.id64 hr).1
    rwa [he] at this
set_option maxRecDepth 100000 in
set_option maxHeartbeats 4000000 in
theorem scur_c (w : World) (h : IsS w s b mp mw v st base cur L R) :
    Calls Tryz.prog 138 #[.pointer (some ⟨s, 0, none⟩)] w fun e w' => e = .returned (.tuple #[.agg (encQ (curV cur R).1).toArray, .bool (curV cur R).2]) ∧ Below w.heap.size w w' := by
  have hb1 : Below w.heap.size w (w.alloc (.cells #[.int .i64 0, .int .i64 0] 136)) := (Below.refl _ w).alloc (Nat.le_refl _) _
  have hnew := World.alloc_heap_new w (.cells #[.int .i64 0, .int .i64 0] 136)
  obtain ⟨w1, hw1⟩ : ∃ w1, w.alloc (.cells #[.int .i64 0, .int .i64 0] 136) = w1 := ⟨_, rfl⟩
  rw [hw1] at hb1 hnew
  have h1 := h.below hb1
  obtain ⟨-, c1, c2, -, -, -⟩ := h1.box.cells
  have KK : Hid (∀ n, Calls Tryz.prog 92 #[.pointer (some ⟨b, 0, none⟩), .int .i64 cur] (w1.drewN n) fun e w'' => e = .returned (.tuple #[.int .i64 (keyV L cur).1, .bool (keyV L cur).2]) ∧ ∃ m, w'' = w1.drewN m) := Lib.hid (fun n => quiet_eq (qkey_c b mp 64 st v L cur (w1.drewN n) (h1.q.keep (fun _ _ => rfl)) h.cur64))
  rw [perm_key h.perm h.q.dist h.wf.asc cur] at KK
  have FIN : Hid (∀ (q : Nat) (x y : Value), (set2 (w1.drewN q) w.heap.size x y).heap[w.heap.size]? = some (.cells #[x, y] 136 (0, 0)) ∧ Below w.heap.size w (set2 (w1.drewN q) w.heap.size x y)) := Lib.hid (fun q x y =>
    ⟨set2_same x y (show (w1.drewN q).heap[w.heap.size]? = _ from hnew), below_set2 x y (below_drewN hb1 q) (Nat.le_refl _)⟩)
  have HN := Lib.hid hnew
  unfold curV
  cases hI : hasI R cur with
  | false =>
    rw [hI, if_neg (by decide)] at KK
    rw [if_neg (by decide)]
    simp only [encQ]
    clear h h1 hb1 hnew hI
    go_enter Tryz.func138, Tryz.ntmps138
    go_wp2_with fail
    go_big_quiet ((first | exact KK.out _))
    have HF := Lib.hid (FIN.out nq (.int .i64 0) (.int .i64 0))
    obtain ⟨t0, t1, t2, t3⟩ := two_cells (show (w1.drewN nq).heap[w.heap.size]? = _ from HN.out) (.int .i64 0)
    clear KK FIN
    go_wp2_with fail
    refine bodyPost_ret (item_results _ 2 3 rfl _ w.heap.size #[.int .i64 0, .int .i64 0] false _ rfl rfl rfl HF.out.1) rfl ?_
    exact ⟨rfl, HF.out.2⟩
  | true =>
    rw [hI, if_pos rfl] at KK
    rw [if_pos rfl]
    simp only [encQ]
    generalize (getI R cur).2.2 = x0 at *
    clear h h1 hb1 hnew hI
    go_enter Tryz.func138, Tryz.ntmps138
    go_wp2_with fail
    go_big_quiet ((first | exact KK.out _))
    have HF := Lib.hid (FIN.out nq (.int .i64 x0) (.int .i64 cur))
    obtain ⟨t0, t1, t2, t3⟩ := two_cells (show (w1.drewN nq).heap[w.heap.size]? = _ from HN.out) (.int .i64 x0)
    clear KK FIN
    go_wp2_with fail
    refine bodyPost_ret (item_results _ 2 3 rfl _ w.heap.size #[.int .i64 x0, .int .i64 cur] true _ rfl rfl rfl HF.out.1) rfl ?_
    exact ⟨rfl, HF.out.2⟩

/-- What Leave answers, and what it leaves: the lag, the error; the base, who runs, the tasks. -/
def leaveM (base cur : Int) (R : List RI) (id : Int) : Int × Int × Int × Int × List RI :=
  if hasI R id = true then (base - (getI R id).2.2, 0, raiseM base (delI R id), if cur = id then -1 else cur, delI R id) else (0, 2, base, cur, R)

set_option maxRecDepth 100000 in
set_option maxHeartbeats 4000000 in
theorem sleave_c (id : Int) (w : World) (h : IsS w s b mp mw v st base cur L R) (hid : wf64 id) (hs : 0 ≤ st) (hs' : st < 1000000000000000) :
    Calls Tryz.prog 134 #[.pointer (some ⟨s, 0, none⟩), .int .i64 id] w fun e w' => e = .returned (.tuple #[.int .i64 (leaveM base cur R id).1, .int .i64 (leaveM base cur R id).2.1]) ∧
      SPost s b mp mw v st (leaveM base cur R id).2.2.1 (leaveM base cur R id).2.2.2.1 (leaveM base cur R id).2.2.2.2 8 w w' := by
  obtain ⟨-, -, c2, -, -, -⟩ := h.box.cells
  cases hI : hasI R id with
  | false =>
    have hm : leaveM base cur R id = (0, 2, base, cur, R) := by unfold leaveM; rw [hI, if_neg (by decide)]
    rw [hm]
    have hn : ∀ z ∈ L, z.2 ≠ id := fun z hz he => by
      obtain ⟨r, hr, _, h2⟩ := mem_pL.1 (h.perm.mem_iff.1 hz)
      exact hasI_no.1 hI r hr (h2.trans he)
    have KD := Lib.hid (qdrop_no b mp 64 st v L id w h.q hid hn)
    have POST := Lib.hid (fun w' => SPost.same (K := 8) (w' := w') h)
    clear h hm hn hI hid
    go_enter Tryz.func134, Tryz.ntmps134
    go_wp2_with fail
    refine KD.out.mono ?_
    rintro e w1 ⟨rfl, hb⟩
    have HB := Lib.hid hb
    have hsz := hb.size
    clear hb KD
    go_wp2_with fail
    go_ret2
    exact ⟨rfl, POST.out _ (HB.out.alloc hsz _)⟩
  | true =>
    obtain ⟨hr, he⟩ := getI_mem hI
    have hm : leaveM base cur R id = (base - (getI R id).2.2, 0, raiseM base (delI R id), if cur = id then -1 else cur, delI R id) := by unfold leaveM; rw [hI, if_pos rfl]
    rw [hm]
    obtain ⟨i, hi⟩ := perm_at h.perm hr
    have he64 := h.id64 hr
    have heach := h.wf.each _ hr
    have hper := perm_del h.perm h.wf.asc hr hi
    have hwl := wL_del h.wf.asc hr
    have KD := Lib.hid (qdrop_yes b mp 64 st v L _ i 7 w h.q hi (by have := h.len; omega) (by have := h.len; omega) (by omega) hs (by omega))
    generalize getI R id = r at *
    obtain ⟨r0, r1, r2⟩ := r
    simp only at he hi he64 heach hper hwl KD ⊢
    subst he
    have hn : ∀ z ∈ wL (delI R r0), z.2 ≠ r0 := fun z hz he => by
      obtain ⟨q, hq, _, h2⟩ := mem_wL.1 hz
      exact (mem_delI.1 hq).2 (h2.trans he)
    have H := Lib.hid h
    have HF := Lib.hid (And.intro he64 (And.intro heach (And.intro hper (And.intro hwl hn))))
    clear h hm hn hI hid he64 heach hper hwl hi hr hs hs'
    go_enter Tryz.func134, Tryz.ntmps134
    go_wp2_with fail
    refine KD.out.mono ?_
    rintro e w1 ⟨rfl, v1, k, hk, hq, ht⟩
    obtain ⟨g1, g2, g3, g4, g5⟩ := H.out.step hq ht
    obtain ⟨w2, hw2⟩ : ∃ w2, w1.alloc (.cells #[.int .i64 r2, .int .i64 r0] 136) = w2 := ⟨_, rfl⟩
    have hb1 : Below w1.heap.size w1 w2 := by rw [← hw2]; exact (Below.refl _ w1).alloc (Nat.le_refl _) _
    have hnew : w2.heap[w1.heap.size]? = some (.cells #[.int .i64 r2, .int .i64 r0] 136 (0, 0)) := by rw [← hw2]; exact World.alloc_heap_new _ _
    have hs2 : w2.heap.size = w1.heap.size + 1 := by rw [← hw2]; simp
    have hwm := g2.keep (hb1.block mw g2.lt)
    obtain ⟨w3, hrun, m1, m2, m3⟩ := hwm.drop (x := (r1, r0)) HF.out.1.1 HF.out.2.2.2.1 HF.out.2.2.2.2 0
    have hk3 : ∀ j, j < w2.heap.size → j ≠ mw → w3.heap[j]? = w2.heap[j]? := fun j hj hne => m2.block j hj (fun e => hne (Option.some.inj e))
    have hsb : SBox w3 s base cur b mw := (g1.keep (hb1.block s g1.lt)).keep (hk3 s (by have := g1.lt; omega) H.out.n1)
    have hq3 : IsQ w3 b 64 (st + (k : Int)) (L.eraseIdx i) v1 mp := hq.keep (fun j hj => by
      have := hq.lt j hj
      exact (hk3 j (by omega) (fun e => g4 (e ▸ hj))).trans (hb1.block j this))
    have hnew3 : w3.heap[w1.heap.size]? = some (.cells #[.int .i64 r2, .int .i64 r0] 136 (0, 0)) := (hk3 _ (by omega) (by have := g2.lt; omega)).trans hnew
    have ht3 : Trip (SOf s b mp mw v) w (SOf s b mp mw v1) w3 := by
      have hb2 : w2.heap.size ≤ w3.heap.size := by rw [m3]; exact Nat.le_refl _
      exact ⟨m2.os.trans (hb1.os.trans g5.os), m2.tape.trans (hb1.tape.trans g5.tape), m2.output.trans (hb1.output.trans g5.output), by have := g5.size; omega, fun j hj hn => by
        have := g5.size
        exact (hk3 j (by omega) (fun e => hn (e ▸ .inr (.inl rfl)))).trans ((hb1.block j (by omega)).trans (g5.block j hj hn)), g5.sub, fun j hj => by have := g5.bd j hj; omega⟩
    have hwf := H.out.wf.del r0
    have HSZ := Lib.hid g5.size
    have H3 := Lib.hid (And.intro hk (And.intro hsb (And.intro hq3 (And.intro m1 (And.intro ht3 (And.intro g3 (And.intro g4 (And.intro hwf hnew3))))))))
    obtain ⟨-, -, -, y3, -, -⟩ := (g1.keep (hb1.block s g1.lt)).cells
    obtain ⟨-, u1, -, -, -, q1⟩ := hsb.cells
    clear hb1 hnew hs2 hwm m1 m2 m3 hk3 hsb hq3 hnew3 ht3 hwf g1 g2 g3 g4 g5 hk hq ht KD c2
    have IS : Hid (∀ (w4 : World) (c' : Int), c' = (if cur = r0 then -1 else cur) → (∀ j, j ≠ s → w4.heap[j]? = w3.heap[j]?) → SBox w4 s base c' b mw → IsS w4 s b mp mw v1 (st + (k : Int)) base c' (L.eraseIdx i) (delI R r0)) := Lib.hid (fun w4 c' hc ho hs4 => by
      obtain ⟨hk, hsb, hq3, m1, ht3, g3, g4, hwf, -⟩ := H3.out
      subst hc
      exact ⟨hs4, hq3.keep (fun j hj => ho j (fun e => g3 (e ▸ hj))), m1.keep (ho mw (fun e => H.out.n1 e.symm)), HF.out.2.2.1, hwf, H.out.n1, g3, g4⟩)
    have T3 : Hid (Trip (SOf s b mp mw v) w (SOf s b mp mw v1) w3) := Lib.hid H3.out.2.2.2.2.1
    by_cases hc : cur = r0
    · obtain ⟨w4, hw4⟩ : ∃ w4, w3.setCell ⟨s, 1, none⟩ (.int .i64 (-1)) = w4 := ⟨_, rfl⟩
      have hI4 := IS.out w4 (-1) (by rw [if_pos hc]) (fun j hj => by rw [← hw4]; exact Below.heap_setCell w3 _ _ j hj) (by rw [← hw4]; exact H3.out.2.1.set1 (-1))
      have hT4 : Trip (SOf s b mp mw v) w (SOf s b mp mw v1) w4 := by rw [← hw4]; exact T3.out.setS
      have hcb : (cur == r0) = true := by simp [hc]
      have hne : w1.heap.size ≠ s := fun e => by
        have h1 := H.out.box.lt
        have h2 := H.out.lt
        have := HSZ.out
        omega
      have hn4 : w4.heap[w1.heap.size]? = some (.cells #[.int .i64 r2, .int .i64 r0] 136 (0, 0)) := by rw [← hw4]; exact (Below.heap_setCell w3 _ _ _ hne).trans H3.out.2.2.2.2.2.2.2.2
      have z0 : w4.cell? ⟨w1.heap.size, 0, none⟩ = some (.int .i64 r2) := by simp [World.cell?, hn4]
      have z1 : w4.cell? ⟨w1.heap.size, 1, none⟩ = some (.int .i64 r0) := by simp [World.cell?, hn4]
      have H4 := Lib.hid (And.intro hI4 hT4)
      have KL := Lib.hid (slag_c r2 w4 hI4.box hI4.wf.lo hI4.wf.hi HF.out.2.1.2.2.2.2.1 HF.out.2.1.2.2.2.2.2)
      have HK := Lib.hid H3.out.1
      clear hI4 hT4 hn4 H3 IS T3 HF
      go_wp2_with fail
      refine KL.out.mono ?_
      rintro e w5 ⟨rfl, rfl⟩
      have hb5 := Below.refl w4.heap.size w4
      have H5 := Lib.hid (And.intro (H4.out.1.below hb5) (H4.out.2.trans (H4.out.1.self hb5)))
      clear hb5 KL z0 z1
      have KR := Lib.hid (sraise_c w4 H5.out.1)
      go_wp2_with fail
      refine KR.out.mono ?_
      rintro e w6 ⟨rfl, hq6, ht6⟩
      have H6 := Lib.hid (And.intro hq6 (H5.out.2.trans ht6))
      clear hq6 ht6 KR
      go_wp2_with fail
      go_ret2
      exact ⟨rfl, v1, _, k, by have := HK.out; omega, H6.out.1, H6.out.2⟩
    · obtain ⟨w4, rfl⟩ : ∃ w4, w4 = w3 := ⟨_, rfl⟩
      have hI4 := IS.out w4 cur (by rw [if_neg hc]) (fun j hj => rfl) H3.out.2.1
      have hT4 : Trip (SOf s b mp mw v) w (SOf s b mp mw v1) w4 := T3.out
      have hcb : (cur == r0) = false := by simp [hc]
      have hn4 : w4.heap[w1.heap.size]? = some (.cells #[.int .i64 r2, .int .i64 r0] 136 (0, 0)) := H3.out.2.2.2.2.2.2.2.2
      have z0 : w4.cell? ⟨w1.heap.size, 0, none⟩ = some (.int .i64 r2) := by simp [World.cell?, hn4]
      have z1 : w4.cell? ⟨w1.heap.size, 1, none⟩ = some (.int .i64 r0) := by simp [World.cell?, hn4]
      have H4 := Lib.hid (And.intro hI4 hT4)
      have KL := Lib.hid (slag_c r2 w4 hI4.box hI4.wf.lo hI4.wf.hi HF.out.2.1.2.2.2.2.1 HF.out.2.1.2.2.2.2.2)
      have HK := Lib.hid H3.out.1
      clear hI4 hT4 hn4 H3 IS T3 HF
      go_wp2_with fail
      refine KL.out.mono ?_
      rintro e w5 ⟨rfl, rfl⟩
      have hb5 := Below.refl w4.heap.size w4
      have H5 := Lib.hid (And.intro (H4.out.1.below hb5) (H4.out.2.trans (H4.out.1.self hb5)))
      clear hb5 KL z0 z1
      have KR := Lib.hid (sraise_c w4 H5.out.1)
      go_wp2_with fail
      refine KR.out.mono ?_
      rintro e w6 ⟨rfl, hq6, ht6⟩
      have H6 := Lib.hid (And.intro hq6 (H5.out.2.trans ht6))
      clear hq6 ht6 KR
      go_wp2_with fail
      go_ret2
      exact ⟨rfl, v1, _, k, by have := HK.out; omega, H6.out.1, H6.out.2⟩
end
end Go.Proofs.YtandmngfajoinaaGreat
