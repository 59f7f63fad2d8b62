/- Groups: Remove, New. -/
import Derived.Test.YtbhcooomdjhoiaaVf
namespace Go.Proofs.Ytbhcooomdjhoiaa
open Go.RowKit Go.Shelf
attribute [local go_sem] Oper.semAt_some wide_fn wide_depth

/-- Is x in id? -/
def inB (G : List GR) (id : Int) (x : Nat) : Bool := (upG G x).2 && ((upG G x).1 == id)
/-- Remove's answer, and what there is then. -/
def remG (G : List GR) (id : Int) : Int × List GR :=
  if id = 0 then (1, G)
  else if hasG G id = false then (2, G)
  else if (numsL G true).any (inB G id) = true then (4, G)
  else (0, G.set id.toNat (0, false))
theorem remG_zero (G : List GR) : remG G 0 = (1, G) := by unfold remG; rw [if_pos rfl]
theorem remG_no {G : List GR} {id : Int} (h0 : id ≠ 0) (h : hasG G id = false) : remG G id = (2, G) := by unfold remG; rw [if_neg h0, if_pos h]
theorem remG_in {G : List GR} {id : Int} (h0 : id ≠ 0) (h : hasG G id = true) (h2 : (numsL G true).any (inB G id) = true) : remG G id = (4, G) := by unfold remG; rw [if_neg h0, if_neg (by rw [h]; simp), if_pos h2]
theorem remG_ok {G : List GR} {k : Nat} (h0 : (k : Int) ≠ 0) (h : hasG G (k : Int) = true) (h2 : (numsL G true).any (inB G k) = false) : remG G k = (0, G.set k (0, false)) := by unfold remG; rw [if_neg h0, if_neg (by rw [h]; simp), if_neg (by rw [h2]; simp)]; rfl

theorem rem_result (tmps : Array Value) (B : Nat) (y : Int) (w : World) (h2 : tmps.getD 4 undef = .pointer (some ⟨B, 0, none⟩)) (hx : w.cell? ⟨B, 0, none⟩ = some (.int .i64 y)) :
    (results Try.f10 tmps).run Try.prog w = .ok (.int .i64 y) w := by
  have h2' : tmps[4]?.getD undef = .pointer (some ⟨B, 0, none⟩) := by simpa using h2
  simp [results, Try.f10, go_sem, hx, h2']

/-- The three boxes of the call. -/
def RemB (n b : Nat) (id y : Int) (W : World) : Prop :=
  W.heap[n]? = some (.cells #[.pointer (some ⟨b, 0, none⟩)] 23 (0, 0)) ∧ W.heap[n + 1]? = some (.cells #[.int .i64 id] 3 (0, 0)) ∧ Boxed W (n + 2) 25 (.int .i64 y)
theorem RemB.keep {n b : Nat} {id y : Int} {W W' : World} (h : RemB n b id y W) (hk : ∀ k, n ≤ k → k < n + 3 → W'.heap[k]? = W.heap[k]?) : RemB n b id y W' :=
  ⟨(hk n (by omega) (by omega)).trans h.1, (hk (n + 1) (by omega) (by omega)).trans h.2.1, (hk (n + 2) (by omega) (by omega)).trans h.2.2⟩
theorem RemB.lt {n b : Nat} {id y : Int} {W : World} (h : RemB n b id y W) : n + 2 < W.heap.size := h.2.2.lt
theorem RemB.cg {n b : Nat} {id y : Int} {W : World} (h : RemB n b id y W) : W.cell? ⟨n, 0, none⟩ = some (.pointer (some ⟨b, 0, none⟩)) := by simp [World.cell?, h.1]
theorem RemB.ci {n b : Nat} {id y : Int} {W : World} (h : RemB n b id y W) : W.cell? ⟨n + 1, 0, none⟩ = some (.int .i64 id) := by simp [World.cell?, h.2.1]
theorem RemB.set {n b : Nat} {id y : Int} {W : World} (h : RemB n b id y W) (y' : Int) : W.cell? ⟨n + 2, 0, none⟩ = some (.int .i64 y) ∧ W.frozen? ⟨n + 2, 0, none⟩ = false ∧ RemB n b id y' (W.setCell ⟨n + 2, 0, none⟩ (.int .i64 y')) :=
  ⟨h.2.2.cell, h.2.2.frozen, (setCell_o _ (by omega)).trans h.1, (setCell_o _ (by omega)).trans h.2.1, h.2.2.set _⟩
theorem RemB.new (w : World) (b : Nat) (id y : Int) : RemB w.heap.size b id y (((w.alloc (.cells #[.pointer (some ⟨b, 0, none⟩)] 23)).alloc (.cells #[.int .i64 id] 3)).alloc (.cells #[.int .i64 y] 25)) ∧
    Below w.heap.size w (((w.alloc (.cells #[.pointer (some ⟨b, 0, none⟩)] 23)).alloc (.cells #[.int .i64 id] 3)).alloc (.cells #[.int .i64 y] 25)) := by
  refine ⟨⟨?_, ?_, ?_⟩, (((Below.refl _ w).alloc (Nat.le_refl _) _).alloc (by simp) _).alloc (by simp only [World.size_alloc]; omega) _⟩
  · rw [Below.heap_alloc _ _ _ (by simp only [World.size_alloc]; omega), Below.heap_alloc _ _ _ (by simp)]; exact World.alloc_heap_new w _
  · rw [Below.heap_alloc _ _ _ (by simp only [World.size_alloc]; omega)]
    have := World.alloc_heap_new (w.alloc (.cells #[.pointer (some ⟨b, 0, none⟩)] 23)) (.cells #[.int .i64 id] 3)
    rwa [World.size_alloc] at this
  · unfold Boxed
    have := World.alloc_heap_new ((w.alloc (.cells #[.pointer (some ⟨b, 0, none⟩)] 23)).alloc (.cells #[.int .i64 id] 3)) (.cells #[.int .i64 y] 25)
    rwa [World.size_alloc, World.size_alloc] at this
theorem rem_post {w W : World} {n b : Nat} {y : Int} {G : List GR} (hn : w.heap.size = n) (hb : Below n w W) (h : IsG w b G) : GPost b G w (W.setCell ⟨n + 2, 0, none⟩ (.int .i64 y)) := by
  subst hn
  refine GPost.below h (hb.trans ?_)
  exact ⟨rfl, rfl, rfl, by simp only [setCell_z]; exact Nat.le_refl _, fun k hk => setCell_o _ (by omega)⟩

/-- Its blocks. -/
def RemAll (n m b k : Nat) : Prop := k = n ∨ k = n + 1 ∨ k = n + 2 ∨ k = m ∨ k = m + 1 ∨ k = b
def RemI (n m b : Nat) (G : List GR) (id : Int) (W5 : World) (pre : List Nat) (A : Nat → Prop) (W : World) : Prop :=
  pre.any (inB G id) = false ∧ (∀ k, A k ↔ RemAll n m b k) ∧ ∀ k, RemAll n m b k → W.heap[k]? = W5.heap[k]?
def RemX (n m b : Nat) (G : List GR) (id : Int) (cd : Code) (pre : List Nat) (A : Nat → Prop) (W : World) : Prop :=
  cd = .ret ∧ (∀ k, A k ↔ RemAll n m b k) ∧ pre.any (inB G id) = true ∧ IsG W b G ∧ RemB n b id 4 W
theorem remI_loc (n m b : Nat) (G : List GR) (id : Int) (W5 : World) : Loc (RemI n m b G id W5) := by
  rintro s A X Y ⟨h1, h2, h3⟩ hs
  exact ⟨h1, h2, fun k hk => (hs k ((h2 k).2 hk)).trans (h3 k hk)⟩
theorem remX_loc (n m b : Nat) (G : List GR) (id : Int) (cd : Code) : Loc (RemX n m b G id cd) := by
  rintro s A X Y ⟨h1, h2, h3, h4, h5⟩ hs
  exact ⟨h1, h2, h3, h4.keep (hs b ((h2 b).2 (by simp [RemAll]))), h5.keep (fun k h6 h7 => hs k ((h2 k).2 (by unfold RemAll; omega)))⟩
theorem rem_trip {w w5 W : World} {n m b : Nat} {A2 : Nat → Prop} (hn : w.heap.size = n) (hm : n + 3 ≤ m) (hb5 : Below n w w5) (ht : Trip (RemAll n m b) w5 A2 W) (hb : b < n) : Trip (fun k => k = b) w (fun k => k = b) W := by
  have h1 := hb5.size
  have h2 := ht.size
  refine ⟨ht.os.trans hb5.os, ht.tape.trans hb5.tape, ht.output.trans hb5.output, by omega, fun k hk hn' => ?_, fun _ h => .inl h, by rintro k rfl; omega⟩
  exact (ht.block k (by omega) (fun h => by unfold RemAll at h; omega)).trans (hb5.block k (by omega))

set_option maxRecDepth 100000 in
set_option maxHeartbeats 2000000 in
theorem remove_c (b : Nat) (G : List GR) (id : Int) (w : World) (h : IsG w b G) :
    Calls Try.prog 10 #[.pointer (some ⟨b, 0, none⟩), .int .i64 id] w fun e w' => e = .returned (.int .i64 (remG G id).1) ∧ GPost b (remG G id).2 w w' := by
  obtain ⟨hB0, hba⟩ := RemB.new w b id 0
  have hg4 := h.below hba
  have hbl := h.lt
  have KH := Lib.hid ((has_c b G id _ hg4).mono (R' := fun e w' => e = .returned (.bool (hasG G id)) ∧ RemB w.heap.size b id 0 w' ∧ Below w.heap.size w w' ∧ w.heap.size + 3 ≤ w'.heap.size) (fun e w' ⟨h1, h2⟩ => by subst h2; exact ⟨h1, hB0, hba, by simp⟩))
  have HG := Lib.hid h
  obtain ⟨n, hn⟩ : ∃ n, w.heap.size = n := ⟨_, rfl⟩
  have HN := Lib.hid hn
  by_cases h0 : id = 0
  · subst h0
    rw [remG_zero]
    obtain ⟨hB1, hb1⟩ := RemB.new w b 0 1
    have H3 := Lib.hid hB1
    have HP := Lib.hid (GPost.below h hb1)
    rw [hn] at H3
    clear h hba hg4 hB0 hB1 hb1 KH
    go_enter Try.func10, Try.ntmps10
    go_wp2_with fail
    refine bodyPost_ret (rem_result _ (n + 2) 1 _ rfl H3.out.2.2.cell) rfl ?_
    exact ⟨rfl, HP.out⟩
  · cases hh : hasG G id with
    | false =>
      rw [hh, hn] at KH
      have HE := Lib.hid (remG_no h0 hh)
      clear h hba hg4 hB0 hh
      go_enter Try.func10, Try.ntmps10
      go_wp2_with (go_at_call 22; refine (KH.out).mono ?_; rintro e w4 ⟨rfl, h1, h2, _⟩; obtain ⟨f1, f2, f3⟩ := h1.set 2; have H2 := Lib.hid h2; have H5 := Lib.hid f3; clear h1 h2 f3)
      refine bodyPost_ret (rem_result _ (n + 2) 2 _ rfl H5.out.2.2.cell) rfl ?_
      rw [HE.out]
      exact ⟨rfl, rem_post hn H2.out HG.out⟩
    | true =>
      rw [hh, hn] at KH
      obtain ⟨u, uu, rfl, hux⟩ := hasG_yes hh
      have hul : u < 16 := by have := (List.getElem?_eq_some_iff.1 hux).1; rw [h.len] at this; exact this
      have HF0 := Lib.hid (remG_ok (G := G) (k := u) h0 hh)
      have HF1 := Lib.hid (remG_in (G := G) h0 hh)
      have HND := Lib.hid (fun (w5 : World) => numbers_c b true w5 w5.heap.size rfl)
      clear h hba hg4 hB0 hh
      refine (callsIn_wide (n := 0)).1 ?_
      refine callsIn_of_wp_marks Try.func10 rfl trivial ?_ rfl
      simp only [Try.ntmps10, List.size_toArray, List.length_cons, List.length_nil, Nat.reduceAdd, Nat.reduceSub, Array.replicate_succ, Array.replicate_zero, List.push_toArray, List.append_toArray, List.nil_append, List.cons_append]
      gi_wp2_with (first
        | (gi_at_call 22; refine (callsIn_wide.2 (KH.out)).mono ?_; rintro e w5 ⟨rfl, h1, h2, h3⟩; have c0 := h1.cg; have c1 := h1.ci; have H1 := Lib.hid h1; have H2 := Lib.hid h2; clear h1 h2)
        | (gi_at_call 23; refine (callsIn_wide.2 (HND.out w5)).mono ?_; rintro e w6 ⟨rfl, p1, p2, p3, p4⟩))
      obtain ⟨m, hm⟩ : ∃ m, w5.heap.size = m := ⟨_, rfl⟩
      have hb6 : Below n w w6 := H2.out.trans (p4.mono (by omega))
      have hB6 : RemB n b u 0 w6 := H1.out.keep (fun k h4 h5 => p4.block k (by omega))
      have hg6 : IsG w6 b G := by have := HG.out; subst hn; exact this.below hb6
      have HB6 := Lib.hid hb6
      have HA6 := Lib.hid hB6
      have HG6 := Lib.hid hg6
      rw [hm] at p1 p2 p3 h3
      simp only [hm]
      have hbn : b < n := by omega
      have hnm : n + 3 ≤ m := by omega
      clear hm p4 H1 H2 KH HND c0 c1 hb6 hB6 hg6 h3
      have hbd6 : ∀ k, RemAll n m b k → k < w6.heap.size := fun k hk => by unfold RemAll at hk; omega
      refine wpR3 (α := Nat) (gf := 27) (lb := #[.pointer (some ⟨m, 0, none⟩), .pointer (some ⟨m + 1, 0, none⟩)]) rfl (enters_of Try.func27 (by kernel_rfl) rfl)
        (nums1_gives m (m + 1) b true G w6 p1 p2 HG6.out) (fun _ => rfl) (RemAll n m b) ?hA (RemI n m b G u w6) ?hR (RemX n m b G u) (remI_loc _ _ _ _ _ _) (remX_loc _ _ _ _ _) ?h0
        (fun x => { tmps := #[.pointer (some ⟨b, 0, none⟩), .int .i64 u, .pointer (some ⟨n, 0, none⟩), .pointer (some ⟨n + 1, 0, none⟩), .pointer (some ⟨n + 1 + 1, 0, none⟩), .int .i64 x, undef, undef, .int .i64 u, .bool false, .pointer (some ⟨b, 0, none⟩), .int .i64 u, .bool true, .bool false, .pointer (some ⟨b, 0, none⟩),
          .func (.func 27) #[] #[.pointer (some ⟨m, 0, none⟩), .pointer (some ⟨m + 1, 0, none⟩)], .int .i64 x, undef, undef, undef, undef, undef, undef, undef, undef, undef, undef, undef, undef, undef, undef, undef, undef, undef, undef], defers := [] }) ?assign ?body ?done ?stop
      case hA => exact hbd6
      case hR =>
        rintro pre A1 W1 ⟨_, _, h5⟩ k hk
        have hk' : RemAll n m b k := by unfold RemAll; unfold NReads at hk; omega
        have h4 := h5 k hk'
        refine ⟨?_, h4⟩
        have hk5 := hbd6 k hk'
        rw [Array.getElem?_eq_getElem hk5] at h4
        exact (Array.getElem?_eq_some_iff.1 h4).1
      case h0 => exact ⟨rfl, fun _ => Iff.rfl, fun _ _ => rfl⟩
      case assign =>
        intro l x W K hK
        gi_wp2
        exact hK
      case body =>
        rintro l pre x A1 W ⟨hno, hA1, hW⟩ hpre hbd
        have hgW : IsG W b G := HG6.out.keep (hW b (by simp [RemAll]))
        have hBW : RemB n b u 0 W := HA6.out.keep (fun k h4 h5 => hW k (by unfold RemAll; omega))
        have c0 := hBW.cg
        have c1 := hBW.ci
        have KU := up_c b G x W hgW
        have hinB : inB G u x = ((upG G x).2 && ((upG G x).1 == (u : Int))) := rfl
        obtain ⟨⟨q, v⟩, hq⟩ : ∃ r, upG G x = r := ⟨_, rfl⟩
        rw [hq] at KU hinB
        simp only at KU hinB
        have KU' := Lib.hid KU
        by_cases hv : v = true ∧ q = (u : Int)
        · obtain ⟨rfl, rfl⟩ := hv
          obtain ⟨f1, f2, f3⟩ := hBW.set 4
          have HT1 := Lib.hid (show Trip A1 W A1 (W.setCell ⟨n + 2, 0, none⟩ (.int .i64 4)) from Trip.setAt _ hbd ((hA1 (n + 2)).2 (by simp [RemAll])))
          have HX1 := Lib.hid (show RemX n m b G u .ret (pre ++ [x]) A1 (W.setCell ⟨n + 2, 0, none⟩ (.int .i64 4)) from ⟨rfl, hA1, by simp [hinB], hgW.keep (setCell_o _ (by omega)), f3⟩)
          clear KU hinB hq hgW hBW f3 hno hA1 hW hpre hbd p1 p2
          gi_wp2_with (gi_at_call 11; refine (CallsIn.inRound l (callsIn_wide.2 (KU'.out))).mono ?_; rintro e w' ⟨rfl, rfl⟩)
          exact ⟨A1, HT1.out, HX1.out⟩
        · have hb0 : inB G u x = false := by
            rw [hinB]
            cases v with
            | false => rfl
            | true => simp at hv ⊢; exact hv
          have HT1 := Lib.hid (show Trip A1 W A1 W from Trip.refl hbd)
          have HX1 := Lib.hid (show RemI n m b G u w6 (pre ++ [x]) A1 W from ⟨by rw [List.any_append, hno]; simp [hb0], hA1, hW⟩)
          cases v with
          | false =>
            clear KU hinB hq hgW hBW hno hA1 hW hpre hbd p1 p2 hb0 hv
            gi_wp2_with (gi_at_call 11; refine (CallsIn.inRound l (callsIn_wide.2 (KU'.out))).mono ?_; rintro e w' ⟨rfl, rfl⟩)
            exact ⟨A1, HT1.out, HX1.out⟩
          | true =>
            have hqu : (q == (u : Int)) = false := by simp at hv ⊢; exact hv
            have hqu' : ¬ q = (u : Int) := by simpa using hv
            clear KU hinB hq hgW hBW hno hA1 hW hpre hbd p1 p2 hb0 hv
            gi_wp2_with (gi_at_call 11; refine (CallsIn.inRound l (callsIn_wide.2 (KU'.out))).mono ?_; rintro e w' ⟨rfl, rfl⟩)
            exact ⟨A1, HT1.out, HX1.out⟩
      case done =>
        rintro D A2 W ht hnD hD ⟨hno, hA2, hW⟩ hK
        have hgW : IsG W b G := HG6.out.keep (hW b (by simp [RemAll]))
        have hBW : RemB n b u 0 W := HA6.out.keep (fun k h4 h5 => hW k (by unfold RemAll; omega))
        have c0 := hBW.cg
        have c1 := hBW.ci
        have hDn : m + 2 ≤ D := by omega
        obtain ⟨W', hW', hgW', hBW', ht0, hK'⟩ : ∃ W', W.drew = W' ∧ IsG W' b G ∧ RemB n b u 0 W' ∧ Trip (RemAll n m b) w6 A2 W' ∧ W'.heap[D]? = some (.deferred (some [])) :=
          ⟨_, rfl, ⟨hgW.box, hgW.len⟩, hBW, ht.drew, hK⟩
        have d0 := hgW'.c0 hux
        have d1 := hgW'.c1 hux
        simp only at d0 d1
        have g0 := hgW'.frozen (u * 2)
        have g1 := hgW'.frozen (u * 2 + 1)
        have P1 := hgW'.set u 0 false
        have hB2 : RemB n b u 0 ((W'.setCell ⟨b, u * 2, none⟩ (.int .i64 (0 : Nat))).setCell ⟨b, u * 2 + 1, none⟩ (.bool false)) := hBW'.keep (fun k h4 h5 => (setCell_o _ (by omega)).trans (setCell_o _ (by omega)))
        obtain ⟨f1, f2, f3⟩ := hB2.set 0
        have T1 := ht0.trans (((Trip.setAt (r := b) (i := u * 2) (.int .i64 (0 : Nat)) ht0.bd ((hA2 b).2 (by simp [RemAll]))).trans (Trip.setAt (r := b) (i := u * 2 + 1) (.bool false) (fun k hk => by rw [setCell_z]; exact ht0.bd k hk) ((hA2 b).2 (by simp [RemAll])))).trans
          (Trip.setAt (r := n + 2) (i := 0) (.int .i64 0) (fun k hk => by rw [setCell_z, setCell_z]; exact ht0.bd k hk) ((hA2 (n + 2)).2 (by simp [RemAll]))))
        have HT1 := Lib.hid (T1.putObj hD (.deferred none))
        have HG1 := Lib.hid (P1.1.keep (setCell_o (r := n + 2) (i := 0) (.int .i64 0) (show b ≠ n + 2 by omega)))
        have HB1 := Lib.hid f3
        have HK2 := Lib.hid (show (((W'.setCell ⟨b, u * 2, none⟩ (.int .i64 (0 : Nat))).setCell ⟨b, u * 2 + 1, none⟩ (.bool false)).setCell ⟨n + 2, 0, none⟩ (.int .i64 0)).heap[D]? = some (.deferred (some [])) from ((setCell_o _ (by omega)).trans ((setCell_o _ (by omega)).trans (setCell_o _ (by omega)))).trans hK')
        have HE := Lib.hid (HF0.out hno)
        have HW' := Lib.hid hW'
        have hx0 : (0 : Int) ≤ (u : Int) := by omega
        have hx1 : (u : Int) < 16 := by omega
        clear ht hA2 hW hK hno p1 p2 T1 f3 hgW hBW hB2 P1 hW' hgW' hBW' ht0 hK' hux
        simp only [Int.natCast_zero] at *
        gi_wp2
        refine wpIn_region_still_tail 6 (by kernel_rfl) (by kernel_rfl) (by kernel_rfl) ?_
        simp only [List.take_succ_cons, List.take_zero, List.drop_succ_cons, List.drop_zero]
        repeat still_step
        refine wpStill_nil ?_
        change wpList _ _ _ _ _ W.drew
        rw [HW'.out]
        go_wp2_with fail
        simp only [onlyNormal]
        gi_wp2
        refine ⟨by simp, .inl ⟨_, _, rfl, run_takeDeferred HK2.out, ?_⟩⟩
        refine ⟨_, rem_result _ (n + 2) 0 _ rfl ?_, by rw [HE.out], ?_⟩
        · exact (cells_of (World.putObj_heap_other (by omega)) 0).trans HB1.out.2.2.cell
        · rw [HE.out]
          exact ⟨HG1.out.keep (World.putObj_heap_other (by omega)), rem_trip HN.out hnm HB6.out HT1.out hbn⟩
      case stop =>
        rintro D cd pre A2 W ht hnD hD hpre ⟨rfl, hA2, hyes, hgW, hBW⟩ hK
        obtain ⟨r, hr⟩ := hpre
        have HE := Lib.hid (HF1.out (by rw [← hr, List.any_append, hyes]; rfl))
        have HT1 := Lib.hid (ht.putObj hD (.deferred none))
        have hDn : m + 2 ≤ D := by omega
        clear hr ht hA2 p1 p2 hyes
        gi_wp2
        refine ⟨by simp, .inl ⟨_, _, rfl, run_takeDeferred hK, ?_⟩⟩
        refine ⟨_, rem_result _ (n + 2) 4 _ rfl ?_, by rw [HE.out], ?_⟩
        · exact (cells_of (World.putObj_heap_other (by omega)) 0).trans hBW.2.2.cell
        · rw [HE.out]
          exact ⟨hgW.keep (World.putObj_heap_other (by omega)), rem_trip HN.out hnm HB6.out HT1.out hbn⟩
end Go.Proofs.Ytbhcooomdjhoiaa
