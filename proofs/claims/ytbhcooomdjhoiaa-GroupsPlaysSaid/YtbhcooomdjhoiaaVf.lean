/- Groups: Add. -/
import Derived.Test.YtbhcooomdjhoiaaVe
import Derived.Test.YtbhcooomdjhoiaaStl
namespace Go.Proofs.Ytbhcooomdjhoiaa
open Go.RowKit Go.Shelf
attribute [local go_sem] Oper.semAt_some wide_fn wide_depth

/-- Add's answer, and what there is then. -/
def addG (G : List GR) (up : Int) : Int × Int × List GR :=
  if hasG G up = false then (0, 2, G)
  else if 4 ≤ (chI G up).length then (0, 6, G)
  else match numsL G false with
    | [] => (0, 3, G)
    | k :: _ => ((k : Int), 0, G.set k (up.toNat, true))
theorem addG_id {G : List GR} {up : Int} (h : hasG G up = false) : addG G up = (0, 2, G) := by unfold addG; rw [if_pos h]
theorem addG_deep {G : List GR} {up : Int} (h : hasG G up = true) (h2 : 4 ≤ (chI G up).length) : addG G up = (0, 6, G) := by unfold addG; rw [if_neg (by rw [h]; simp), if_pos h2]
theorem addG_full {G : List GR} {up : Int} (h : hasG G up = true) (h2 : ¬ 4 ≤ (chI G up).length) (h3 : numsL G false = []) : addG G up = (0, 3, G) := by
  unfold addG; rw [if_neg (by rw [h]; simp), if_neg h2, h3]
theorem addG_ok {G : List GR} {k u : Nat} {r : List Nat} (h : hasG G (u : Int) = true) (h2 : ¬ 4 ≤ (chI G (u : Int)).length) (h3 : numsL G false = k :: r) : addG G u = ((k : Int), 0, G.set k (u, true)) := by
  unfold addG; rw [if_neg (by rw [h]; simp), if_neg h2, h3]; rfl

/-- A call that turned the groups' block alone. -/
def GPost (b : Nat) (G : List GR) (w w' : World) : Prop := IsG w' b G ∧ Trip (fun k => k = b) w (fun k => k = b) w'
theorem GPost.refl {b : Nat} {G : List GR} {w : World} (h : IsG w b G) : GPost b G w w := ⟨h, Trip.refl (by rintro k rfl; exact h.lt)⟩
theorem GPost.below {b : Nat} {G : List GR} {w w' : World} (h : IsG w b G) (hb : Below w.heap.size w w') : GPost b G w w' :=
  ⟨h.below hb, ⟨hb.os, hb.tape, hb.output, hb.size, fun k hk _ => hb.block k hk, fun _ h => .inl h, by rintro k rfl; have := h.lt; have := hb.size; omega⟩⟩
theorem IsG.set {w : World} {b : Nat} {G : List GR} (h : IsG w b G) (k u : Nat) (c : Bool) : GPost b (G.set k (u, c)) w ((w.setCell ⟨b, k * 2, none⟩ (.int .i64 u)).setCell ⟨b, k * 2 + 1, none⟩ (.bool c)) := by
  refine ⟨⟨?_, by rw [List.length_set]; exact h.len⟩, (Trip.setAt (A := fun k => k = b) (.int .i64 u) (i := k * 2) (by rintro k rfl; exact h.lt) rfl).trans (Trip.setAt (A := fun k => k = b) (.bool c) (i := k * 2 + 1) (by rintro k rfl; rw [setCell_z]; exact h.lt) rfl)⟩
  rw [setCell_s _ (setCell_s _ h.box), flatG_set]; simp

theorem add_result (tmps : Array Value) (B C : Nat) (x y : Int) (w : World) (h2 : tmps.getD 4 undef = .pointer (some ⟨B, 0, none⟩)) (h3 : tmps.getD 5 undef = .pointer (some ⟨C, 0, none⟩)) (hx : w.cell? ⟨B, 0, none⟩ = some (.int .i64 x)) (hy : w.cell? ⟨C, 0, none⟩ = some (.int .i64 y)) :
    (results Try.f9 tmps).run Try.prog w = .ok (.tuple #[.int .i64 x, .int .i64 y]) w := by
  have h2' : tmps[4]?.getD undef = .pointer (some ⟨B, 0, none⟩) := by simpa using h2
  have h3' : tmps[5]?.getD undef = .pointer (some ⟨C, 0, none⟩) := by simpa using h3
  simp [results, Try.f9, go_sem, hx, hy, h2', h3']

/-- The four boxes of the call. -/
def AddB (n b : Nat) (up : Int) (x y : Int) (W : World) : Prop :=
  W.heap[n]? = some (.cells #[.pointer (some ⟨b, 0, none⟩)] 23 (0, 0)) ∧ W.heap[n + 1]? = some (.cells #[.int .i64 up] 3 (0, 0)) ∧ Boxed W (n + 2) 3 (.int .i64 x) ∧ Boxed W (n + 3) 25 (.int .i64 y)
theorem AddB.keep {n b : Nat} {up x y : Int} {W W' : World} (h : AddB n b up x y W) (hk : ∀ k, n ≤ k → k < n + 4 → W'.heap[k]? = W.heap[k]?) : AddB n b up x y W' :=
  ⟨(hk n (by omega) (by omega)).trans h.1, (hk (n + 1) (by omega) (by omega)).trans h.2.1, (hk (n + 2) (by omega) (by omega)).trans h.2.2.1, (hk (n + 3) (by omega) (by omega)).trans h.2.2.2⟩
theorem AddB.lt {n b : Nat} {up x y : Int} {W : World} (h : AddB n b up x y W) : n + 3 < W.heap.size := h.2.2.2.lt
theorem AddB.cg {n b : Nat} {up x y : Int} {W : World} (h : AddB n b up x y W) : W.cell? ⟨n, 0, none⟩ = some (.pointer (some ⟨b, 0, none⟩)) := by simp [World.cell?, h.1]
theorem AddB.cu {n b : Nat} {up x y : Int} {W : World} (h : AddB n b up x y W) : W.cell? ⟨n + 1, 0, none⟩ = some (.int .i64 up) := by simp [World.cell?, h.2.1]
theorem AddB.new (w : World) (b : Nat) (up : Int) : AddB w.heap.size b up 0 0 ((((w.alloc (.cells #[.pointer (some ⟨b, 0, none⟩)] 23)).alloc (.cells #[.int .i64 up] 3)).alloc (.cells #[.int .i64 0] 3)).alloc (.cells #[.int .i64 0] 25)) ∧
    Below w.heap.size w ((((w.alloc (.cells #[.pointer (some ⟨b, 0, none⟩)] 23)).alloc (.cells #[.int .i64 up] 3)).alloc (.cells #[.int .i64 0] 3)).alloc (.cells #[.int .i64 0] 25)) := by
  refine ⟨⟨?_, ?_, ?_, ?_⟩, ((((Below.refl _ w).alloc (Nat.le_refl _) _).alloc (by simp) _).alloc (by simp only [World.size_alloc]; omega) _).alloc (by simp only [World.size_alloc]; omega) _⟩
  · rw [Below.heap_alloc _ _ _ (by simp only [World.size_alloc]; omega), Below.heap_alloc _ _ _ (by simp only [World.size_alloc]; omega), Below.heap_alloc _ _ _ (by simp)]; exact World.alloc_heap_new w _
  · rw [Below.heap_alloc _ _ _ (by simp only [World.size_alloc]; omega), Below.heap_alloc _ _ _ (by simp only [World.size_alloc]; omega)]
    have := World.alloc_heap_new (w.alloc (.cells #[.pointer (some ⟨b, 0, none⟩)] 23)) (.cells #[.int .i64 up] 3)
    rwa [World.size_alloc] at this
  · unfold Boxed
    rw [Below.heap_alloc _ _ _ (by simp only [World.size_alloc]; omega)]
    have := World.alloc_heap_new ((w.alloc (.cells #[.pointer (some ⟨b, 0, none⟩)] 23)).alloc (.cells #[.int .i64 up] 3)) (.cells #[.int .i64 0] 3)
    rwa [World.size_alloc, World.size_alloc] at this
  · unfold Boxed
    have := World.alloc_heap_new (((w.alloc (.cells #[.pointer (some ⟨b, 0, none⟩)] 23)).alloc (.cells #[.int .i64 up] 3)).alloc (.cells #[.int .i64 0] 3)) (.cells #[.int .i64 0] 25)
    rwa [World.size_alloc, World.size_alloc, World.size_alloc] at this

/-- Its blocks. -/
def AddAll (n m b k : Nat) : Prop := k = n ∨ k = n + 1 ∨ k = n + 2 ∨ k = n + 3 ∨ k = m ∨ k = m + 1 ∨ k = b
def AddI (n m b : Nat) (W5 : World) (pre : List Nat) (A : Nat → Prop) (W : World) : Prop :=
  pre = [] ∧ (∀ k, A k ↔ AddAll n m b k) ∧ ∀ k, AddAll n m b k → W.heap[k]? = W5.heap[k]?
def AddX (n m b : Nat) (G : List GR) (u : Nat) (cd : Code) (pre : List Nat) (A : Nat → Prop) (W : World) : Prop :=
  cd = .ret ∧ (∀ k, A k ↔ AddAll n m b k) ∧ ∃ x : Nat, pre = [x] ∧ IsG W b (G.set x (u, true)) ∧ AddB n b u x 0 W
theorem addI_loc (n m b : Nat) (W5 : World) : Loc (AddI n m b W5) := by
  rintro s A X Y ⟨h1, h2, h3⟩ hs
  exact ⟨h1, h2, fun k hk => (hs k ((h2 k).2 hk)).trans (h3 k hk)⟩
theorem addX_loc (n m b : Nat) (G : List GR) (u : Nat) (cd : Code) : Loc (AddX n m b G u cd) := by
  rintro s A X Y ⟨h1, h2, x, h3, h4, h5⟩ hs
  exact ⟨h1, h2, x, h3, h4.keep (hs b ((h2 b).2 (by simp [AddAll]))), h5.keep (fun k h6 h7 => hs k ((h2 k).2 (by unfold AddAll; omega)))⟩
theorem add_trip {w w5 W : World} {n m b : Nat} {A2 : Nat → Prop} (hn : w.heap.size = n) (hm : n + 4 ≤ m) (hb5 : Below n w w5) (ht : Trip (AddAll n m b) w5 A2 W) (hb : b < n) : Trip (fun k => k = b) w (fun k => k = b) W := by
  have h1 := hb5.size
  have h2 := ht.size
  refine ⟨ht.os.trans hb5.os, ht.tape.trans hb5.tape, ht.output.trans hb5.output, by omega, fun k hk hn' => ?_, fun _ h => .inl h, by rintro k rfl; omega⟩
  exact (ht.block k (by omega) (fun h => by unfold AddAll at h; omega)).trans (hb5.block k (by omega))

/-- The call's end: two numbers into their boxes. -/
theorem AddB.fin {n b : Nat} {up x y : Int} {W : World} (h : AddB n b up x y W) (x' y' : Int) :
    W.cell? ⟨n + 2, 0, none⟩ = some (.int .i64 x) ∧ W.frozen? ⟨n + 2, 0, none⟩ = false ∧ (W.setCell ⟨n + 2, 0, none⟩ (.int .i64 x')).cell? ⟨n + 3, 0, none⟩ = some (.int .i64 y) ∧ (W.setCell ⟨n + 2, 0, none⟩ (.int .i64 x')).frozen? ⟨n + 3, 0, none⟩ = false ∧
    AddB n b up x' y' ((W.setCell ⟨n + 2, 0, none⟩ (.int .i64 x')).setCell ⟨n + 3, 0, none⟩ (.int .i64 y')) := by
  have b3 : Boxed (W.setCell ⟨n + 2, 0, none⟩ (.int .i64 x')) (n + 3) 25 (.int .i64 y) := (setCell_o _ (by omega)).trans h.2.2.2
  refine ⟨h.2.2.1.cell, h.2.2.1.frozen, b3.cell, b3.frozen, ?_, ?_, ?_, b3.set _⟩
  · exact ((setCell_o _ (by omega)).trans (setCell_o _ (by omega))).trans h.1
  · exact ((setCell_o _ (by omega)).trans (setCell_o _ (by omega))).trans h.2.1
  · exact (setCell_o _ (by omega)).trans (h.2.2.1.set _)
theorem add_post {w W : World} {n b : Nat} {x y : Int} {G : List GR} (hn : w.heap.size = n) (hb : Below n w W) (h : IsG w b G) : GPost b G w ((W.setCell ⟨n + 2, 0, none⟩ (.int .i64 x)).setCell ⟨n + 3, 0, none⟩ (.int .i64 y)) := by
  subst hn
  refine GPost.below h (hb.trans ?_)
  exact ⟨rfl, rfl, rfl, by simp only [setCell_z]; exact Nat.le_refl _, fun k hk => (setCell_o _ (by omega)).trans (setCell_o _ (by omega))⟩

set_option maxRecDepth 100000 in
set_option maxHeartbeats 2000000 in
theorem add_c (b : Nat) (G : List GR) (up : Int) (w : World) (h : IsG w b G) (hw : WfG G) :
    Calls Try.prog 9 #[.pointer (some ⟨b, 0, none⟩), .int .i64 up] w fun e w' => e = .returned (.tuple #[.int .i64 (addG G up).1, .int .i64 (addG G up).2.1]) ∧ GPost b (addG G up).2.2 w w' := by
  obtain ⟨hB0, hba⟩ := AddB.new w b up
  have hg4 := h.below hba
  have hbl := h.lt
  have KH := Lib.hid ((has_c b G up _ hg4).mono (R' := fun e w' => e = .returned (.bool (hasG G up)) ∧ AddB w.heap.size b up 0 0 w' ∧ Below w.heap.size w w') (fun e w' ⟨h1, h2⟩ => by subst h2; exact ⟨h1, hB0, hba⟩))
  have HG := Lib.hid h
  obtain ⟨n, hn⟩ : ∃ n, w.heap.size = n := ⟨_, rfl⟩
  have HN := Lib.hid hn
  cases hh : hasG G up with
  | false =>
    rw [hh] at KH
    rw [hn] at KH
    have HE := Lib.hid (addG_id hh)
    clear h hw hba hg4 hB0 hh
    go_enter Try.func9, Try.ntmps9
    go_wp2_with (go_at_call 22; refine (KH.out).mono ?_; rintro e w4 ⟨rfl, h1, h2⟩; obtain ⟨f1, f2, f3, f4, f5⟩ := h1.fin 0 2; have H2 := Lib.hid h2; have H5 := Lib.hid f5; clear h1 h2 f5)
    refine bodyPost_ret (add_result _ (n + 2) (n + 3) 0 2 _ rfl rfl H5.out.2.2.1.cell H5.out.2.2.2.cell) rfl ?_
    rw [HE.out]
    exact ⟨rfl, add_post hn H2.out HG.out⟩
  | true =>
    rw [hh] at KH
    rw [hn] at KH
    have KD := Lib.hid (fun (w4 : World) (h1 : AddB n b up 0 0 w4) (h2 : Below n w w4) => (depth_c b G up w4 (by subst hn; exact h.below h2) hw).mono (R' := fun e w' => e = .returned (.int .i64 (chI G up).length) ∧ AddB n b up 0 0 w' ∧ Below n w w' ∧ n + 4 ≤ w'.heap.size) (fun e w' ⟨h3, h4⟩ => ⟨h3, h1.keep (fun k h5 h6 => h4.block k (by have := h1.lt; omega)), h2.trans (h4.mono (by have := h2.size; omega)), by have := h4.size; have := h1.lt; omega⟩))
    by_cases hd : 4 ≤ (chI G up).length
    · have HE := Lib.hid (addG_deep hh hd)
      obtain ⟨q, hq⟩ : ∃ q, (chI G up).length = q := ⟨_, rfl⟩
      have hq4 : q ≤ 4 := by rw [← hq]; exact hw.len_ch up
      rw [hq] at hd KD
      clear h hw hba hg4 hB0 hh hq
      go_enter Try.func9, Try.ntmps9
      go_wp2_with (first
        | (go_at_call 22; refine (KH.out).mono ?_; rintro e w4 ⟨rfl, h1, h2⟩; have c0 := h1.cg; have c1 := h1.cu; have H1 := Lib.hid h1; have H2 := Lib.hid h2; clear h1 h2)
        | (go_at_call 13; refine (KD.out _ H1.out H2.out).mono ?_; rintro e w5 ⟨rfl, h1, h2, _⟩; obtain ⟨f1, f2, f3, f4, f5⟩ := h1.fin 0 6; have H3 := Lib.hid h2; have H5 := Lib.hid f5; clear h1 h2 f5))
      refine bodyPost_ret (add_result _ (n + 2) (n + 3) 0 6 _ rfl rfl H5.out.2.2.1.cell H5.out.2.2.2.cell) rfl ?_
      rw [HE.out]
      exact ⟨rfl, add_post hn H3.out HG.out⟩
    · obtain ⟨u, uu, rfl, hux⟩ := hasG_yes hh
      have HF0 := Lib.hid (addG_full hh hd)
      have HF1 := Lib.hid (fun k r => addG_ok (k := k) (r := r) hh hd)
      obtain ⟨q, hq⟩ : ∃ q, (chI G u).length = q := ⟨_, rfl⟩
      have hq4 : q ≤ 4 := by rw [← hq]; exact hw.len_ch u
      rw [hq] at hd KD
      have HND := Lib.hid (fun (w5 : World) => numbers_c b false w5 w5.heap.size rfl)
      clear h hw hba hg4 hB0 hh hq hux
      refine (callsIn_wide (n := 0)).1 ?_
      refine callsIn_of_wp_marks Try.func9 rfl trivial ?_ rfl
      simp only [Try.ntmps9, List.size_toArray, List.length_cons, List.length_nil, Nat.reduceAdd, Nat.reduceSub, Array.replicate_succ, Array.replicate_zero, List.push_toArray, List.append_toArray, List.nil_append, List.cons_append]
      gi_wp2_with (first
        | (gi_at_call 22; refine (callsIn_wide.2 (KH.out)).mono ?_; rintro e w4 ⟨rfl, h1, h2⟩; have c0 := h1.cg; have c1 := h1.cu; have H1 := Lib.hid h1; have H2 := Lib.hid h2; clear h1 h2)
        | (gi_at_call 13; refine (callsIn_wide.2 (KD.out _ H1.out H2.out)).mono ?_; rintro e w5 ⟨rfl, h1, h2, h3⟩; clear c0 c1; have c0 := h1.cg; have c1 := h1.cu; clear H1 H2; have H1 := Lib.hid h1; have H2 := Lib.hid h2; clear h1 h2)
        | (gi_at_call 23; refine (callsIn_wide.2 (HND.out w5)).mono ?_; rintro e w6 ⟨rfl, p1, p2, p3, p4⟩))
      obtain ⟨m, hm⟩ : ∃ m, w5.heap.size = m := ⟨_, rfl⟩
      have hb6 : Below n w w6 := H2.out.trans (p4.mono (by omega))
      have hB6 : AddB n b u 0 0 w6 := H1.out.keep (fun k h4 h5 => p4.block k (by omega))
      have hg6 : IsG w6 b G := by have := HG.out; subst hn; exact this.below hb6
      have HB6 := Lib.hid hb6
      have HA6 := Lib.hid hB6
      have HG6 := Lib.hid hg6
      rw [hm] at p1 p2 p3 h3
      simp only [hm]
      have hbn : b < n := by omega
      clear hm p4 H1 H2 KH KD HND c0 c1 hb6 hB6 hg6
      have hbd6 : ∀ k, AddAll n m b k → k < w6.heap.size := fun k hk => by unfold AddAll at hk; omega
      refine wpR3 (α := Nat) (gf := 27) (lb := #[.pointer (some ⟨m, 0, none⟩), .pointer (some ⟨m + 1, 0, none⟩)]) rfl (enters_of Try.func27 (by kernel_rfl) rfl)
        (nums1_gives m (m + 1) b false G w6 p1 p2 HG6.out) (fun _ => rfl) (AddAll n m b) ?hA (AddI n m b w6) ?hR (AddX n m b G u) (addI_loc _ _ _ _) (addX_loc _ _ _ _ _) ?h0
        (fun x => { tmps := #[.pointer (some ⟨b, 0, none⟩), .int .i64 u, .pointer (some ⟨n, 0, none⟩), .pointer (some ⟨n + 1, 0, none⟩), .pointer (some ⟨n + 1 + 1, 0, none⟩), .pointer (some ⟨n + 1 + 1 + 1, 0, none⟩), .int .i64 x, .pointer (some ⟨b, 0, none⟩), .int .i64 u, .bool true, .bool false, .pointer (some ⟨b, 0, none⟩), .int .i64 u, .int .i64 q, .bool (decide (4 ≤ (q : Int))), .pointer (some ⟨b, 0, none⟩),
          .func (.func 27) #[] #[.pointer (some ⟨m, 0, none⟩), .pointer (some ⟨m + 1, 0, none⟩)], .int .i64 x, undef, undef, undef, undef, undef, undef, undef, undef], defers := [] }) ?assign ?body ?done ?stop
      case hA => exact hbd6
      case hR =>
        rintro pre A1 W1 ⟨_, _, h5⟩ k hk
        have hk' : AddAll n m b k := by unfold AddAll; unfold NReads at hk; omega
        have h4 := h5 k hk'
        refine ⟨?_, h4⟩
        have hk5 := hbd6 k hk'
        rw [Array.getElem?_eq_getElem hk5] at h4
        exact (Array.getElem?_eq_some_iff.1 h4).1
      case h0 => exact ⟨rfl, fun _ => Iff.rfl, fun _ _ => rfl⟩
      case assign =>
        intro l x W K hK
        gi_wp2
        exact hK
      case body =>
        rintro l pre x A1 W ⟨rfl, hA1, hW⟩ hpre hbd
        obtain ⟨t, hx⟩ := mem_numsL (S := G) (c := false) (k := x) (by obtain ⟨r, hr⟩ := hpre; rw [← hr]; simp)
        have hxl : x < 16 := by have := (List.getElem?_eq_some_iff.1 hx).1; rw [HG6.out.len] at this; exact this
        have hgW : IsG W b G := HG6.out.keep (hW b (by simp [AddAll]))
        have hBW : AddB n b u 0 0 W := HA6.out.keep (fun k h4 h5 => hW k (by unfold AddAll; omega))
        have c0 := hBW.cg
        have c1 := hBW.cu
        obtain ⟨W', hW', hgW', hBW', ht0, hbd'⟩ : ∃ W', W.drew = W' ∧ IsG W' b G ∧ AddB n b u 0 0 W' ∧ Trip A1 W A1 W' ∧ ∀ k, A1 k → k < W'.heap.size :=
          ⟨_, rfl, ⟨hgW.box, hgW.len⟩, hBW, (Trip.refl hbd).drew, hbd⟩
        have d0 := hgW'.c0 hx
        have d1 := hgW'.c1 hx
        simp only at d0 d1
        have g0 := hgW'.frozen (x * 2)
        have g1 := hgW'.frozen (x * 2 + 1)
        have P1 := hgW'.set x u true
        have hB2 : AddB n b u 0 0 ((W'.setCell ⟨b, x * 2, none⟩ (.int .i64 u)).setCell ⟨b, x * 2 + 1, none⟩ (.bool true)) := hBW'.keep (fun k h4 h5 => (setCell_o _ (by omega)).trans (setCell_o _ (by omega)))
        obtain ⟨f1, f2, f3, f4, f5⟩ := hB2.fin x 0
        have T1 : Trip A1 W A1 ((((W'.setCell ⟨b, x * 2, none⟩ (.int .i64 u)).setCell ⟨b, x * 2 + 1, none⟩ (.bool true)).setCell ⟨n + 2, 0, none⟩ (.int .i64 x)).setCell ⟨n + 3, 0, none⟩ (.int .i64 0)) :=
          ht0.trans ((((Trip.setAt _ hbd' ((hA1 b).2 (by simp [AddAll]))).trans (Trip.setAt _ (fun k hk => by rw [setCell_z]; exact hbd' k hk) ((hA1 b).2 (by simp [AddAll])))).trans
            (Trip.setAt _ (fun k hk => by rw [setCell_z, setCell_z]; exact hbd' k hk) ((hA1 (n + 2)).2 (by simp [AddAll])))).trans (Trip.setAt _ (fun k hk => by rw [setCell_z, setCell_z, setCell_z]; exact hbd' k hk) ((hA1 (n + 3)).2 (by simp [AddAll]))))
        have X1 : AddX n m b G u .ret [x] A1 ((((W'.setCell ⟨b, x * 2, none⟩ (.int .i64 u)).setCell ⟨b, x * 2 + 1, none⟩ (.bool true)).setCell ⟨n + 2, 0, none⟩ (.int .i64 x)).setCell ⟨n + 3, 0, none⟩ (.int .i64 0)) :=
          ⟨rfl, hA1, x, rfl, P1.1.keep ((setCell_o _ (by omega)).trans (setCell_o _ (by omega))), f5⟩
        have HT1 := Lib.hid T1
        have HX1 := Lib.hid X1
        have HW' := Lib.hid hW'
        clear T1 X1 P1 hB2 f5 hgW hBW hA1 hW hx hpre hbd p1 p2 hd hq4 hW' hgW' hBW' ht0 hbd'
        have hx0 : (0 : Int) ≤ (x : Int) := by omega
        have hx1 : (x : Int) < 16 := by omega
        gi_wp2
        refine wpIn_region_still_tail 7 (by kernel_rfl) (by kernel_rfl) (by kernel_rfl) ?_
        simp only [List.take_succ_cons, List.take_zero, List.drop_succ_cons, List.drop_zero]
        repeat still_step
        refine wpStill_nil ?_
        change wpList _ _ _ _ _ W.drew
        rw [HW'.out]
        go_wp2_with fail
        simp only [onlyNormal]
        gi_wp2
        exact ⟨A1, HT1.out, HX1.out⟩
      case done =>
        rintro D A2 W ht hnD hD ⟨hx, hA2, hW⟩ hK
        have hBW : AddB n b u 0 0 W := HA6.out.keep (fun k h4 h5 => hW k (by unfold AddAll; omega))
        obtain ⟨f1, f2, f3, f4, f5⟩ := hBW.fin 0 3
        have hDn : m + 2 ≤ D := by omega
        have hgW : IsG ((W.setCell ⟨n + 2, 0, none⟩ (.int .i64 0)).setCell ⟨n + 3, 0, none⟩ (.int .i64 3)) b G := HG6.out.keep (((setCell_o _ (by omega)).trans (setCell_o _ (by omega))).trans (hW b (by simp [AddAll])))
        have T1 := ht.trans ((Trip.setAt (r := n + 2) (i := 0) (.int .i64 0) ht.bd ((hA2 _).2 (by simp [AddAll]))).trans (Trip.setAt (r := n + 3) (i := 0) (.int .i64 3) (fun k hk => by rw [setCell_z]; exact ht.bd k hk) ((hA2 _).2 (by simp [AddAll]))))
        have HE := Lib.hid (HF0.out hx)
        have HT1 := Lib.hid (T1.putObj hD (.deferred none))
        have H5 := Lib.hid f5
        have HGW := Lib.hid hgW
        have HK2 := Lib.hid (show ((W.setCell ⟨n + 2, 0, none⟩ (.int .i64 0)).setCell ⟨n + 3, 0, none⟩ (.int .i64 3)).heap[D]? = some (.deferred (some [])) from ((setCell_o _ (by omega)).trans (setCell_o _ (by omega))).trans hK)
        clear ht hA2 hW hK hx p1 p2 T1 f5 hgW hBW
        gi_wp2
        refine ⟨by simp, .inl ⟨_, _, rfl, run_takeDeferred HK2.out, ?_⟩⟩
        refine ⟨_, add_result _ (n + 2) (n + 3) 0 3 _ rfl rfl ?_ ?_, by rw [HE.out], ?_⟩
        · exact (cells_of (World.putObj_heap_other (by omega)) 0).trans H5.out.2.2.1.cell
        · exact (cells_of (World.putObj_heap_other (by omega)) 0).trans H5.out.2.2.2.cell
        · rw [HE.out]
          exact ⟨HGW.out.keep (World.putObj_heap_other (by omega)), add_trip HN.out h3 HB6.out HT1.out hbn⟩
      case stop =>
        rintro D cd pre A2 W ht hnD hD hpre ⟨rfl, hA2, x, rfl, hgW, hBW⟩ hK
        obtain ⟨r, hr⟩ := hpre
        have HE := Lib.hid (HF1.out x r (by rw [← hr]; rfl))
        have HT1 := Lib.hid (ht.putObj hD (.deferred none))
        have hDn : m + 2 ≤ D := by omega
        clear hr ht hA2 p1 p2
        gi_wp2
        refine ⟨by simp, .inl ⟨_, _, rfl, run_takeDeferred hK, ?_⟩⟩
        refine ⟨_, add_result _ (n + 2) (n + 3) x 0 _ rfl rfl ?_ ?_, by rw [HE.out], ?_⟩
        · exact (cells_of (World.putObj_heap_other (by omega)) 0).trans hBW.2.2.1.cell
        · exact (cells_of (World.putObj_heap_other (by omega)) 0).trans hBW.2.2.2.cell
        · rw [HE.out]
          exact ⟨hgW.keep (World.putObj_heap_other (by omega)), add_trip HN.out h3 HB6.out HT1.out hbn⟩
end Go.Proofs.Ytbhcooomdjhoiaa
