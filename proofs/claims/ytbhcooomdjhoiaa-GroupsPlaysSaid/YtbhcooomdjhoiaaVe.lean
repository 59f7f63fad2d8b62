/- Groups: Depth, Under. -/
import Derived.Test.YtbhcooomdjhoiaaVd
namespace Go.Proofs.Ytbhcooomdjhoiaa
open Go.RowKit Go.Shelf
attribute [local go_sem] Oper.semAt_some wide_fn wide_depth

theorem setCell_s {w : World} {r i : Nat} {t : TypeId} {cs : Array Value} (v : Value) (h : w.heap[r]? = some (.cells cs t (0, 0))) : (w.setCell ⟨r, i, none⟩ v).heap[r]? = some (.cells (cs.setIfInBounds i v) t (0, 0)) := by
  have hlt : r < w.heap.size := (Array.getElem?_eq_some_iff.1 h).1
  simp [World.setCell, Array.getElem?_modify, h]
theorem setCell_o {w : World} {r i k : Nat} (v : Value) (h : k ≠ r) : (w.setCell ⟨r, i, none⟩ v).heap[k]? = w.heap[k]? := Below.heap_setCell w _ v k h
theorem setCell_z {w : World} {r i : Nat} (v : Value) : (w.setCell ⟨r, i, none⟩ v).heap.size = w.heap.size := by simp [World.setCell]
theorem Trip.setAt {A : Nat → Prop} {W : World} {r i : Nat} (v : Value) (hb : ∀ k, A k → k < W.heap.size) (h : A r) : Trip A W A (W.setCell ⟨r, i, none⟩ v) :=
  ⟨rfl, rfl, rfl, by rw [setCell_z]; exact Nat.le_refl _, fun k _ hk => setCell_o v (fun e => hk (e ▸ h)), fun _ h => .inl h, fun k hk => by rw [setCell_z]; exact hb k hk⟩

def CntI (n : Nat) (pre : List Nat) (A : Nat → Prop) (W : World) : Prop := Boxed W n 3 (.int .i64 pre.length) ∧ ∀ k, A k ↔ k = n
theorem cntI_loc (n : Nat) : Loc (CntI n) := by
  rintro s A X Y ⟨h1, h2⟩ hs
  exact ⟨(hs _ ((h2 _).2 rfl)).trans h1, h2⟩

set_option maxRecDepth 100000 in
set_option maxHeartbeats 2000000 in
theorem depth_c (b : Nat) (G : List GR) (id : Int) (w : World) (h : IsG w b G) (hw : WfG G) :
    Calls Try.prog 13 #[.pointer (some ⟨b, 0, none⟩), .int .i64 id] w fun e w' => e = .returned (.int .i64 (chI G id).length) ∧ Below w.heap.size w w' := by
  have hba : Below w.heap.size w (w.alloc (.cells #[.int .i64 0] 3)) := (Below.refl _ w).alloc (Nat.le_refl _) _
  have KC := Lib.hid (fun (w' : World) p1 p2 p3 p4 => climb_gives (w' := w') (n := w.heap.size + 1) (id := id) (h.below hba) hw (by simp) p1 p2 p3 p4)
  have KB := Lib.hid (climb_c b id (w.alloc (.cells #[.int .i64 0] 3)) (w.heap.size + 1) (by simp))
  have hle := hw.len_ch id
  have hbl := h.lt
  clear h hw
  refine (callsIn_wide (n := 0)).1 ?_
  refine callsIn_of_wp_marks Try.func13 rfl trivial ?_ rfl
  simp only [Try.ntmps13, List.size_toArray, List.length_cons, List.length_nil, Nat.reduceAdd, Nat.reduceSub, Array.replicate_succ, Array.replicate_zero, List.push_toArray, List.append_toArray, List.nil_append, List.cons_append]
  gi_wp2_with (gi_at_call 25; refine (callsIn_wide.2 (KB.out)).mono ?_; rintro e w1 ⟨rfl, p1, p2, p3, p4⟩)
  obtain ⟨q1, q2, q3, q4⟩ := KC.out w1 p1 p2 p3 p4
  have r1 := (p4.block w.heap.size (by omega)).trans (World.alloc_heap_new w (.cells #[.int .i64 0] 3))
  have hb1 : Below w.heap.size w w1 := ⟨q4.os, q4.tape, q4.output, by omega, fun k hk => (q4.block k (by simp; omega)).trans (Below.heap_alloc w _ k hk)⟩
  obtain ⟨n, hn⟩ : ∃ n, w.heap.size = n := ⟨_, rfl⟩
  have HB := Lib.hid hb1
  have HN := Lib.hid hn
  clear KB KC q3 q4 p1 p2 p4 hb1 hba
  rw [hn] at p3 r1 hbl q1 q2 HB
  simp only [hn]
  clear hn
  refine wpR (α := Nat) (gf := 29) (lb := #[.pointer (some ⟨n + 1 + 1, 0, none⟩), .pointer (some ⟨n + 1, 0, none⟩)]) rfl (enters_of Try.func29 (by kernel_rfl) rfl) q1.gives (fun _ => rfl)
    (fun k => k = n) ?hA ?hR (CntI n) (fun _ _ _ _ => False) (cntI_loc n) (fun _ _ _ _ _ hs _ => hs) ?h0
    (fun x => { tmps := #[.pointer (some ⟨b, 0, none⟩), .int .i64 id, undef, undef, .int .i64 0, .pointer (some ⟨n, 0, none⟩), .pointer (some ⟨b, 0, none⟩), .int .i64 id,
      .func (.func 29) #[] #[.pointer (some ⟨n + 1 + 1, 0, none⟩), .pointer (some ⟨n + 1, 0, none⟩)], .int .i64 x, undef, undef, undef], defers := [] }) ?assign ?body ?done ?stop
  case hA => rintro k rfl; omega
  case hR =>
    intro k hk
    refine ⟨q2 k hk, rfl, ?_⟩
    unfold NReads at hk
    omega
  case h0 => exact ⟨r1, fun _ => Iff.rfl⟩
  case assign =>
    intro l x W K hK
    gi_wp2
    first | exact hK | (simp; exact hK) | simpa using hK
  case body =>
    rintro l pre x A1 W ⟨b1, hA1⟩ hpre hbd
    have hpl : pre.length + 1 ≤ 4 := by
      have := hpre.length_le
      simp at this
      omega
    have b1c := b1.cell
    have b1f := b1.frozen
    have T1 : Trip A1 W A1 (W.setCell ⟨n, 0, none⟩ (.int .i64 ((pre.length : Int) + 1))) := Trip.setAt _ hbd ((hA1 n).2 rfl)
    have X1 : CntI n (pre ++ [x]) A1 (W.setCell ⟨n, 0, none⟩ (.int .i64 ((pre.length : Int) + 1))) :=
      ⟨by have := b1.set (.int .i64 ((pre.length : Int) + 1)); simpa using this, hA1⟩
    have HT1 := Lib.hid T1
    have HX1 := Lib.hid X1
    clear T1 X1 b1 hA1 hpre hbd r1 q1
    gi_wp2
    exact ⟨A1, HT1.out, HX1.out⟩
  case done =>
    rintro D A2 W ht hnD hD ⟨b1, hA2⟩ hK
    have b1c := b1.cell
    have hB : Below n w W := by
      have h1 := HB.out.size
      have h2 := ht.size
      exact ⟨ht.os.trans HB.out.os, ht.tape.trans HB.out.tape, ht.output.trans HB.out.output, by omega, fun k hk => (ht.block k (by omega) (fun e => by omega)).trans (HB.out.block k hk)⟩
    have HB2 := Lib.hid hB
    have HNN := HN.out
    clear hB ht hA2 r1 q1 b1
    gi_wp2
    refine ⟨by simp, .inl ⟨_, _, rfl, run_takeDeferred hK, ?_⟩⟩
    refine ⟨_, results_tmp rfl _ _ _, rfl, ?_⟩
    have hB := HB2.out
    rw [HNN]
    exact ⟨hB.os, hB.tape, hB.output, by rw [World.putObj_size]; exact hB.size, fun k hk => (World.putObj_heap_other (by omega)).trans (hB.block k hk)⟩
  case stop => rintro D cd pre A2 W ht hnD hD hpre hf hK; exact hf.elim

/-- Is up on the way up from id? -/
def underG (G : List GR) (id up : Int) : Bool := (chI G id).any (fun x => (x : Int) == up)
def UndI (n : Nat) (up : Int) (pre : List Nat) (A : Nat → Prop) (W : World) : Prop := Boxed W n 3 (.int .i64 up) ∧ Boxed W (n + 1) 4 (.bool false) ∧ pre.any (fun x => (x : Int) == up) = false ∧ ∀ k, A k ↔ (k = n ∨ k = n + 1)
def UndX (n : Nat) (up : Int) (cd : Code) (pre : List Nat) (A : Nat → Prop) (W : World) : Prop := cd = .ret ∧ Boxed W (n + 1) 4 (.bool true) ∧ pre.any (fun x => (x : Int) == up) = true ∧ ∀ k, A k ↔ (k = n ∨ k = n + 1)
theorem undI_loc (n : Nat) (up : Int) : Loc (UndI n up) := by
  rintro s A X Y ⟨h1, h2, h3, h4⟩ hs
  exact ⟨(hs _ ((h4 _).2 (.inl rfl))).trans h1, (hs _ ((h4 _).2 (.inr rfl))).trans h2, h3, h4⟩
theorem undX_loc (n : Nat) (up : Int) (cd : Code) : Loc (UndX n up cd) := by
  rintro s A X Y ⟨h1, h2, h3, h4⟩ hs
  exact ⟨h1, (hs _ ((h4 _).2 (.inr rfl))).trans h2, h3, h4⟩
theorem under_result (tmps : Array Value) (B : Nat) (x : Value) (w : World) (h2 : tmps.getD 6 undef = .pointer (some ⟨B, 0, none⟩)) (hx : w.cell? ⟨B, 0, none⟩ = some x) :
    (results Try.f14 tmps).run Try.prog w = .ok x w := by
  have h2' : tmps[6]?.getD undef = .pointer (some ⟨B, 0, none⟩) := by simpa using h2
  simp [results, Try.f14, go_sem, hx, h2']
theorem below_trip2 {w w1 W : World} {n D : Nat} {A2 : Nat → Prop} (hb : Below n w w1) (ht : Trip (fun k => k = n ∨ k = n + 1) w1 A2 W) (hn : w.heap.size = n) (hD : n ≤ D) (h1 : n ≤ w1.heap.size) (o : Obj) : Below n w (W.putObj D o) := by
  have h2 := ht.size
  exact ⟨ht.os.trans hb.os, ht.tape.trans hb.tape, ht.output.trans hb.output, by rw [World.putObj_size]; omega, fun k hk => (World.putObj_heap_other (by omega)).trans ((ht.block k (by omega) (fun e => by omega)).trans (hb.block k hk))⟩

set_option maxRecDepth 100000 in
set_option maxHeartbeats 2000000 in
theorem under_c (b : Nat) (G : List GR) (id up : Int) (w : World) (h : IsG w b G) (hw : WfG G) :
    Calls Try.prog 14 #[.pointer (some ⟨b, 0, none⟩), .int .i64 id, .int .i64 up] w fun e w' => e = .returned (.bool (underG G id up)) ∧ Below w.heap.size w w' := by
  have hba : Below w.heap.size w ((w.alloc (.cells #[.int .i64 up] 3)).alloc (.cells #[.bool false] 4)) := ((Below.refl _ w).alloc (Nat.le_refl _) _).alloc (by simp) _
  have KC := Lib.hid (fun (w' : World) p1 p2 p3 p4 => climb_gives (w' := w') (n := w.heap.size + 2) (id := id) (h.below hba) hw (by simp) p1 p2 p3 p4)
  have KB := Lib.hid (climb_c b id ((w.alloc (.cells #[.int .i64 up] 3)).alloc (.cells #[.bool false] 4)) (w.heap.size + 2) (by simp))
  have hbl := h.lt
  clear h hw
  refine (callsIn_wide (n := 0)).1 ?_
  refine callsIn_of_wp_marks Try.func14 rfl trivial ?_ rfl
  simp only [Try.ntmps14, List.size_toArray, List.length_cons, List.length_nil, Nat.reduceAdd, Nat.reduceSub, Array.replicate_succ, Array.replicate_zero, List.push_toArray, List.append_toArray, List.nil_append, List.cons_append]
  gi_wp2_with (gi_at_call 25; refine (callsIn_wide.2 (KB.out)).mono ?_; rintro e w1 ⟨rfl, p1, p2, p3, p4⟩)
  obtain ⟨q1, q2, q3, q4⟩ := KC.out w1 p1 p2 p3 p4
  have r1 := (p4.block w.heap.size (by omega)).trans ((Below.heap_alloc (w.alloc (.cells #[.int .i64 up] 3)) (.cells #[.bool false] 4) _ (by simp)).trans (World.alloc_heap_new w (.cells #[.int .i64 up] 3)))
  have r2 : w1.heap[w.heap.size + 1]? = some (.cells #[.bool false] 4 (0, 0)) := by
    refine (p4.block (w.heap.size + 1) (by omega)).trans ?_
    have := World.alloc_heap_new (w.alloc (.cells #[.int .i64 up] 3)) (.cells #[.bool false] 4)
    rwa [World.size_alloc] at this
  have hb1 : Below w.heap.size w w1 := ⟨q4.os, q4.tape, q4.output, by omega, fun k hk => (q4.block k (by simp; omega)).trans (hba.block k hk)⟩
  obtain ⟨n, hn⟩ : ∃ n, w.heap.size = n := ⟨_, rfl⟩
  have HB := Lib.hid hb1
  have HN := Lib.hid hn
  clear KB KC q3 q4 p1 p2 p4 hb1 hba
  rw [hn] at p3 r1 r2 hbl q1 q2 HB
  simp only [hn]
  clear hn
  refine wpR (α := Nat) (gf := 29) (lb := #[.pointer (some ⟨n + 2 + 1, 0, none⟩), .pointer (some ⟨n + 2, 0, none⟩)]) rfl (enters_of Try.func29 (by kernel_rfl) rfl) q1.gives (fun _ => rfl)
    (fun k => k = n ∨ k = n + 1) ?hA ?hR (UndI n up) (UndX n up) (undI_loc n up) (undX_loc n up) ?h0
    (fun x => { tmps := #[.pointer (some ⟨b, 0, none⟩), .int .i64 id, .int .i64 up, undef, undef, .pointer (some ⟨n, 0, none⟩), .pointer (some ⟨n + 1, 0, none⟩), .int .i64 x, .pointer (some ⟨b, 0, none⟩), .int .i64 id,
      .func (.func 29) #[] #[.pointer (some ⟨n + 2 + 1, 0, none⟩), .pointer (some ⟨n + 2, 0, none⟩)], .int .i64 x, undef, undef, undef], defers := [] }) ?assign ?body ?done ?stop
  case hA => rintro k (rfl | rfl) <;> omega
  case hR =>
    intro k hk
    refine ⟨q2 k hk, rfl, ?_⟩
    unfold NReads at hk
    omega
  case h0 => exact ⟨r1, r2, rfl, fun _ => Iff.rfl⟩
  case assign =>
    intro l x W K hK
    gi_wp2
    first | exact hK | (simp; exact hK) | simpa using hK
  case body =>
    rintro l pre x A1 W ⟨b1, b2, hno, hA1⟩ hpre hbd
    have b1c := b1.cell
    have b2c := b2.cell
    have b2f := b2.frozen
    by_cases hx : (x : Int) = up
    · have T1 : Trip A1 W A1 (W.setCell ⟨n + 1, 0, none⟩ (.bool true)) := Trip.setAt _ hbd ((hA1 _).2 (.inr rfl))
      have X1 : UndX n up .ret (pre ++ [x]) A1 (W.setCell ⟨n + 1, 0, none⟩ (.bool true)) := ⟨rfl, b2.set _, by simp [hx], hA1⟩
      have HT1 := Lib.hid T1
      have HX1 := Lib.hid X1
      have hd : ((x : Int) == up) = true := by simp [hx]
      clear T1 X1 b1 b2 hno hA1 hpre hbd r1 r2 q1 hx
      gi_wp2
      exact ⟨A1, HT1.out, HX1.out⟩
    · have T1 : Trip A1 W A1 W := Trip.refl hbd
      have X1 : UndI n up (pre ++ [x]) A1 W := ⟨b1, b2, by simp [hx] at hno ⊢; exact hno, hA1⟩
      have HT1 := Lib.hid T1
      have HX1 := Lib.hid X1
      have hd : ((x : Int) == up) = false := by simp [hx]
      clear T1 X1 b1 b2 hno hA1 hpre hbd r1 r2 q1 hx
      gi_wp2
      exact ⟨A1, HT1.out, HX1.out⟩
  case done =>
    rintro D A2 W ht hnD hD ⟨b1, b2, hno, hA2⟩ hK
    have b2c := b2.cell
    have b2f := b2.frozen
    have HB2 := Lib.hid b2
    have h1 := HB.out.size
    have HF := Lib.hid (fun o => below_trip2 (D := D) (HB.out) (ht.trans (Trip.setAt (r := n + 1) (i := 0) (.bool false) ht.bd ((hA2 _).2 (.inr rfl)))) HN.out (by omega) (by omega) o)
    have HK2 := Lib.hid (show (W.setCell ⟨n + 1, 0, none⟩ (.bool false)).heap[D]? = some (.deferred (some [])) from (setCell_o _ (by omega)).trans hK)
    have HNO := Lib.hid hno
    have hDn : n + 1 < D := by omega
    clear b1 b2 hA2 hno r1 r2 q1 ht hK
    gi_wp2
    refine ⟨by simp, .inl ⟨_, _, rfl, run_takeDeferred HK2.out, ?_⟩⟩
    refine ⟨_, under_result _ _ (.bool false) _ rfl ?_, ?_, ?_⟩
    · exact (cells_of (World.putObj_heap_other (by omega)) 0).trans (HB2.out.set _).cell
    · unfold underG; rw [HNO.out]
    · rw [HN.out]; exact HF.out _
  case stop =>
    rintro D cd pre A2 W ht hnD hD hpre ⟨rfl, b2, hyes, hA2⟩ hK
    have HB2 := Lib.hid b2
    have h1 := HB.out.size
    have HF := Lib.hid (fun o => below_trip2 (D := D) (HB.out) ht HN.out (by omega) (by omega) o)
    have HE : Hid (underG G id up = true) := Lib.hid (by
      obtain ⟨r, hr⟩ := hpre
      unfold underG
      rw [← hr, List.any_append, hyes]; rfl)
    have hDn : n + 1 < D := by omega
    clear b2 hA2 hyes r1 r2 q1 ht hpre
    gi_wp2
    refine ⟨by simp, .inl ⟨_, _, rfl, run_takeDeferred hK, ?_⟩⟩
    refine ⟨_, under_result _ _ (.bool true) _ rfl ?_, ?_, ?_⟩
    · exact (cells_of (World.putObj_heap_other (by omega)) 0).trans HB2.out.cell
    · rw [HE.out]
    · rw [HN.out]; exact HF.out _
end Go.Proofs.Ytbhcooomdjhoiaa
