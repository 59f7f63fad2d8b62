/- Slots: Take. -/
import Derived.Test.YtmjffgkolcdoeaaTc
namespace Go.Proofs.Ytmjffgkolcdoeaa
open Go.RowKit

def takeS (S : List SL) : Int × Int × List SL :=
  match placesL S false with
  | [] => (0, 3, S)
  | k :: _ => (((k + 64 * (S[k]?.getD (0, false)).1 : Nat) : Int), 0, S.set k ((S[k]?.getD (0, false)).1, true))
theorem takeS_none {S : List SL} (h : placesL S false = []) : takeS S = (0, 3, S) := by unfold takeS; rw [h]
theorem takeS_some {S : List SL} {k t : Nat} {r : List Nat} (h : placesL S false = k :: r) (hk : S[k]? = some (t, false)) : takeS S = (((k + 64 * t : Nat) : Int), 0, S.set k (t, true)) := by
  unfold takeS; rw [h]; simp [hk]
theorem Trip.setAt {A : Nat → Prop} {W : World} {r i : Nat} (v : Value) (hb : ∀ k, A k → k < W.heap.size) (h : A r) : Trip A W A (W.setCell ⟨r, i, none⟩ v) :=
  ⟨rfl, rfl, rfl, by rw [setCell_z]; exact Nat.le_refl _, fun k _ hk => setCell_o v (fun e => hk (e ▸ h)), fun _ h => .inl h, fun k hk => by rw [setCell_z]; exact hb k hk⟩
theorem take_result (tmps : Array Value) (B C : Nat) (x y : Int) (w : World) (h2 : tmps.getD 2 undef = .pointer (some ⟨B, 0, none⟩)) (h3 : tmps.getD 3 undef = .pointer (some ⟨C, 0, none⟩)) (hx : w.cell? ⟨B, 0, none⟩ = some (.int .i64 x)) (hy : w.cell? ⟨C, 0, none⟩ = some (.int .i64 y)) :
    (results Try.f8 tmps).run Try.prog w = .ok (.tuple #[.int .i64 x, .int .i64 y]) w := by
  have h2' : tmps[2]?.getD undef = .pointer (some ⟨B, 0, none⟩) := by simpa using h2
  have h3' : tmps[3]?.getD undef = .pointer (some ⟨C, 0, none⟩) := by simpa using h3
  simp [results, Try.f8, go_sem, hx, hy, h2', h3']
def TakeAll (n b g k : Nat) : Prop := k = n ∨ k = n + 1 ∨ k = n + 2 ∨ k = n + 3 ∨ k = n + 4 ∨ k = b ∨ k = g
def TakeI (n b g : Nat) (W5 : World) (pre : List Nat) (A : Nat → Prop) (W : World) : Prop :=
  pre = [] ∧ (∀ k, A k ↔ TakeAll n b g k) ∧ ∀ k, TakeAll n b g k → W.heap[k]? = W5.heap[k]?
def TakeX (n b g : Nat) (S : List SL) (cd : Code) (pre : List Nat) (A : Nat → Prop) (W : World) : Prop :=
  cd = .ret ∧ (∀ k, A k ↔ TakeAll n b g k) ∧ ∃ x t, pre = [x] ∧ S[x]? = some (t, false) ∧ IsS W b g (S.set x (t, true)) ∧ Boxed W (n + 1) 3 (.int .i64 (x + 64 * t : Nat)) ∧ Boxed W (n + 2) 25 (.int .i64 0)
theorem takeI_loc (n b g : Nat) (W5 : World) : Loc (TakeI n b g W5) := by
  rintro s A X Y ⟨h1, h2, h3⟩ hs
  exact ⟨h1, h2, fun k hk => (hs k ((h2 k).2 hk)).trans (h3 k hk)⟩
theorem takeX_loc (n b g : Nat) (S : List SL) (cd : Code) : Loc (TakeX n b g S cd) := by
  rintro s A X Y ⟨h1, h2, x, t, h3, h4, h5, h6, h7⟩ hs
  exact ⟨h1, h2, x, t, h3, h4, h5.keep (hs b ((h2 b).2 (by simp [TakeAll]))) (hs g ((h2 g).2 (by simp [TakeAll]))), (hs _ ((h2 _).2 (by simp [TakeAll]))).trans h6, (hs _ ((h2 _).2 (by simp [TakeAll]))).trans h7⟩
theorem take_trip {w w5 W : World} {n b g : Nat} {A2 : Nat → Prop} (hn : n = w.heap.size) (hb5 : Below n w w5) (ht : Trip (TakeAll n b g) w5 A2 W) (hb : b < n) (hg : g < n) : Trip (fun k => k = b ∨ k = g) w (fun k => k = b ∨ k = g) W := by
  have h1 := hb5.size
  have h2 := ht.size
  refine ⟨ht.os.trans hb5.os, ht.tape.trans hb5.tape, ht.output.trans hb5.output, by omega, fun k hk hn' => ?_, fun _ h => .inl h, by rintro k (rfl | rfl) <;> omega⟩
  exact (ht.block k (by omega) (fun h => by unfold TakeAll at h; omega)).trans (hb5.block k (by omega))
theorem take_three (w : World) (a c d : Obj) : Below w.heap.size w (((w.alloc a).alloc c).alloc d) ∧ (((w.alloc a).alloc c).alloc d).heap[w.heap.size]? = some a ∧ (((w.alloc a).alloc c).alloc d).heap[w.heap.size + 1]? = some c ∧ (((w.alloc a).alloc c).alloc d).heap[w.heap.size + 2]? = some d := by
  refine ⟨(((Below.refl _ w).alloc (Nat.le_refl _) _).alloc (by simp) _).alloc (by simp only [World.size_alloc]; omega) _, ?_, ?_, ?_⟩
  · rw [Below.heap_alloc _ _ _ (by simp; omega), Below.heap_alloc _ _ _ (by simp)]; exact World.alloc_heap_new w _
  · rw [Below.heap_alloc _ _ _ (by simp)]; have := World.alloc_heap_new (w.alloc a) c; rwa [World.size_alloc] at this
  · have := World.alloc_heap_new ((w.alloc a).alloc c) d; rwa [World.size_alloc, World.size_alloc] at this

attribute [local go_sem] Oper.semAt_some wide_fn wide_depth in
set_option maxRecDepth 100000 in
set_option maxHeartbeats 2000000 in
theorem take_c (b g : Nat) (S : List SL) (w : World) (h : IsS w b g S) (hb : ∀ x ∈ S, x.1 ≤ 1000000) :
    Calls Try.prog 8 #[.pointer (some ⟨b, 0, none⟩)] w fun e w' => e = .returned (.tuple #[.int .i64 (takeS S).1, .int .i64 (takeS S).2.1]) ∧ SPost b g (takeS S).2.2 w w' := by
  refine (callsIn_wide (n := 0)).1 ?_
  refine callsIn_of_wp_marks Try.func8 rfl trivial ?_ rfl
  simp only [Try.ntmps8, List.size_toArray, List.length_cons, List.length_nil, Nat.reduceAdd, Nat.reduceSub, Array.replicate_succ, Array.replicate_zero, List.push_toArray, List.append_toArray, List.nil_append, List.cons_append]
  have H3 := Lib.hid (take_three w (.cells #[.pointer (some ⟨b, 0, none⟩)] 23) (.cells #[.int .i64 0] 3) (.cells #[.int .i64 0] 25))
  have KP := Lib.hid (places_c b false (((w.alloc (.cells #[.pointer (some ⟨b, 0, none⟩)] 23)).alloc (.cells #[.int .i64 0] 3)).alloc (.cells #[.int .i64 0] 25)) (w.heap.size + 3) (by simp))
  have HS := Lib.hid h
  have HBD := Lib.hid hb
  clear h hb
  gi_wp2_with (gi_at_call 20; refine (callsIn_wide.2 (KP.out)).mono ?_; rintro e w5 ⟨rfl, p1, p2, p3, p4⟩)
  obtain ⟨q0, q1, q2, q3⟩ := H3.out
  have hbn := HS.out.ltb
  have hgn := HS.out.ltg
  have hb5 : Below w.heap.size w w5 := ⟨p4.os.trans q0.os, p4.tape.trans q0.tape, p4.output.trans q0.output, by omega, fun k hk => (p4.block k (by omega)).trans (q0.block k hk)⟩
  have r1 := (p4.block w.heap.size (by omega)).trans q1
  have r2 := (p4.block (w.heap.size + 1) (by omega)).trans q2
  have r3 := (p4.block (w.heap.size + 2) (by omega)).trans q3
  have hs5 := HS.out.below hb5
  obtain ⟨n, hn⟩ : ∃ n, w.heap.size = n := ⟨_, rfl⟩
  have HB5 := Lib.hid hb5
  have HS5 := Lib.hid hs5
  have HN := Lib.hid hn
  clear H3 KP p4 q0 q1 q2 q3 hb5 hs5
  rw [hn] at p1 p2 p3 r1 r2 r3 hbn hgn HB5
  simp only [hn]
  clear hn
  refine wpR3 (α := Nat) (gf := 22) (lb := #[.pointer (some ⟨n + 3, 0, none⟩), .pointer (some ⟨n + 3 + 1, 0, none⟩)]) rfl (enters_of Try.func22 (by kernel_rfl) rfl)
    (places1_gives (n + 3) (n + 4) b g false S w5 p1 p2 HS5.out) (fun _ => rfl) (TakeAll n b g) ?hA (TakeI n b g w5) ?hR (TakeX n b g S) (takeI_loc _ _ _ _) (takeX_loc _ _ _ _) ?h0
    (fun x => { tmps := #[.pointer (some ⟨b, 0, none⟩), .pointer (some ⟨n, 0, none⟩), .pointer (some ⟨n + 1, 0, none⟩), .pointer (some ⟨n + 1 + 1, 0, none⟩), .int .i64 x, .pointer (some ⟨b, 0, none⟩),
      .func (.func 22) #[] #[.pointer (some ⟨n + 3, 0, none⟩), .pointer (some ⟨n + 3 + 1, 0, none⟩)], .int .i64 x, undef, undef, undef, undef, undef, undef, undef, undef, undef, undef], defers := [] }) ?assign ?body ?done ?stop
  case hA => intro k hk; unfold TakeAll at hk; omega
  case hR =>
    rintro pre A1 W1 ⟨_, _, h3⟩ k hk
    have hk' : TakeAll n b g k := by unfold TakeAll; unfold SReads at hk; omega
    have h4 := h3 k hk'
    refine ⟨?_, h4⟩
    have hk5 : k < w5.heap.size := by unfold TakeAll at hk'; omega
    rw [Array.getElem?_eq_getElem hk5] at h4
    exact (Array.getElem?_eq_some_iff.1 h4).1
  case h0 => exact ⟨rfl, fun _ => Iff.rfl, fun _ _ => rfl⟩
  case assign =>
    intro l x W K hK
    gi_wp2
    exact hK
  case body =>
    rintro l pre x A1 W ⟨rfl, hA1, hW⟩ hpre hbd
    obtain ⟨t, hx⟩ := mem_placesL (S := S) (c := false) (k := x) (by obtain ⟨r, hr⟩ := hpre; rw [← hr]; simp)
    have ht : t ≤ 1000000 := HBD.out (t, false) (List.mem_of_getElem? hx)
    have hsW : IsS W b g S := HS5.out.keep (hW b (by simp [TakeAll])) (hW g (by simp [TakeAll]))
    have c0 : W.cell? ⟨n, 0, none⟩ = some (.pointer (some ⟨b, 0, none⟩)) := by simp [World.cell?, (hW n (by simp [TakeAll])).trans r1]
    have cb := hsW.cb
    have d1 := hsW.c1 hx
    have f1 := hsW.frozen (x * 2 + 1)
    have hle := hsW.le
    have hxl := (List.getElem?_eq_some_iff.1 hx).1
    have P1 := hsW.set1 hx true
    have hx' : (S.set x (t, true))[x]? = some (t, true) := by simp [hxl]
    have KN := Lib.hid (name_c b g _ x t true _ P1.1 hx' ht)
    have b1 : Boxed (W.setCell ⟨g, x * 2 + 1, none⟩ (.bool true)) (n + 1) 3 (.int .i64 0) := (setCell_o _ (by omega)).trans ((hW (n + 1) (by simp [TakeAll])).trans r2)
    have b2 : Boxed (W.setCell ⟨g, x * 2 + 1, none⟩ (.bool true)) (n + 2) 25 (.int .i64 0) := (setCell_o _ (by omega)).trans ((hW (n + 2) (by simp [TakeAll])).trans r3)
    have c0' : (W.setCell ⟨g, x * 2 + 1, none⟩ (.bool true)).cell? ⟨n, 0, none⟩ = some (.pointer (some ⟨b, 0, none⟩)) := (cells_of (setCell_o _ (by omega)) 0).trans c0
    have b1c := b1.cell
    have b1f := b1.frozen
    have b2' : Boxed ((W.setCell ⟨g, x * 2 + 1, none⟩ (.bool true)).setCell ⟨n + 1, 0, none⟩ (.int .i64 (x + 64 * t : Nat))) (n + 2) 25 (.int .i64 0) := (setCell_o _ (by omega)).trans b2
    have b2c := b2'.cell
    have b2f := b2'.frozen
    have T1 : Trip A1 W A1 (((W.setCell ⟨g, x * 2 + 1, none⟩ (.bool true)).setCell ⟨n + 1, 0, none⟩ (.int .i64 (x + 64 * t : Nat))).setCell ⟨n + 2, 0, none⟩ (.int .i64 0)) :=
      ((Trip.setAt _ hbd ((hA1 g).2 (by simp [TakeAll]))).trans (Trip.setAt _ (fun k hk => by rw [setCell_z]; exact hbd k hk) ((hA1 (n + 1)).2 (by simp [TakeAll])))).trans (Trip.setAt _ (fun k hk => by rw [setCell_z, setCell_z]; exact hbd k hk) ((hA1 (n + 2)).2 (by simp [TakeAll])))
    have X1 : TakeX n b g S .ret [x] A1 (((W.setCell ⟨g, x * 2 + 1, none⟩ (.bool true)).setCell ⟨n + 1, 0, none⟩ (.int .i64 (x + 64 * t : Nat))).setCell ⟨n + 2, 0, none⟩ (.int .i64 0)) :=
      ⟨rfl, hA1, x, t, rfl, hx, P1.1.keep ((setCell_o _ (by omega)).trans (setCell_o _ (by omega))) ((setCell_o _ (by omega)).trans (setCell_o _ (by omega))), (setCell_o _ (by omega)).trans (b1.set _), b2'.set _⟩
    have HT1 := Lib.hid T1
    have HX1 := Lib.hid X1
    obtain ⟨m, hm⟩ : ∃ m, S.length = m := ⟨_, rfl⟩
    rw [hm] at cb hle hxl
    obtain ⟨z, hz⟩ : ∃ z : Int, ((x + 64 * t : Nat) : Int) = z := ⟨_, rfl⟩
    rw [hz] at KN b2c b2f HT1 HX1
    clear hz T1 X1 P1 b1 b2 b2' hsW hA1 hW hx hx' hpre hbd hm r1 r2 r3 p1 p2
    gi_wp2_with (gi_at_call 21; refine (CallsIn.inRound l (callsIn_wide.2 (KN.out))).mono ?_; rintro e w' ⟨rfl, rfl⟩)
    exact ⟨A1, HT1.out, HX1.out⟩
  case done =>
    rintro D A2 W ht hnD hD ⟨hx, hA2, hW⟩ hK
    have b1 : Boxed W (n + 1) 3 (.int .i64 0) := (hW (n + 1) (by simp [TakeAll])).trans r2
    have b2 : Boxed W (n + 2) 25 (.int .i64 0) := (hW (n + 2) (by simp [TakeAll])).trans r3
    have b1c := b1.cell
    have b1f := b1.frozen
    have b2' : Boxed (W.setCell ⟨n + 1, 0, none⟩ (.int .i64 0)) (n + 2) 25 (.int .i64 0) := (setCell_o _ (by omega)).trans b2
    have b2c := b2'.cell
    have b2f := b2'.frozen
    have K2 : ((W.setCell ⟨n + 1, 0, none⟩ (.int .i64 0)).setCell ⟨n + 2, 0, none⟩ (.int .i64 3)).heap[D]? = some (.deferred (some [])) := ((setCell_o _ (by omega)).trans (setCell_o _ (by omega))).trans hK
    have T1 := (ht.trans (Trip.setAt (r := n + 1) (i := 0) (.int .i64 0) ht.bd ((hA2 _).2 (by simp [TakeAll])))).trans (Trip.setAt (r := n + 2) (i := 0) (.int .i64 3) (fun k hk => by rw [setCell_z]; exact ht.bd k hk) ((hA2 _).2 (by simp [TakeAll])))
    have hsW : IsS ((W.setCell ⟨n + 1, 0, none⟩ (.int .i64 0)).setCell ⟨n + 2, 0, none⟩ (.int .i64 3)) b g S := HS5.out.keep (((setCell_o _ (by omega)).trans (setCell_o _ (by omega))).trans (hW b (by simp [TakeAll]))) (((setCell_o _ (by omega)).trans (setCell_o _ (by omega))).trans (hW g (by simp [TakeAll])))
    have B2 := b2'.set (.int .i64 3)
    have B1 : Boxed ((W.setCell ⟨n + 1, 0, none⟩ (.int .i64 0)).setCell ⟨n + 2, 0, none⟩ (.int .i64 3)) (n + 1) 3 (.int .i64 0) := (setCell_o _ (by omega)).trans (b1.set _)
    have HT1 := Lib.hid (T1.putObj hD (.deferred none))
    have HK2 := Lib.hid K2
    have HSW := Lib.hid hsW
    have HB2 := Lib.hid B2
    have HB1 := Lib.hid B1
    have hDn : n + 5 ≤ D := by omega
    have HE := Lib.hid (takeS_none hx)
    clear T1 K2 hsW B2 B1 b1 b2 b2' ht hA2 hW hK hx r1 r2 r3 p1 p2
    gi_wp2
    refine ⟨by simp, .inl ⟨_, _, rfl, run_takeDeferred HK2.out, ?_⟩⟩
    refine ⟨_, take_result _ _ _ 0 3 _ rfl rfl ?_ ?_, by rw [HE.out], ?_⟩
    · exact (cells_of (World.putObj_heap_other (by omega)) 0).trans HB1.out.cell
    · exact (cells_of (World.putObj_heap_other (by omega)) 0).trans HB2.out.cell
    · rw [HE.out]
      exact ⟨HSW.out.keep (World.putObj_heap_other (by omega)) (World.putObj_heap_other (by omega)), take_trip HN.out.symm HB5.out HT1.out hbn hgn⟩
  case stop =>
    rintro D cd pre A2 W ht hnD hD hpre ⟨rfl, hA2, x, t, rfl, hx, hsW, b1, b2⟩ hK
    obtain ⟨r, hr⟩ := hpre
    have HE := Lib.hid (takeS_some (S := S) (k := x) (t := t) (r := r) (by rw [← hr]; rfl) hx)
    have HT1 := Lib.hid (ht.putObj hD (.deferred none))
    have hDn : n + 5 ≤ D := by omega
    clear hr ht hA2 r1 r2 r3 p1 p2
    gi_wp2
    refine ⟨by simp, .inl ⟨_, _, rfl, run_takeDeferred hK, ?_⟩⟩
    refine ⟨_, take_result _ _ _ ((x + 64 * t : Nat) : Int) 0 _ rfl rfl ?_ ?_, by rw [HE.out], ?_⟩
    · exact (cells_of (World.putObj_heap_other (by omega)) 0).trans b1.cell
    · exact (cells_of (World.putObj_heap_other (by omega)) 0).trans b2.cell
    · rw [HE.out]
      exact ⟨hsW.keep (World.putObj_heap_other (by omega)) (World.putObj_heap_other (by omega)), take_trip HN.out.symm HB5.out HT1.out hbn hgn⟩
end Go.Proofs.Ytmjffgkolcdoeaa
