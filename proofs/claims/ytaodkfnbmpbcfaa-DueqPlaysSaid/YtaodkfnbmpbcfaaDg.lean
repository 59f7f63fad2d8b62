/- Queues of deadlines: First. -/
import Derived.Test.YtaodkfnbmpbcfaaDf
namespace Go.Proofs.Ytaodkfnbmpbcfaa
open Go.RowKit Go.Shelf
attribute [local go_sem] Oper.semAt_some wide_fn wide_depth

/-- Who is due first of some: the first found, then the better. -/
def better (o : Option RI) (r : RI) : Option RI := some (match o with | none => r | some f => if dueB r f then r else f)
def bestO (T : List RI) : Option RI := T.foldl better none
def optR : Option RI → RI × Bool
  | none => ((0, 0, 0), false)
  | some r => (r, true)
/-- What First tells. -/
def firstT (most : Int) (T : List RI) : Option RI := bestO (T.takeWhile (fun r => decide (r.1 ≤ most)))
theorem bestO_snoc (T : List RI) (r : RI) : bestO (T ++ [r]) = better (bestO T) r := by simp [bestO]
theorem takeWhile_all {most : Int} {T : List RI} (h : ∀ r ∈ T, r.1 ≤ most) : T.takeWhile (fun r => decide (r.1 ≤ most)) = T := by
  induction T with
  | nil => rfl
  | cons r T ih =>
    rw [List.takeWhile_cons, if_pos (by simpa using h r (by simp)), ih (fun x hx => h x (by simp [hx]))]
theorem takeWhile_part {most : Int} {T : List RI} {k : Nat} {r : RI} (h : ∀ x ∈ T.take k, x.1 ≤ most) (hk : T[k]? = some r) (hr : most < r.1) : T.takeWhile (fun r => decide (r.1 ≤ most)) = T.take k := by
  induction T generalizing k with
  | nil => simp at hk
  | cons y T ih =>
    cases k with
    | zero =>
      simp at hk
      subst hk
      rw [List.takeWhile_cons, if_neg (by simp; omega)]
      rfl
    | succ k =>
      rw [List.takeWhile_cons, if_pos (by simpa using h y (by simp))]
      rw [ih (fun x hx => h x (by rw [List.take_succ_cons]; exact List.mem_cons_of_mem _ hx)) (by simpa using hk)]
      rfl

theorem alloc_at {w : World} (o : Obj) {k : Nat} (hk : k = w.heap.size) : (w.alloc o).heap[k]? = some o := by rw [hk]; exact World.alloc_heap_new w o
theorem numQ_get {L : List QI} {k : Nat} {x : Nat × QI} (h : (numQ 0 L)[k]? = some x) : L[k]? = some x.2 := by
  have := numQ_snd 0 L
  rw [← this]
  simp [h]
/-- The loop's state: who is first so far lies in block H + 3, whether there is one in H + 4; all else as it lay. -/
structure FirstAt (w3 : World) (H d m : Nat) (o : Option RI) (A : Nat → Prop) (W : World) : Prop where
  ext : ∀ k, A k ↔ (k = H + 3 ∨ k = H + 4 ∨ k = H ∨ k = H + 1 ∨ k = d ∨ k = m)
  kq2 : W.heap[H]? = w3.heap[H]?
  kq3 : W.heap[H + 1]? = w3.heap[H + 1]?
  kd : W.heap[d]? = w3.heap[d]?
  km : W.heap[m]? = w3.heap[m]?
  first : W.heap[H + 3]? = some (.cells (encR (optR o).1).toArray 63 (0, 0))
  found : W.heap[H + 4]? = some (.cells #[.bool (optR o).2] 4 (0, 0))
theorem FirstAt.keep {w3 : World} {H d m : Nat} {o : Option RI} {A : Nat → Prop} {X Y : World} (h : FirstAt w3 H d m o A X) (hs : ∀ k, A k → Y.heap[k]? = X.heap[k]?) : FirstAt w3 H d m o A Y :=
  ⟨h.ext, (hs _ ((h.ext _).2 (by simp))).trans h.kq2, (hs _ ((h.ext _).2 (by simp))).trans h.kq3, (hs _ ((h.ext _).2 (by simp))).trans h.kd, (hs _ ((h.ext _).2 (by simp))).trans h.km, (hs _ ((h.ext _).2 (by simp))).trans h.first, (hs _ ((h.ext _).2 (by simp))).trans h.found⟩
theorem firstAt_loc {α : Type} (f : List α → Option RI) (g : List α → Prop) (w3 : World) (H d m : Nat) : Loc (fun pre A W => g pre ∧ FirstAt w3 H d m (f pre) A W) := by
  rintro s A X Y ⟨hg, h⟩ hs
  exact ⟨hg, h.keep hs⟩
/-- Another is first. -/
theorem FirstAt.put {w3 : World} {H d m : Nat} {o : Option RI} {A : Nat → Prop} {W : World} (h : FirstAt w3 H d m o A W) (hd : d < H) (hm : m < H) (r : RI) :
    FirstAt w3 H d m (some r) A ((set3 W (H + 3) (.int .i64 r.1) (.int .i64 r.2.1) (.int .i64 r.2.2)).setCell ⟨H + 4, 0, none⟩ (.bool true)) := by
  have ho : ∀ k, k ≠ H + 3 → k ≠ H + 4 → ((set3 W (H + 3) (.int .i64 r.1) (.int .i64 r.2.1) (.int .i64 r.2.2)).setCell ⟨H + 4, 0, none⟩ (.bool true)).heap[k]? = W.heap[k]? := fun k h1 h2 => (setBox_other _ h2).trans (set3_other _ _ _ h1)
  refine ⟨h.ext, (ho _ (by omega) (by omega)).trans h.kq2, (ho _ (by omega) (by omega)).trans h.kq3, (ho _ (by omega) (by omega)).trans h.kd, (ho _ (by omega) (by omega)).trans h.km, ?_, ?_⟩
  · rw [setBox_other _ (by omega)]
    exact set3_same _ _ _ h.first
  · have := setCell_row (w := set3 W (H + 3) (.int .i64 r.1) (.int .i64 r.2.1) (.int .i64 r.2.2)) (i := 0) (.bool true) ((set3_other _ _ _ (by omega)).trans h.found)
    exact this
theorem FirstAt.trip {w3 : World} {H d m : Nat} {o : Option RI} {A : Nat → Prop} {W0 W : World} (h : FirstAt w3 H d m o A W) (ht : Trip A W0 A W) (r : RI) :
    Trip A W0 A ((set3 W (H + 3) (.int .i64 r.1) (.int .i64 r.2.1) (.int .i64 r.2.2)).setCell ⟨H + 4, 0, none⟩ (.bool true)) := by
  have h3 := (h.ext (H + 3)).2 (by simp)
  have h4 := (h.ext (H + 4)).2 (by simp)
  exact (((ht.setAt (H + 3) 0 _ (.inl h3)).setAt (H + 3) 1 _ (.inl h3)).setAt (H + 3) 2 _ (.inl h3)).setAt (H + 4) 0 _ (.inl h4)

theorem first_below {w w6 W : World} {d m : Nat} {o : Option RI} {A2 : Nat → Prop} (hb : Below w.heap.size w w6) (ht : Trip (fun k => k = w.heap.size + 3 ∨ k = w.heap.size + 4 ∨ k = w.heap.size ∨ k = w.heap.size + 1 ∨ k = d ∨ k = m) w6 A2 W) (hF : FirstAt w6 w.heap.size d m o A2 W) : Below w.heap.size w W := by
  have hs := hb.size
  have hs2 := ht.size
  refine ⟨ht.os.trans hb.os, ht.tape.trans hb.tape, ht.output.trans hb.output, by omega, fun k hk => ?_⟩
  by_cases h1 : k = d
  · subst h1; exact hF.kd.trans (hb.block k hk)
  · by_cases h2 : k = m
    · subst h2; exact hF.km.trans (hb.block k hk)
    · exact (ht.block k (by omega) (by omega)).trans (hb.block k hk)
theorem below_putObj {B : Nat} {a w : World} (h : Below B a w) {D : Nat} (hD : B ≤ D) (o : Obj) : Below B a (w.putObj D o) :=
  ⟨h.os, h.tape, h.output, by rw [World.putObj_size]; exact h.size, fun k hk => (World.putObj_heap_other (by omega)).trans (h.block k hk)⟩

set_option maxRecDepth 100000 in
set_option maxHeartbeats 4000000 in
theorem dfirst_c (d b m : Nat) (most s : Int) (T : List RI) (v : Value) (mp : Nat) (key : Int) (w : World) (h : IsD w d b m most s T v mp) (hL : T.length ≤ 1000000) :
    Calls Try.prog 25 #[.pointer (some ⟨d, 0, none⟩), .int .i64 key] w fun e w' => e = .returned (.tuple #[.agg (encR (optR (firstT key T)).1).toArray, .bool (optR (firstT key T)).2]) ∧ Below w.heap.size w w' := by
  obtain ⟨ob, hob⟩ : ∃ ob, optR (firstT key T) = ob := ⟨_, rfl⟩
  have HOB := Lib.hid hob
  rw [hob]
  obtain ⟨⟨p0, p1, p2⟩, bb⟩ := ob
  simp only [encR]
  clear hob
  have hlt := h.lt
  have HD := Lib.hid h
  have HLT := Lib.hid hlt
  have hdl := h.lt d (.inl rfl)
  have c0 : w.cell? ⟨d, 0, none⟩ = some (.pointer (some ⟨b, 0, none⟩)) := by simp [World.cell?, h.box]
  obtain ⟨w5, hw5⟩ : ∃ w5, (((((w.alloc (.cells #[.pointer (some ⟨d, 0, none⟩)] 58)).alloc (.cells #[.int .i64 key] 2)).alloc (.cells #[.int .i64 0, .int .i64 0, .int .i64 0] 63)).alloc (.cells #[.int .i64 0, .int .i64 0, .int .i64 0] 63)).alloc (.cells #[.bool false] 4)) = w5 := ⟨_, rfl⟩
  have hb5 : Below w.heap.size w w5 := by rw [← hw5]; exact ((((((Below.refl _ w).alloc (Nat.le_refl _) _).alloc (by simp) _).alloc (by simp; omega) _).alloc (by simp; omega) _).alloc (by simp; omega) _)
  have c5 : w5.cell? ⟨d, 0, none⟩ = some (.pointer (some ⟨b, 0, none⟩)) := (hb5.cell (p := ⟨d, 0, none⟩) hdl).trans c0
  have c5' := c5
  rw [← hw5] at c5'
  have HW5 := Lib.hid hw5
  have HB5 := Lib.hid hb5
  clear h hlt hw5 hb5
  refine (callsIn_wide (n := 0)).1 ?_
  refine callsIn_of_wp_marks Try.func25 rfl trivial ?_ rfl
  simp only [Try.ntmps25, List.size_toArray, List.length_cons, List.length_nil, Nat.reduceAdd, Nat.reduceSub, Array.replicate_succ, Array.replicate_zero, List.push_toArray, List.append_toArray, List.nil_append, List.cons_append]
  gi_wp2_with (gi_at_call 35; refine (callsIn_wide.2 (qall_c b _)).mono ?_; rintro e w' ⟨rfl, rfl⟩)
  have hsz5 : w5.heap.size = w.heap.size + 5 := by rw [← HW5.out]; simp
  have k0 : w5.heap[w.heap.size]? = some (.cells #[.pointer (some ⟨d, 0, none⟩)] 58 (0, 0)) := by rw [← HW5.out, Below.heap_alloc _ _ _ (by simp; try omega), Below.heap_alloc _ _ _ (by simp; try omega), Below.heap_alloc _ _ _ (by simp; try omega), Below.heap_alloc _ _ _ (by simp; try omega)]; exact alloc_at _ (by simp)
  have k1 : w5.heap[w.heap.size + 1]? = some (.cells #[.int .i64 key] 2 (0, 0)) := by rw [← HW5.out, Below.heap_alloc _ _ _ (by simp; try omega), Below.heap_alloc _ _ _ (by simp; try omega), Below.heap_alloc _ _ _ (by simp; try omega)]; exact alloc_at _ (by simp)
  have k2 : w5.heap[w.heap.size + 2]? = some (.cells #[.int .i64 0, .int .i64 0, .int .i64 0] 63 (0, 0)) := by rw [← HW5.out, Below.heap_alloc _ _ _ (by simp; try omega), Below.heap_alloc _ _ _ (by simp; try omega)]; exact alloc_at _ (by simp)
  have k3 : w5.heap[w.heap.size + 3]? = some (.cells #[.int .i64 0, .int .i64 0, .int .i64 0] 63 (0, 0)) := by rw [← HW5.out, Below.heap_alloc _ _ _ (by simp; try omega)]; exact alloc_at _ (by simp)
  have k4 : w5.heap[w.heap.size + 4]? = some (.cells #[.bool false] 4 (0, 0)) := by rw [← HW5.out]; exact alloc_at _ (by simp)
  obtain ⟨w6, hw6⟩ : ∃ w6, w5.alloc (.cells #[.pointer (some ⟨b, 0, none⟩)] 24) = w6 := ⟨_, rfl⟩
  have hb6 : Below w.heap.size w w6 := by rw [← hw6]; exact HB5.out.alloc HB5.out.size _
  have hs6 : w6.heap.size = w.heap.size + 6 := by rw [← hw6, World.size_alloc, hsz5]
  have ho6 : ∀ k, k < w.heap.size + 5 → w6.heap[k]? = w5.heap[k]? := fun k hk => by rw [← hw6]; exact Below.heap_alloc _ _ _ (by omega)
  have hr6 : w6.heap[w.heap.size + 5]? = some (.cells #[.pointer (some ⟨b, 0, none⟩)] 24 (0, 0)) := by rw [← hw6]; exact alloc_at _ hsz5.symm
  have k0' := (ho6 _ (by omega)).trans k0
  have k1' := (ho6 _ (by omega)).trans k1
  have k2' := (ho6 _ (by omega)).trans k2
  have k3' := (ho6 _ (by omega)).trans k3
  have k4' := (ho6 _ (by omega)).trans k4
  have hd6 := HD.out.below hb6
  have hseq := qall1_gives (w.heap.size + 5) b mp most s v (qL T) w6 hr6 hd6.q (by rw [qL_length]; exact hL)
  rw [HW5.out, hw6]
  have HB6 := Lib.hid hb6
  have hml := HLT.out m (.inr (.inl rfl))
  have hbl := HLT.out b (.inr (.inr (.inl rfl)))
  clear hw6 k0 k1 k2 k3 k4 hr6 ho6 hb6 c5' HW5 c5 HB5
  refine wpRb (α := Nat × QI) (gf := 43) (lb := #[.pointer (some ⟨w.heap.size + 5, 0, none⟩)]) ?hg (enters_of Try.func43 (by kernel_rfl) rfl) hseq (fun _ => rfl) (fun k => k = w.heap.size + 3 ∨ k = w.heap.size + 4 ∨ k = w.heap.size ∨ k = w.heap.size + 1 ∨ k = d ∨ k = m) ?hA ?hR
    (fun pre A W => (∀ r ∈ T.take pre.length, r.1 ≤ key) ∧ FirstAt w6 w.heap.size d m (bestO (T.take pre.length)) A W) (fun c _ A W => c = .exit 0 ∧ FirstAt w6 w.heap.size d m (firstT key T) A W) (firstAt_loc (fun pre => bestO (T.take pre.length)) (fun pre => ∀ r ∈ T.take pre.length, r.1 ≤ key) _ _ _ _) (fun c => firstAt_loc (fun _ => firstT key T) (fun _ => c = .exit 0) _ _ _ _) ?h0
    (fun x => .cells (encQ x.2).toArray 40)
    (fun x r => { tmps := #[.pointer (some ⟨d, 0, none⟩), .int .i64 key, .pointer (some ⟨w.heap.size, 0, none⟩), .pointer (some ⟨w.heap.size + 1, 0, none⟩), .pointer (some ⟨w.heap.size + 1 + 1, 0, none⟩), .bool false, .pointer (some ⟨w.heap.size + 1 + 1 + 1, 0, none⟩), .pointer (some ⟨w.heap.size + 1 + 1 + 1 + 1, 0, none⟩), undef, .pointer (some ⟨r, 0, none⟩), undef, .agg #[.int .i64 0, .int .i64 0, .int .i64 0], .pointer (some ⟨d, 0, none⟩), .pointer (some ⟨d, 0, none⟩), .pointer (some ⟨d, 0, none⟩), .pointer (some ⟨b, 0, none⟩), .func (.func 43) #[] #[.pointer (some ⟨w.heap.size + 5, 0, none⟩)], .int .i64 x.1, .agg (encQ x.2).toArray, undef, undef, undef, undef, undef, undef, undef, undef, undef, undef, undef, undef, undef, undef, undef, undef, undef], defers := [] }) ?assign ?body ?done ?stop
  case hg => simp [Act.eval]
  case hA => rintro k (rfl | rfl | rfl | rfl | rfl | rfl) <;> omega
  case hR =>
    have hn1 := HD.out.n1
    have hn2 := HD.out.n2
    rintro k (rfl | rfl | hk)
    · exact ⟨by omega, rfl, by omega⟩
    · refine ⟨by omega, rfl, ?_⟩
      rintro (h | h | h | h | h | h)
      · omega
      · omega
      · omega
      · omega
      · exact hn1 (.inl h.symm)
      · exact hn2 (.inl h.symm)
    · have := HLT.out k (.inr (.inr (.inr (.inr hk))))
      refine ⟨by omega, rfl, ?_⟩
      rintro (h | h | h | h | h | h)
      · omega
      · omega
      · omega
      · omega
      · exact hn1 (.inr (.inr (h ▸ hk)))
      · exact hn2 (.inr (.inr (h ▸ hk)))
  case h0 => exact ⟨by simp, fun _ => Iff.rfl, rfl, rfl, rfl, rfl, k3', k4'⟩
  case assign =>
    intro l x W K hK
    obtain ⟨x2, x0, x1⟩ := x
    simp only [encQ] at hK ⊢
    gi_wp2
    exact hK
  case body =>
    rintro l pre x A1 W r ⟨hle, hF⟩ hpre hbd hrA hbox
    obtain ⟨x2, y0, y1⟩ := x
    have hgx : (numQ 0 (qL T))[pre.length]? = some (x2, y0, y1) := by
      obtain ⟨t, ht⟩ := hpre
      rw [← ht]
      simp
    obtain ⟨rr, hrr, hye⟩ : ∃ rr, T[pre.length]? = some rr ∧ (rr.1, rr.2.2) = (y0, y1) := by simpa [qL] using numQ_get hgx
    obtain ⟨z0, z1, z2⟩ := rr
    injection hye with hy0 hy1
    simp only at hy0 hy1
    subst hy0 hy1
    have hrl : r < W.heap.size := (Array.getElem?_eq_some_iff.1 hbox).1
    have b0 : W.cell? ⟨r, 0, none⟩ = some (.int .i64 z0) := by simp [World.cell?, hbox, encQ]
    have b1 : W.cell? ⟨r, 1, none⟩ = some (.int .i64 z2) := by simp [World.cell?, hbox, encQ]
    have q3 : W.cell? ⟨w.heap.size + 1, 0, none⟩ = some (.int .i64 key) := by simp [World.cell?, hF.kq3.trans k1']
    have q2 : W.cell? ⟨w.heap.size, 0, none⟩ = some (.pointer (some ⟨d, 0, none⟩)) := by simp [World.cell?, hF.kq2.trans k0']
    have HF := Lib.hid hF
    have HLE := Lib.hid hle
    have HRR := Lib.hid hrr
    have HBD := Lib.hid hbd
    have hlen : (pre ++ [(x2, z0, z2)]).length = pre.length + 1 := by simp
    have htk : T.take (pre.length + 1) = T.take pre.length ++ [(z0, z1, z2)] := by rw [List.take_add_one, hrr]; rfl
    have HLEN := Lib.hid hlen
    have HTK := Lib.hid htk
    simp only [encQ]
    clear hgx hpre hrr hle hF hbox hlen htk hbd
    by_cases hkey : key < z0
    · gi_wp2
      exact ⟨A1, Trip.refl HBD.out, rfl, by rw [firstT, takeWhile_part HLE.out HRR.out hkey]; exact HF.out⟩
    · have hmem : (z0, z1, z2) ∈ T := List.mem_of_getElem? HRR.out
      have KW := Lib.hid (withDue_w d b m T (z0, z1, z2) W (HF.out.kd.trans hd6.box) (hd6.map.keep HF.out.km) hmem (hd6.wfs hmem).2.2)
      simp only [encQ, encR] at KW
      have hnext : ∀ x ∈ T.take (pre.length + 1), x.1 ≤ key := by
        rw [HTK.out]
        intro x hx
        rcases List.mem_append.1 hx with hx | hx
        · exact HLE.out x hx
        · simp at hx; subst hx; simp; omega
      have HNEXT := Lib.hid hnext
      clear hmem hnext
      obtain ⟨o, ho⟩ : ∃ o, bestO (T.take pre.length) = o := ⟨_, rfl⟩
      have hF := HF.out
      rw [ho] at hF
      have HF' := Lib.hid hF
      have HBO : Hid (bestO (T.take (pre.length + 1)) = better o (z0, z1, z2)) := Lib.hid (by rw [HTK.out, bestO_snoc, ho])
      clear hF ho HF HLE HTK HRR
      gi_wp2_with fail
      refine (CallsIn.inRound l (callsIn_wide.2 KW.out)).mono ?_
      rintro e w2 ⟨rfl, hb2⟩
      have hFa : FirstAt w6 w.heap.size d m o A1 (w2.alloc (.cells #[.int .i64 z0, .int .i64 z1, .int .i64 z2] 63)) := HF'.out.keep (fun k hk => by
        have h1 := HBD.out k hk
        have h2 := hb2.size
        rw [Below.heap_alloc _ _ _ (by omega), hb2.block k h1])
      have hta : Trip A1 W A1 (w2.alloc (.cells #[.int .i64 z0, .int .i64 z1, .int .i64 z2] 63)) := (below_trip hb2 HBD.out).alloc _
      obtain ⟨wa, hwa⟩ : ∃ wa, w2.alloc (.cells #[.int .i64 z0, .int .i64 z1, .int .i64 z2] 63) = wa := ⟨_, rfl⟩
      have hba : wa.heap[w2.heap.size]? = some (.cells #[.int .i64 z0, .int .i64 z1, .int .i64 z2] 63 (0, 0)) := by rw [← hwa]; exact World.alloc_heap_new _ _
      rw [hwa] at hFa hta
      have hAw2 : ∀ k, A1 k → k < w2.heap.size := fun k hk => by have := HBD.out k hk; have := hb2.size; omega
      have hB4 := hAw2 _ ((hFa.ext (w.heap.size + 4)).2 (by simp))
      have hB3 := hAw2 _ ((hFa.ext (w.heap.size + 3)).2 (by simp))
      have a0 : wa.cell? ⟨w2.heap.size, 0, none⟩ = some (.int .i64 z0) := by simp [World.cell?, hba]
      have a1 : wa.cell? ⟨w2.heap.size, 1, none⟩ = some (.int .i64 z1) := by simp [World.cell?, hba]
      have a2 : wa.cell? ⟨w2.heap.size, 2, none⟩ = some (.int .i64 z2) := by simp [World.cell?, hba]
      have HFA := Lib.hid hFa
      have HTA := Lib.hid hta
      clear KW hb2 HF' hAw2
      cases o with
      | none =>
        have g4 : wa.cell? ⟨w.heap.size + 1 + 1 + 1 + 1, 0, none⟩ = some (.bool false) := by simp [World.cell?, show wa.heap[w.heap.size + 1 + 1 + 1 + 1]? = _ from hFa.found, optR]
        have f4 : wa.frozen? ⟨w.heap.size + 1 + 1 + 1 + 1, 0, none⟩ = false := by simp [World.frozen?, show wa.heap[w.heap.size + 1 + 1 + 1 + 1]? = _ from hFa.found]
        have g30 : wa.cell? ⟨w.heap.size + 1 + 1 + 1, 0, none⟩ = some (.int .i64 0) := by simp [World.cell?, show wa.heap[w.heap.size + 1 + 1 + 1]? = _ from hFa.first, optR, encR]
        have g31 : wa.cell? ⟨w.heap.size + 1 + 1 + 1, 1, none⟩ = some (.int .i64 0) := by simp [World.cell?, show wa.heap[w.heap.size + 1 + 1 + 1]? = _ from hFa.first, optR, encR]
        have g32 : wa.cell? ⟨w.heap.size + 1 + 1 + 1, 2, none⟩ = some (.int .i64 0) := by simp [World.cell?, show wa.heap[w.heap.size + 1 + 1 + 1]? = _ from hFa.first, optR, encR]
        have f30 : wa.frozen? ⟨w.heap.size + 1 + 1 + 1, 0, none⟩ = false := by simp [World.frozen?, show wa.heap[w.heap.size + 1 + 1 + 1]? = _ from hFa.first]
        have f31 : wa.frozen? ⟨w.heap.size + 1 + 1 + 1, 1, none⟩ = false := by simp [World.frozen?, show wa.heap[w.heap.size + 1 + 1 + 1]? = _ from hFa.first]
        have f32 : wa.frozen? ⟨w.heap.size + 1 + 1 + 1, 2, none⟩ = false := by simp [World.frozen?, show wa.heap[w.heap.size + 1 + 1 + 1]? = _ from hFa.first]
        clear hFa hta hba
        gi_wp2_with fail
        refine ⟨A1, HFA.out.trip HTA.out (z0, z1, z2), ?_⟩
        dsimp only
        rw [HLEN.out, HBO.out]
        exact ⟨HNEXT.out, HFA.out.put hdl hml (z0, z1, z2)⟩
      | some f =>
        obtain ⟨p0, p1, p2⟩ := f
        have g4 : wa.cell? ⟨w.heap.size + 1 + 1 + 1 + 1, 0, none⟩ = some (.bool true) := by simp [World.cell?, show wa.heap[w.heap.size + 1 + 1 + 1 + 1]? = _ from hFa.found, optR]
        have f4 : wa.frozen? ⟨w.heap.size + 1 + 1 + 1 + 1, 0, none⟩ = false := by simp [World.frozen?, show wa.heap[w.heap.size + 1 + 1 + 1 + 1]? = _ from hFa.found]
        have g30 : wa.cell? ⟨w.heap.size + 1 + 1 + 1, 0, none⟩ = some (.int .i64 p0) := by simp [World.cell?, show wa.heap[w.heap.size + 1 + 1 + 1]? = _ from hFa.first, optR, encR]
        have g31 : wa.cell? ⟨w.heap.size + 1 + 1 + 1, 1, none⟩ = some (.int .i64 p1) := by simp [World.cell?, show wa.heap[w.heap.size + 1 + 1 + 1]? = _ from hFa.first, optR, encR]
        have g32 : wa.cell? ⟨w.heap.size + 1 + 1 + 1, 2, none⟩ = some (.int .i64 p2) := by simp [World.cell?, show wa.heap[w.heap.size + 1 + 1 + 1]? = _ from hFa.first, optR, encR]
        have KB := Lib.hid (isDueBefore_c (z0, z1, z2) (p0, p1, p2) wa)
        simp only [encR] at KB
        have HBA := Lib.hid hba
        clear hFa hta hba
        gi_wp2_with fail
        clear hwa
        refine (CallsIn.inRound l (callsIn_wide.2 KB.out)).mono ?_
        rintro e wb ⟨rfl, hbb⟩
        have hFb : FirstAt w6 w.heap.size d m (some (p0, p1, p2)) A1 wb := HFA.out.keep (fun k hk => hbb.block k (HTA.out.bd k hk))
        have htb : Trip A1 W A1 wb := HTA.out.trans (below_trip hbb HTA.out.bd)
        have hbb' := (hbb.block _ (Array.getElem?_eq_some_iff.1 HBA.out).1).trans HBA.out
        clear a0 a1 a2 g4 f4 g30 g31 g32 KB
        have a0 : wb.cell? ⟨w2.heap.size, 0, none⟩ = some (.int .i64 z0) := by simp [World.cell?, hbb']
        have a1 : wb.cell? ⟨w2.heap.size, 1, none⟩ = some (.int .i64 z1) := by simp [World.cell?, hbb']
        have a2 : wb.cell? ⟨w2.heap.size, 2, none⟩ = some (.int .i64 z2) := by simp [World.cell?, hbb']
        have g4 : wb.cell? ⟨w.heap.size + 1 + 1 + 1 + 1, 0, none⟩ = some (.bool true) := by simp [World.cell?, show wb.heap[w.heap.size + 1 + 1 + 1 + 1]? = _ from hFb.found, optR]
        have f4 : wb.frozen? ⟨w.heap.size + 1 + 1 + 1 + 1, 0, none⟩ = false := by simp [World.frozen?, show wb.heap[w.heap.size + 1 + 1 + 1 + 1]? = _ from hFb.found]
        have g30 : wb.cell? ⟨w.heap.size + 1 + 1 + 1, 0, none⟩ = some (.int .i64 p0) := by simp [World.cell?, show wb.heap[w.heap.size + 1 + 1 + 1]? = _ from hFb.first, optR, encR]
        have g31 : wb.cell? ⟨w.heap.size + 1 + 1 + 1, 1, none⟩ = some (.int .i64 p1) := by simp [World.cell?, show wb.heap[w.heap.size + 1 + 1 + 1]? = _ from hFb.first, optR, encR]
        have g32 : wb.cell? ⟨w.heap.size + 1 + 1 + 1, 2, none⟩ = some (.int .i64 p2) := by simp [World.cell?, show wb.heap[w.heap.size + 1 + 1 + 1]? = _ from hFb.first, optR, encR]
        have f30 : wb.frozen? ⟨w.heap.size + 1 + 1 + 1, 0, none⟩ = false := by simp [World.frozen?, show wb.heap[w.heap.size + 1 + 1 + 1]? = _ from hFb.first]
        have f31 : wb.frozen? ⟨w.heap.size + 1 + 1 + 1, 1, none⟩ = false := by simp [World.frozen?, show wb.heap[w.heap.size + 1 + 1 + 1]? = _ from hFb.first]
        have f32 : wb.frozen? ⟨w.heap.size + 1 + 1 + 1, 2, none⟩ = false := by simp [World.frozen?, show wb.heap[w.heap.size + 1 + 1 + 1]? = _ from hFb.first]
        have HFB := Lib.hid hFb
        have HTB := Lib.hid htb
        clear hFb htb hbb hbb' HFA HTA HBA
        cases hdb : dueB (z0, z1, z2) (p0, p1, p2) with
        | true =>
          have HBO' : Hid (bestO (T.take (pre.length + 1)) = some (z0, z1, z2)) := Lib.hid (by rw [HBO.out, better]; simp [hdb])
          clear hdb
          gi_wp2_with fail
          refine ⟨A1, HFB.out.trip HTB.out (z0, z1, z2), ?_⟩
          dsimp only
          rw [HLEN.out, HBO'.out]
          exact ⟨HNEXT.out, HFB.out.put hdl hml (z0, z1, z2)⟩
        | false =>
          have HBO' : Hid (bestO (T.take (pre.length + 1)) = some (p0, p1, p2)) := Lib.hid (by rw [HBO.out, better]; simp [hdb])
          clear hdb
          gi_wp2_with fail
          refine ⟨A1, HTB.out, ?_⟩
          dsimp only
          rw [HLEN.out, HBO'.out]
          exact ⟨HNEXT.out, HFB.out⟩
  case done =>
    rintro D A2 W ht hnD hD ⟨hle, hF⟩ hK
    rw [numQ_length, qL_length, List.take_length] at hle hF
    have hF' : FirstAt w6 w.heap.size d m (firstT key T) A2 W := by rw [firstT, takeWhile_all hle]; exact hF
    have hfi := hF'.first
    have hfo := hF'.found
    rw [HOB.out] at hfi hfo
    simp only [encR] at hfi hfo
    have hre : W.heap[w.heap.size + 2]? = some (.cells #[.int .i64 0, .int .i64 0, .int .i64 0] 63 (0, 0)) := (ht.block _ (by omega) (by omega)).trans k2'
    have g4 : W.cell? ⟨w.heap.size + 1 + 1 + 1 + 1, 0, none⟩ = some (.bool bb) := by simp [World.cell?, show W.heap[w.heap.size + 1 + 1 + 1 + 1]? = _ from hfo]
    have g30 : W.cell? ⟨w.heap.size + 1 + 1 + 1, 0, none⟩ = some (.int .i64 p0) := by simp [World.cell?, show W.heap[w.heap.size + 1 + 1 + 1]? = _ from hfi]
    have g31 : W.cell? ⟨w.heap.size + 1 + 1 + 1, 1, none⟩ = some (.int .i64 p1) := by simp [World.cell?, show W.heap[w.heap.size + 1 + 1 + 1]? = _ from hfi]
    have g32 : W.cell? ⟨w.heap.size + 1 + 1 + 1, 2, none⟩ = some (.int .i64 p2) := by simp [World.cell?, show W.heap[w.heap.size + 1 + 1 + 1]? = _ from hfi]
    have g20 : W.cell? ⟨w.heap.size + 1 + 1, 0, none⟩ = some (.int .i64 0) := by simp [World.cell?, show W.heap[w.heap.size + 1 + 1]? = _ from hre]
    have g21 : W.cell? ⟨w.heap.size + 1 + 1, 1, none⟩ = some (.int .i64 0) := by simp [World.cell?, show W.heap[w.heap.size + 1 + 1]? = _ from hre]
    have g22 : W.cell? ⟨w.heap.size + 1 + 1, 2, none⟩ = some (.int .i64 0) := by simp [World.cell?, show W.heap[w.heap.size + 1 + 1]? = _ from hre]
    have f20 : W.frozen? ⟨w.heap.size + 1 + 1, 0, none⟩ = false := by simp [World.frozen?, show W.heap[w.heap.size + 1 + 1]? = _ from hre]
    have f21 : W.frozen? ⟨w.heap.size + 1 + 1, 1, none⟩ = false := by simp [World.frozen?, show W.heap[w.heap.size + 1 + 1]? = _ from hre]
    have f22 : W.frozen? ⟨w.heap.size + 1 + 1, 2, none⟩ = false := by simp [World.frozen?, show W.heap[w.heap.size + 1 + 1]? = _ from hre]
    have HT := Lib.hid ht
    have HK := Lib.hid hK
    have HFF := Lib.hid hF'
    have HRE := Lib.hid hre
    have HND := Lib.hid hnD
    clear ht hK hF' hfi hfo hre hnD hle hF k0' k1' k2' k3' k4' hseq
    gi_wp2
    gi_region
    gi_wp2
    refine ⟨by simp, .inl ⟨_, _, rfl, run_takeDeferred ((set3_other (w := W) (r := w.heap.size + 2) _ _ _ (by omega)).trans HK.out), ?_⟩⟩
    refine ⟨_, res_due rfl _ (w.heap.size + 2) #[.int .i64 p0, .int .i64 p1, .int .i64 p2] bb _ rfl rfl rfl ((World.putObj_heap_other (by omega)).trans (set3_same (w := W) _ _ _ HRE.out)), rfl, ?_⟩
    exact below_putObj (below_set3 (first_below HB6.out HT.out HFF.out) (r := w.heap.size + 2) (by omega) _ _ _).drew (by omega) _
  case stop =>
    rintro D c pre A2 W ht hnD hD _ ⟨rfl, hF'⟩ hK
    have hfi := hF'.first
    have hfo := hF'.found
    rw [HOB.out] at hfi hfo
    simp only [encR] at hfi hfo
    have hre : W.heap[w.heap.size + 2]? = some (.cells #[.int .i64 0, .int .i64 0, .int .i64 0] 63 (0, 0)) := (ht.block _ (by omega) (by omega)).trans k2'
    have g4 : W.cell? ⟨w.heap.size + 1 + 1 + 1 + 1, 0, none⟩ = some (.bool bb) := by simp [World.cell?, show W.heap[w.heap.size + 1 + 1 + 1 + 1]? = _ from hfo]
    have g30 : W.cell? ⟨w.heap.size + 1 + 1 + 1, 0, none⟩ = some (.int .i64 p0) := by simp [World.cell?, show W.heap[w.heap.size + 1 + 1 + 1]? = _ from hfi]
    have g31 : W.cell? ⟨w.heap.size + 1 + 1 + 1, 1, none⟩ = some (.int .i64 p1) := by simp [World.cell?, show W.heap[w.heap.size + 1 + 1 + 1]? = _ from hfi]
    have g32 : W.cell? ⟨w.heap.size + 1 + 1 + 1, 2, none⟩ = some (.int .i64 p2) := by simp [World.cell?, show W.heap[w.heap.size + 1 + 1 + 1]? = _ from hfi]
    have g20 : W.cell? ⟨w.heap.size + 1 + 1, 0, none⟩ = some (.int .i64 0) := by simp [World.cell?, show W.heap[w.heap.size + 1 + 1]? = _ from hre]
    have g21 : W.cell? ⟨w.heap.size + 1 + 1, 1, none⟩ = some (.int .i64 0) := by simp [World.cell?, show W.heap[w.heap.size + 1 + 1]? = _ from hre]
    have g22 : W.cell? ⟨w.heap.size + 1 + 1, 2, none⟩ = some (.int .i64 0) := by simp [World.cell?, show W.heap[w.heap.size + 1 + 1]? = _ from hre]
    have f20 : W.frozen? ⟨w.heap.size + 1 + 1, 0, none⟩ = false := by simp [World.frozen?, show W.heap[w.heap.size + 1 + 1]? = _ from hre]
    have f21 : W.frozen? ⟨w.heap.size + 1 + 1, 1, none⟩ = false := by simp [World.frozen?, show W.heap[w.heap.size + 1 + 1]? = _ from hre]
    have f22 : W.frozen? ⟨w.heap.size + 1 + 1, 2, none⟩ = false := by simp [World.frozen?, show W.heap[w.heap.size + 1 + 1]? = _ from hre]
    have HT := Lib.hid ht
    have HK := Lib.hid hK
    have HFF := Lib.hid hF'
    have HRE := Lib.hid hre
    have HND := Lib.hid hnD
    clear ht hK hF' hfi hfo hre hnD k0' k1' k2' k3' k4' hseq
    gi_wp2
    gi_region
    gi_wp2
    refine ⟨by simp, .inl ⟨_, _, rfl, run_takeDeferred ((set3_other (w := W) (r := w.heap.size + 2) _ _ _ (by omega)).trans HK.out), ?_⟩⟩
    refine ⟨_, res_due rfl _ (w.heap.size + 2) #[.int .i64 p0, .int .i64 p1, .int .i64 p2] bb _ rfl rfl rfl ((World.putObj_heap_other (by omega)).trans (set3_same (w := W) _ _ _ HRE.out)), rfl, ?_⟩
    exact below_putObj (below_set3 (first_below HB6.out HT.out HFF.out) (r := w.heap.size + 2) (by omega) _ _ _).drew (by omega) _
end Go.Proofs.Ytaodkfnbmpbcfaa
