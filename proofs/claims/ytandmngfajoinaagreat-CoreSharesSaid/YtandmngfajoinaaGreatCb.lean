/- A core: Form, Load, Change, New, Seed; what the document tells of an empty one. -/
import Derived.Test.YtandmngfajoinaaGreatCa
namespace Go.Proofs.YtandmngfajoinaaGreat.Po
open Go.RowKit Go.Maps

section
variable {t : Int} {W w w' : World} {o S N : Nat} {base cur idle age : Int} {T : List TI} {C : Int → Int} {F : Nat → Prop}
set_option maxHeartbeats 1000000 in
theorem cform_in (h : CIn t W w o base cur T C idle age S N F) :
    Calls Tryz.prog 21 #[.pointer (some ⟨o, 0, none⟩)] w fun e w' => ∃ A c, e = .returned (.agg #[.int .i64 cur, .slice A T.length c]) ∧ TRow w' A (formU base T) ∧ Below w.heap.size w w' := by
  have hb1 : Below w.heap.size w (w.alloc (.cells #[.int .i64 0, .slice none 0 0] 47)) := (Below.refl _ w).alloc (Nat.le_refl _) _
  have hf1 : FoAt (w.alloc (.cells #[.int .i64 0, .slice none 0 0] 47)) w.heap.size 0 none 0 0 := heap_alloc_new w _
  obtain ⟨w1, hw1⟩ : ∃ w1, w.alloc (.cells #[.int .i64 0, .slice none 0 0] 47) = w1 := ⟨_, rfl⟩
  have hs1 : w1.heap.size = w.heap.size + 1 := by rw [← hw1]; simp
  rw [hw1] at hb1 hf1
  obtain ⟨p, m, h1, h2, -, -, -, -⟩ := h.below hb1
  obtain ⟨c0, -, -, -, -, -, -⟩ := h2.cells
  have K := Lib.hid (sform_in h1)
  have H1 := Lib.hid (And.intro hb1 (And.intro hf1 hs1))
  clear h h1 h2 hb1 hf1 hs1
  generalize formU base T = L0 at *
  generalize T.length = n0 at *
  go_enter Tryz.func21, Tryz.ntmps21
  go_wp2_with fail
  refine K.out.mono ?_
  rintro e w2 ⟨A2, c2, rfl, hT, hb⟩
  have hf2 : FoAt w2 w.heap.size 0 none 0 0 := BoxAt.next H1.out.2.1 hb (Nat.le_refl _)
  obtain ⟨t0, t1, t2, t3⟩ := two_cells hf2 (.int .i64 cur)
  have hf3 : FoAt (set2 w2 w.heap.size (.int .i64 cur) (.slice A2 n0 c2)) w.heap.size cur A2 n0 c2 := set2_same _ _ hf2
  have hb3 : Below w.heap.size w (set2 w2 w.heap.size (.int .i64 cur) (.slice A2 n0 c2)) := below_set2 _ _ (H1.out.1.trans (hb.mono (by have := H1.out.2.2; omega))) (Nat.le_refl _)
  have hT3 : TRow (set2 w2 w.heap.size (.int .i64 cur) (.slice A2 n0 c2)) A2 L0 := trow_set2 hf2 hT _ _
  have HT := Lib.hid (And.intro hf3 (And.intro hT3 hb3))
  clear hT hb K hf2 hf3 hb3 hT3
  go_wp2_with fail
  refine bodyPost_ret (res_box1 rfl _ w.heap.size _ _ rfl HT.out.1 Tryz.underlying47 rfl (by kernel_rfl)) rfl ?_
  exact ⟨_, c2, rfl, HT.out.2⟩

/-- What all weigh. -/
theorem form_20 {base0 cur0 : Int} (hw : WfS base0 cur0 (cutL T)) : ∀ r ∈ formU base T, 1 ≤ r.2.1 ∧ r.2.1 ≤ 20 := fun r hr => by
  unfold formU formL at hr
  obtain ⟨q, hq, rfl⟩ := List.mem_map.1 hr
  have := hw.each q hq
  exact ⟨this.2.2.1, this.2.2.2.1⟩
theorem load_bd {base0 cur0 : Int} (hw : WfS base0 cur0 (cutL T)) (k : Nat) : 0 ≤ allW ((formU base T).take k) ∧ allW ((formU base T).take k) ≤ 1280 := by
  have h20 := form_20 (base := base) hw
  have h1 := (allW_bd h20).2
  have h2 := allW_take h20 k
  have h3 := (allW_bd (l := (formU base T).take k) (fun r hr => h20 r (List.mem_of_mem_take hr))).1
  have h4 := len_of hw
  rw [formU_length] at h1
  omega
set_option maxRecDepth 100000 in
set_option maxHeartbeats 4000000 in
theorem cload_in (h : CIn t W w o base cur T C idle age S N F) :
    Calls Tryz.prog 30 #[.pointer (some ⟨o, 0, none⟩)] w (Ret10 (.int .i64 (allT T)) w) := by
  have K := Lib.hid (cform_in h)
  have HWA : Hid (∀ k, 0 ≤ allW ((formU base T).take k) ∧ allW ((formU base T).take k) ≤ 1280) := Lib.hid (load_bd h.wf)
  have hl64 := len_of h.wf
  have hn : (formU base T).length = T.length := formU_length _ _
  rw [← allT_form base T]
  have HN := Lib.hid hn
  have HW20 : Hid (∀ r ∈ formU base T, 1 ≤ r.2.1 ∧ r.2.1 ≤ 20) := Lib.hid (form_20 h.wf)
  clear h hn
  generalize formU base T = l at *
  generalize T.length = n at *
  go_enter Tryz.func30, Tryz.ntmps30
  go_wp2_with fail
  refine K.out.mono ?_
  rintro e w1 ⟨A, c, rfl, hT, hb⟩
  have HR := Lib.hid (And.intro hT hb)
  have hfld : ∀ W : World, (Instr.field 47 (.agg #[.int .i64 cur, .slice A n c]) 1).run Tryz.prog W = .ok (.slice A n c) W := fun _ => by kernel_rfl
  clear K hT hb
  go_wp2_with fail
  go_loopw [3, 10] (fun s i wr => ∃ (k : Nat) (z : Int), i = .int .i64 k ∧ s = .int .i64 z ∧ k ≤ n ∧ allW (l.take k) = z ∧ Below w1.heap.size w1 wr) (fun _ i _ => n - (intOf i).toNat)
  case atStart => exact ⟨0, 0, rfl, rfl, Nat.zero_le _, rfl, Below.refl _ _⟩
  case round =>
    obtain ⟨k, z, rfl, rfl, hk, hz, hbw⟩ := hrel
    have HZ := Lib.hid hz
    have HBW := Lib.hid hbw
    have hzb := HWA.out k
    rw [hz] at hzb
    obtain ⟨hz1, hz2⟩ := hzb
    clear hz hbw
    by_cases hlt : k < n
    · obtain ⟨y, hx⟩ : ∃ y, l[k]? = some y := ⟨_, List.getElem?_eq_getElem (by rw [HN.out]; exact hlt)⟩
      obtain ⟨ad, rfl, c0, c1, c2⟩ := (HR.out.1.below HBW.out (Nat.le_refl _)).at hx
      have HX : Hid (allW (l.take (k + 1)) = allW (l.take k) + y.2.1) := Lib.hid (by rw [take_snocR hx, allW_snoc])
      have HB1 := Lib.hid (HBW.out.alloc HBW.out.size (.cells #[.int .i64 y.1, .int .i64 y.2.1, .int .i64 y.2.2] 69))
      have hyw := HW20.out y (List.mem_of_getElem? hx)
      obtain ⟨y0, y1, y2⟩ := y
      simp only at c0 c1 c2 hyw HX HB1
      have hw1 : IntKind.i64.wrap (z + y1) = z + y1 := by rw [IntKind.wrap_i64]; omega
      have hkn : (k : Int) < (n : Int) := by omega
      clear hx hyw
      go_wp2_with fail
      go_roundw
      case rel => exact ⟨k + 1, z + y1, by go_num, rfl, by omega, by rw [HX.out, HZ.out], HB1.out⟩
      case measure => simp [intOf]; omega
    · obtain rfl : k = n := by omega
      obtain rfl : z = allW l := by rw [← HZ.out, ← HN.out, List.take_length]
      have hnn : decide ((k : Int) < (k : Int)) = false := by simp
      have HBR := Lib.hid (HR.out.2.trans (HBW.out.mono HR.out.2.size))
      go_wp2_with fail
      go_ret
      exact ⟨rfl, HBR.out⟩

/-! Another queue -/
theorem cchange_nil (_h : CIn t W w o base cur T C idle age S N F) :
    Calls Tryz.prog 22 #[.pointer (some ⟨o, 0, none⟩), .pointer none] w fun e w' => e = .returned (.int .i64 1) ∧ w = w' := by
  go_enter Tryz.func22, Tryz.ntmps22
  go_wp2_with fail
  go_ret
  exact ⟨rfl, rfl⟩
theorem CIn.lts (h : CIn t W w o base cur T C idle age S N F) : o < w.heap.size ∧ ∀ k, F k → k < w.heap.size := by
  obtain ⟨p, m, ⟨A, st, _, _, _, _, _, g⟩, h2, h3, -⟩ := h
  exact ⟨h2.lt, fun k hk => (g k (.inl hk)).1⟩
/-- Its queue is another one. -/
theorem CIn.set0 {t2 : Int} {w0 : World} {q S2 : Nat} {base2 cur2 : Int} {T2 : List TI} (h0 : CIn t W w0 o base cur T C idle age S N F) (hb : Below w0.heap.size w0 w) (h2 : SIn t2 W w q base2 cur2 T2 S2 (fun k => k < w0.heap.size)) :
    CIn t2 W (w.setCell ⟨o, 0, none⟩ (.pointer (some ⟨q, 0, none⟩))) o base2 cur2 T2 C idle age S2 N F ∧ ∀ k, F k → (w.setCell ⟨o, 0, none⟩ (.pointer (some ⟨q, 0, none⟩))).heap[k]? = w.heap[k]? := by
  obtain ⟨ho, hF⟩ := h0.lts
  obtain ⟨p, m, g1, g2, g3, g4, g5, g6⟩ := h0
  have hm := g3.lt
  have hk : ∀ k, k ≠ o → (w.setCell ⟨o, 0, none⟩ (.pointer (some ⟨q, 0, none⟩))).heap[k]? = w.heap[k]? := fun k hk => Below.heap_setCell w _ _ k hk
  have h3 := h2.turn (w' := w.setCell ⟨o, 0, none⟩ (.pointer (some ⟨q, 0, none⟩))) o ho (h2.frame.setCell g4.1 _) (by simp [World.setCell]) (fun k _ hne => hk k hne)
  obtain ⟨A, st, a1, a2, a3, a4, a5, a6⟩ := h3
  refine ⟨⟨q, m, ⟨A, st, a1, a2, a3, a4, a5, fun k hk' => a6 k ?_⟩, (g2.keep (hb.block o ho)).set0 q, (g3.keep (hb.block m hm)).keep (hk m (fun e => g4.2.2 e.symm)), g4, g5, g6⟩, fun k hk' => hk k (g5 k hk').1⟩
  rcases hk' with h | rfl | rfl
  · exact hF k h
  · exact ho
  · exact hm
set_option maxHeartbeats 2000000 in
theorem cchange_in {t2 : Int} {w0 : World} {q S2 : Nat} {base2 cur2 : Int} {T2 : List TI} (h0 : CIn t W w0 o base cur T C idle age S N F) (hb : Below w0.heap.size w0 w) (h2 : SIn t2 W w q base2 cur2 T2 S2 (fun k => k < w0.heap.size)) :
    Calls Tryz.prog 22 #[.pointer (some ⟨o, 0, none⟩), .pointer (some ⟨q, 0, none⟩)] w fun e w' =>
      if sameB cur2 cur (formU base2 T2) (formU base T) = true then e = .returned (.int .i64 0) ∧ CIn t2 W w' o base2 cur2 T2 C idle age S2 N F ∧ ∀ k, F k → w'.heap[k]? = w.heap[k]?
      else e = .returned (.int .i64 4) ∧ Below w.heap.size w w' := by
  have hc := h0.below hb
  have hn := len_of hc.wf
  have hn2 := len_of h2.wf
  have KF1 := Lib.hid (sform_in h2)
  have KF2 : Hid (∀ W', Below w.heap.size w W' → Calls Tryz.prog 21 #[.pointer (some ⟨o, 0, none⟩)] W' fun e w' => ∃ A c, e = .returned (.agg #[.int .i64 cur, .slice A T.length c]) ∧ TRow w' A (formU base T) ∧ Below W'.heap.size W' w') := Lib.hid (fun W' hb' => cform_in (hc.below hb'))
  have POST : Hid (∀ W', Below w.heap.size w W' → W'.cell? ⟨o, 0, none⟩ ≠ none ∧ W'.frozen? ⟨o, 0, none⟩ = false ∧ CIn t2 W (W'.setCell ⟨o, 0, none⟩ (.pointer (some ⟨q, 0, none⟩))) o base2 cur2 T2 C idle age S2 N F ∧ ∀ k, F k → (W'.setCell ⟨o, 0, none⟩ (.pointer (some ⟨q, 0, none⟩))).heap[k]? = w.heap[k]?) := Lib.hid (fun W' hb' => by
    obtain ⟨e1, e2⟩ := CIn.set0 h0 (hb.trans (hb'.mono hb.size)) (h2.below hb')
    have hl := h0.lts
    have hs := hb.size
    obtain ⟨p, m, -, g2, -⟩ := hc.below hb'
    obtain ⟨c0, -, -, -, f0, -, -⟩ := g2.cells
    exact ⟨by rw [c0]; simp, f0, e1, fun k hk => (e2 k hk).trans (hb'.block k (by have := hl.2 k hk; omega))⟩)
  have KS : Hid (∀ W' A2 c2 A1 c1, TRow W' A2 (formU base2 T2) → TRow W' A1 (formU base T) → Calls Tryz.prog 34 #[.agg #[.int .i64 cur2, .slice A2 T2.length c2], .agg #[.int .i64 cur, .slice A1 T.length c1]] W' (Ret10 (.bool (sameB cur2 cur (formU base2 T2) (formU base T))) W')) := Lib.hid (fun W' A2 c2 A1 c1 r2 r1 => same_c cur2 cur A2 A1 T2.length c2 T.length c1 _ _ W' (formU_length _ _) (formU_length _ _) (by omega) r2 r1)
  clear hc h0 h2 hb hn hn2
  generalize formU base2 T2 = L2 at *
  generalize formU base T = L1 at *
  generalize T2.length = n2 at *
  generalize T.length = n1 at *
  generalize sameB cur2 cur L2 L1 = B at *
  go_enter Tryz.func22, Tryz.ntmps22
  go_wp2_with fail
  refine KF1.out.mono ?_
  rintro e w1 ⟨A2, c2, rfl, hT2, hb2⟩
  have H2 := Lib.hid (And.intro hT2 hb2)
  clear hT2 hb2 KF1
  go_wp2_with fail
  refine (KF2.out _ H2.out.2).mono ?_
  rintro e w2 ⟨A1, c1, rfl, hT1, hb1⟩
  have HB2 := Lib.hid (H2.out.2.trans (hb1.mono H2.out.2.size))
  have KS2 := Lib.hid (KS.out w2 A2 c2 A1 c1 (H2.out.1.below hb1 (Nat.le_refl _)) hT1)
  clear hT1 hb1 KF2 KS H2
  go_wp2_with fail
  refine KS2.out.mono ?_
  rintro e w3 ⟨rfl, hb3⟩
  have HB3 := Lib.hid (HB2.out.trans (hb3.mono HB2.out.size))
  clear hb3 HB2 KS2
  cases B with
  | false =>
    clear POST
    go_wp2_with fail
    go_ret
    exact ⟨rfl, HB3.out⟩
  | true =>
    obtain ⟨c0, f0, hp⟩ := POST.out _ HB3.out
    obtain ⟨v0, c0⟩ := Option.ne_none_iff_exists'.1 c0
    have HP := Lib.hid hp
    clear hp POST
    go_wp2_with fail
    go_ret
    exact ⟨rfl, HP.out⟩
end

/-! New ones -/
theorem heap_two (w : World) (a b : Obj) : ((w.alloc a).alloc b).heap[w.heap.size]? = some a ∧ ((w.alloc a).alloc b).heap[w.heap.size + 1]? = some b := by
  have h1 := World.alloc_heap_new w a
  have h2 := World.alloc_heap_new (w.alloc a) b
  rw [World.size_alloc] at h2
  exact ⟨(Below.heap_alloc (w.alloc a) b w.heap.size (by rw [World.size_alloc]; omega)).trans h1, h2⟩
theorem cin_new {t : Int} {W w : World} {q S : Nat} {base cur : Int} {T : List TI} {F : Nat → Prop} (h : SIn t W w q base cur T S F) :
    CIn t W ((w.alloc (.map #[] 0)).alloc (.cells #[.pointer (some ⟨q, 0, none⟩), .map (some w.heap.size), .int .i64 0, .int .i64 0] 80)) (w.heap.size + 1) base cur T (fun _ => 0) 0 0 S 0 F ∧
    Below w.heap.size w ((w.alloc (.map #[] 0)).alloc (.cells #[.pointer (some ⟨q, 0, none⟩), .map (some w.heap.size), .int .i64 0, .int .i64 0] 80)) := by
  have hb : Below w.heap.size w ((w.alloc (.map #[] 0)).alloc (.cells #[.pointer (some ⟨q, 0, none⟩), .map (some w.heap.size), .int .i64 0, .int .i64 0] 80)) := ((Below.refl _ w).alloc (Nat.le_refl _) _).alloc (by simp) _
  have hz : ((w.alloc (.map #[] 0)).alloc (.cells #[.pointer (some ⟨q, 0, none⟩), .map (some w.heap.size), .int .i64 0, .int .i64 0] 80)).heap.size = w.heap.size + 2 := by simp
  have hs := h.frame.size
  have hF : ∀ k, F k → k < w.heap.size := fun k hk => by
    obtain ⟨A, st, _, _, _, _, _, g⟩ := h
    exact (g k hk).1
  obtain ⟨g1, g2⟩ := heap_two w (.map #[] 0) (.cells #[.pointer (some ⟨q, 0, none⟩), .map (some w.heap.size), .int .i64 0, .int .i64 0] 80)
  refine ⟨⟨q, w.heap.size, h.more hb (fun k hk => ?_), g2, (CMap.new w).keep (Below.heap_alloc _ _ _ (by rw [World.size_alloc]; omega)), ⟨by omega, hs, by omega⟩, fun k hk => ⟨by have := hF k hk; omega, by have := hF k hk; omega⟩, by omega⟩, hb⟩
  rcases hk with hk | rfl | rfl
  · exact .inl hk
  · exact .inr ⟨by omega, by omega⟩
  · exact .inr ⟨by omega, by omega⟩
set_option maxRecDepth 100000 in
theorem cover_yes (q : Nat) (w : World) :
    Calls Tryz.prog 35 #[.pointer (some ⟨q, 0, none⟩), .int .i64 0] w fun e w' => e = .returned (.tuple #[.pointer (some ⟨w.heap.size + 1, 0, none⟩), .int .i64 0]) ∧ w' = (w.alloc (.map #[] 0)).alloc (.cells #[.pointer (some ⟨q, 0, none⟩), .map (some w.heap.size), .int .i64 0, .int .i64 0] 80) := by
  have hmm := @run_makeMap Tryz.prog
  go_enter Tryz.func35, Tryz.ntmps35
  go_wp2
  go_ret2
  exact ⟨rfl, rfl⟩
theorem cover_no (w : World) :
    Calls Tryz.prog 35 #[.pointer none, .int .i64 1] w fun e w' => e = .returned (.tuple #[.pointer none, .int .i64 1]) ∧ w = w' := by
  go_enter Tryz.func35, Tryz.ntmps35
  go_wp2
  go_ret2
  exact ⟨rfl, rfl⟩
/-- What New and Seed answer. -/
def CSeedP (t base f0 : Int) (l : List RI) (W : World) (F : Nat → Prop) (w : World) (e : Ending) (w' : World) : Prop :=
  if Tag t ∧ SdOk base f0 l then ∃ o, e = .returned (.tuple #[.pointer (some ⟨o, 0, none⟩), .int .i64 0]) ∧ CIn t W w' o base f0 (seedU base l) (fun _ => 0) 0 0 4000 0 F ∧ Below w.heap.size w w'
  else e = .returned (.tuple #[.pointer none, .int .i64 1]) ∧ Below w.heap.size w w'
set_option maxHeartbeats 2000000 in
theorem cnew_in (t base : Int) {W w : World} {F : Nat → Prop} (hb : Below W.heap.size W w) (hF : ∀ k, F k → k < w.heap.size) :
    Calls Tryz.prog 9 #[.int .i64 t, .int .i64 base] w (CSeedP t base (-1) [] W F w) := by
  have K0 := pnew_p t base w
  by_cases hg : Tag t ∧ SdOk base (-1) []
  · refine Calls.mono (?_ : Calls _ _ _ _ (fun e w' => ∃ o, e = .returned (.tuple #[.pointer (some ⟨o, 0, none⟩), .int .i64 0]) ∧ CIn t W w' o base (-1) (seedU base []) (fun _ => 0) 0 0 4000 0 F ∧ Below w.heap.size w w')) (fun e w' h => by unfold CSeedP; rw [if_pos hg]; exact h)
    have K := Lib.hid (K0.mono (fun e w' h => by
      unfold SeedP at h
      rw [if_pos hg] at h
      obtain ⟨p, A, st, he, hq, s1, s2, hn, hb'⟩ := h
      exact (⟨p, he, seed_in hb hF hq s1 s2 hn hb', hb'⟩ : ∃ p, e = .returned (.tuple #[.pointer (some ⟨p, 0, none⟩), .int .i64 0]) ∧ SIn t W w' p base (-1) (seedU base []) 4000 F ∧ Below w.heap.size w w')))
    clear hg K0 hb hF
    go_enter Tryz.func9, Tryz.ntmps9
    go_wp2_with fail
    refine K.out.mono ?_
    rintro e w1 ⟨p, rfl, hq, hb⟩
    obtain ⟨hc, hb2⟩ := cin_new hq
    have K2 := Lib.hid (cover_yes p w1)
    have HQ := Lib.hid (And.intro hc (hb.trans (hb2.mono hb.size)))
    clear hq hb hc hb2 K
    go_wp2_with fail
    refine K2.out.mono ?_
    rintro e w2 ⟨rfl, rfl⟩
    clear K2
    go_wp2_with fail
    go_ret2
    exact ⟨_, rfl, HQ.out⟩
  · refine Calls.mono (?_ : Calls _ _ _ _ (fun e w' => e = .returned (.tuple #[.pointer none, .int .i64 1]) ∧ Below w.heap.size w w')) (fun e w' h => by unfold CSeedP; rw [if_neg hg]; exact h)
    have K := Lib.hid (K0.mono (fun e w' h => by unfold SeedP at h; rw [if_neg hg] at h; exact h))
    clear hg K0 hb hF
    go_enter Tryz.func9, Tryz.ntmps9
    go_wp2_with fail
    refine K.out.mono ?_
    rintro e w1 ⟨rfl, hb⟩
    have K2 := Lib.hid (cover_no w1)
    have HB := Lib.hid hb
    clear hb K
    go_wp2_with fail
    refine K2.out.mono ?_
    rintro e w2 ⟨rfl, rfl⟩
    clear K2
    go_wp2_with fail
    go_ret2
    exact ⟨rfl, HB.out⟩
set_option maxHeartbeats 2000000 in
theorem cseed_in (t f0 base : Int) (A : Option Addr) (n c : Nat) (l : List RI) {W w : World} {F : Nat → Prop} (hn : l.length = n) (hl : n ≤ 4611686018427387904) (hr : TRow w A l) (hb : Below W.heap.size W w) (hF : ∀ k, F k → k < w.heap.size) :
    Calls Tryz.prog 33 #[.int .i64 t, .agg #[.int .i64 f0, .slice A n c], .int .i64 base] w (CSeedP t base f0 l W F w) := by
  have hb1 : Below w.heap.size w (w.alloc (.cells #[.int .i64 f0, .slice A n c] 47)) := (Below.refl _ w).alloc (Nat.le_refl _) _
  have hf1 : FoAt (w.alloc (.cells #[.int .i64 f0, .slice A n c] 47)) w.heap.size f0 A n c := heap_alloc_new w _
  obtain ⟨w1, hw1⟩ : ∃ w1, w.alloc (.cells #[.int .i64 f0, .slice A n c] 47) = w1 := ⟨_, rfl⟩
  rw [hw1] at hb1 hf1
  have hbW : Below W.heap.size W w1 := hb.trans (hb1.mono hb.size)
  have hF1 : ∀ k, F k → k < w1.heap.size := fun k hk => by have := hF k hk; have := hb1.size; omega
  have K0 := sseed_p f0 base A n c l w1 t hn hl (hr.below hb1 (Nat.le_refl _))
  obtain ⟨d0, d1, -, -⟩ := FoAt.cells hf1
  have HB1 := Lib.hid hb1
  clear hf1 hb1 hr hn hl
  by_cases hg : Tag t ∧ SdOk base f0 l
  · refine Calls.mono (?_ : Calls _ _ _ _ (fun e w' => ∃ o, e = .returned (.tuple #[.pointer (some ⟨o, 0, none⟩), .int .i64 0]) ∧ CIn t W w' o base f0 (seedU base l) (fun _ => 0) 0 0 4000 0 F ∧ Below w.heap.size w w')) (fun e w' h => by unfold CSeedP; rw [if_pos hg]; exact h)
    have K := Lib.hid (K0.mono (fun e w' h => by
      unfold SeedP at h
      rw [if_pos hg] at h
      obtain ⟨p, A, st, he, hq, s1, s2, hn, hb'⟩ := h
      exact (⟨p, he, seed_in hbW hF1 hq s1 s2 hn hb', HB1.out.trans (hb'.mono HB1.out.size)⟩ : ∃ p, e = .returned (.tuple #[.pointer (some ⟨p, 0, none⟩), .int .i64 0]) ∧ SIn t W w' p base f0 (seedU base l) 4000 F ∧ Below w.heap.size w w')))
    clear hg K0 hb hF HB1 hbW hF1
    go_enter Tryz.func33, Tryz.ntmps33
    go_wp2_with fail
    refine K.out.mono ?_
    rintro e w2 ⟨p, rfl, hq, hb⟩
    obtain ⟨hc, hb2⟩ := cin_new hq
    have K2 := Lib.hid (cover_yes p w2)
    have HQ := Lib.hid (And.intro hc (hb.trans (hb2.mono hb.size)))
    clear hq hb hc hb2 K d0 d1 hw1
    go_wp2_with fail
    refine K2.out.mono ?_
    rintro e w3 ⟨rfl, rfl⟩
    clear K2
    go_wp2_with fail
    go_ret2
    exact ⟨_, rfl, HQ.out⟩
  · refine Calls.mono (?_ : Calls _ _ _ _ (fun e w' => e = .returned (.tuple #[.pointer none, .int .i64 1]) ∧ Below w.heap.size w w')) (fun e w' h => by unfold CSeedP; rw [if_neg hg]; exact h)
    have K := Lib.hid (K0.mono (fun e w' h => by
      unfold SeedP at h
      rw [if_neg hg] at h
      exact (⟨h.1, HB1.out.trans (h.2.mono HB1.out.size)⟩ : e = .returned (.tuple #[.pointer none, .int .i64 1]) ∧ Below w.heap.size w w')))
    clear hg K0 hb hF HB1 hbW hF1
    go_enter Tryz.func33, Tryz.ntmps33
    go_wp2_with fail
    refine K.out.mono ?_
    rintro e w2 ⟨rfl, hb⟩
    have K2 := Lib.hid (cover_no w2)
    have HB := Lib.hid hb
    clear hb K d0 d1 hw1
    go_wp2_with fail
    refine K2.out.mono ?_
    rintro e w3 ⟨rfl, rfl⟩
    clear K2
    go_wp2_with fail
    go_ret2
    exact ⟨rfl, HB.out⟩

/-! What the document tells of an empty one -/
set_option maxHeartbeats 4000000 in
theorem awake15_c (w : World) : Calls Tryz.prog 8 #[] w fun e w' => e = .returned (.bool true) ∧ Below w.heap.size w w' := by
  have K := Lib.hid (cnew_in 0 0 (Below.refl _ w) (F := fun _ => False) (fun _ h => h.elim))
  go_enter Tryz.func8, Tryz.ntmps8
  go_wp2_with fail
  refine K.out.mono ?_
  intro e w1 h
  unfold CSeedP at h
  rw [if_pos ⟨.inl rfl, good_none, by decide, by decide⟩] at h
  obtain ⟨o, rfl, hc, -⟩ := h
  have KR := Lib.hid (crun_none hc (by omega) (by omega))
  clear hc K
  go_wp2_with fail
  refine KR.out.mono ?_
  rintro e w2 ⟨rfl, hc, -⟩
  have KI := Lib.hid (cidle_in hc)
  have KA := Lib.hid (cage_in hc)
  have HB := Lib.hid hc.frame
  clear hc KR
  go_wp2_with fail
  refine KI.out.mono ?_
  rintro e w3 ⟨rfl, rfl⟩
  go_wp2_with fail
  refine KA.out.mono ?_
  rintro e w3 ⟨rfl, rfl⟩
  clear KI KA
  go_wp2_with fail
  go_ret
  exact ⟨rfl, HB.out⟩
end Go.Proofs.YtandmngfajoinaaGreat.Po
