/- Ranges over functions, the loop's variable in a box. No function of the program is named here. -/
import Derived.Test.YtandmngfajoinaaGreatIt
namespace Go.Proofs.YtandmngfajoinaaGreat
open Go.RowKit

/-- 'for .. := range g { body }' over a value that Gives, the loop's variable in a box of its own. -/
theorem wpRb {α : Type} {P : Program} {g : Operand} {ps : Array Tmp} {assign body : Code} {Q : Exit → Act → World → Prop} {a : Act} {w : World}
    {gf : Nat} {lb : Array Value} (hg : a.eval g = .func (.func gf) #[] lb) (eg : ∀ args w, (callFunc gf args).run P w = .ok (.enter gf args) w)
    {encs : α → Array Value} {xs : List α} {R : Nat → Prop} {W0 : World} (hseq : Gives P gf lb encs xs R W0) (hps : ∀ x, (encs x).size = ps.size)
    (A : Nat → Prop) (hA : ∀ k, A k → k < w.heap.size) (hR : ∀ k, R k → k < w.heap.size ∧ w.heap[k]? = W0.heap[k]? ∧ ¬ A k)
    (I : List α → (Nat → Prop) → World → Prop) (Ix : Code → List α → (Nat → Prop) → World → Prop) (hI : Loc I) (hIx : ∀ c, Loc (Ix c)) (h0 : I [] A w) (o : α → Obj) (a₁ : α → Nat → Act)
    (hassign : ∀ (l : Nat) (x : α) (W : World) (K : Act → World → Prop), K (a₁ x W.heap.size) (W.alloc (o x)) →
      assign.wpIn (Fence.wide.inRound l) 0 P (Exit.then K (fun _ _ _ => False)) { tmps := (ps.zip (encs x)).foldl (fun t (p, v) => t.setIfInBounds p v) a.tmps, defers := [] } W)
    (hbody : ∀ (l : Nat) (pre : List α) (x : α) (A1 : Nat → Prop) (W : World) (r : Nat), I pre A1 W → pre ++ [x] <+: xs → (∀ k, A1 k → k < W.heap.size) → ¬ A1 r → W.heap[r]? = some (o x) →
      body.wpIn (Fence.wide.inRound l) 0 P (wayPost I Ix (pre ++ [x]) A1 W) (a₁ x r) W)
    (hdone : ∀ (D : Nat) (A2 : Nat → Prop) (W : World), Trip A w A2 W → ¬ A2 D → w.heap.size ≤ D → I xs A2 W → W.heap[D]? = some (.deferred (some [])) →
      Q .normal { a with defers := { target := .collected D, args := #[] } :: a.defers } W)
    (hstop : ∀ (D : Nat) (c : Code) (pre : List α) (A2 : Nat → Prop) (W : World), Trip A w A2 W → ¬ A2 D → w.heap.size ≤ D → pre <+: xs → Ix c pre A2 W → W.heap[D]? = some (.deferred (some [])) →
      c.wpIn Fence.wide 0 P Q { a with defers := { target := .collected D, args := #[] } :: a.defers } W) :
    (Code.rangeFunc g ps assign body).wpIn Fence.wide 0 P Q a w := by
  refine wpIn_rangeFunc ?_
  intro fn _
  obtain ⟨rec, hrec⟩ : ∃ rec : LoopState → Option Code → Loop, rec = fun st pe => { state := st, pending := pe, fn, tmps := a.tmps, params := ps, assign, body, defers := w.heap.size } := ⟨_, rfl⟩
  obtain ⟨D, hD⟩ : ∃ D, D = w.heap.size := ⟨_, rfl⟩
  obtain ⟨W1, hW1⟩ : ∃ W1, (w.alloc (.deferred (some []))).alloc (.loop (rec .ready none)) = W1 := ⟨_, rfl⟩
  have hs1 : W1.heap.size = D + 2 := by rw [← hW1, World.size_alloc, World.size_alloc, hD]
  have hL1 : W1.heap[D + 1]? = some (.loop (rec .ready none)) := by
    have := World.alloc_heap_new (w.alloc (.deferred (some []))) (.loop (rec .ready none))
    rw [World.size_alloc, hW1, ← hD] at this; exact this
  have hK1 : W1.heap[D]? = some (.deferred (some [])) := by
    rw [← hW1, hD, Below.heap_alloc _ _ _ (by simp)]; exact World.alloc_heap_new w _
  have hold : ∀ k, k < D → W1.heap[k]? = w.heap[k]? := fun k hk => by
    rw [← hW1, Below.heap_alloc _ _ _ (by simp; omega), Below.heap_alloc _ _ _ (by omega)]
  have hI1 : I [] A W1 := hI _ _ _ _ h0 fun k hk => hold k (by rw [hD]; exact hA k hk)
  refine ⟨D + 1, [{ target := .collected D, args := #[] }], W1, { target := .fn (.func gf) lb, args := #[.func (.yield (D + 1)) #[] #[]] }, W1, gf,
    #[.func (.yield (D + 1)) #[] #[]] ++ lb, W1, ?_, ?_, fun _ _ => trivial, ?_, (fun h => by cases h), ?_⟩
  · rw [← hW1, hrec, hD]; exact run_enterLoop_outer _ _ _ _ _
  · simp only [resolve, hg]
    simp [go_sem]
  · simp [invoke, go_sem, eg]
  refine (hseq (D + 1)
    (fun pre A' W => ∃ A1 : Nat → Prop, (∀ k, A' k ↔ A1 k ∨ k = D ∨ k = D + 1) ∧ ¬ A1 D ∧ ¬ A1 (D + 1) ∧ I pre A1 W ∧ W.heap[D + 1]? = some (.loop (rec .ready none)) ∧ W.heap[D]? = some (.deferred (some [])))
    (fun pre A' W => ∃ (A1 : Nat → Prop) (c : Code), (∀ k, A' k ↔ A1 k ∨ k = D ∨ k = D + 1) ∧ ¬ A1 D ∧ ¬ A1 (D + 1) ∧ Ix c pre A1 W ∧ W.heap[D + 1]? = some (.loop (rec .done (some c))) ∧ W.heap[D]? = some (.deferred (some [])))
    (fun k => A k ∨ k = D ∨ k = D + 1) W1 ?_ ?_ ?_ ?_ ?_ ⟨A, fun _ => Iff.rfl, fun h => by have := hA _ h; omega, fun h => by have := hA _ h; omega, hI1, hL1, hK1⟩).mono ?_
  · rintro s A' X Y ⟨A1, hA', hd, hl, hi, hL, hK⟩ hsame
    exact ⟨A1, hA', hd, hl, hI _ _ _ _ hi (fun k hk => hsame k ((hA' k).2 (.inl hk))), (hsame _ ((hA' _).2 (.inr (.inr rfl)))).trans hL, (hsame _ ((hA' _).2 (.inr (.inl rfl)))).trans hK⟩
  · rintro s A' X Y ⟨A1, c, hA', hd, hl, hi, hL, hK⟩ hsame
    exact ⟨A1, c, hA', hd, hl, hIx c _ _ _ _ hi (fun k hk => hsame k ((hA' k).2 (.inl hk))), (hsame _ ((hA' _).2 (.inr (.inr rfl)))).trans hL, (hsame _ ((hA' _).2 (.inr (.inl rfl)))).trans hK⟩
  · intro k hk
    rw [hs1]
    rcases hk with h | h | h
    · have := hA k h; omega
    · omega
    · omega
  · intro k hk
    obtain ⟨h1, h2, h3⟩ := hR k hk
    exact ⟨by omega, (hold k (by omega)).trans h2, fun h => by rcases h with h | h | h; exact h3 h; omega; omega⟩
  · -- one round
    rintro pre x A' W ⟨A1, hA', hd, hl, hi, hL, hK⟩ hpre hbd
    have hlt : D + 1 < W.heap.size := (Array.getElem?_eq_some_iff.1 hL).1
    have hbd1 : ∀ k, A1 k → k < W.heap.size := fun k hk => hbd k ((hA' k).2 (.inl hk))
    have hy := run_yield (P := P) (args := encs x) hL (by rw [hrec]; exact hps x)
    rw [hrec] at hy
    have hLa : (W.alloc (o x)).heap[D + 1]? = some (.loop (rec .ready none)) := (Below.heap_alloc W _ _ hlt).trans hL
    have hlta : D + 1 < (W.alloc (o x)).heap.size := by rw [World.size_alloc]; omega
    refine ⟨fn, _, assign, body, hy, roundIn_of_wpIn trivial (hassign _ x W _ ⟨_, run_beginRound hLa (by rw [hrec]), ?_⟩)⟩
    clear hy
    obtain ⟨Wb, hWb⟩ : ∃ Wb, (W.alloc (o x)).putObj (D + 1) (.loop { rec .ready none with state := .busy }) = Wb := ⟨_, rfl⟩
    rw [hWb]
    have hLb : Wb.heap[D + 1]? = some (.loop { rec .ready none with state := .busy }) := by rw [← hWb]; exact World.putObj_heap_same hlta
    have hob : ∀ k, k < W.heap.size → k ≠ D + 1 → Wb.heap[k]? = W.heap[k]? := fun k hkl hk => by rw [← hWb]; exact (World.putObj_heap_other hk).trans (Below.heap_alloc W _ k hkl)
    have hbox : Wb.heap[W.heap.size]? = some (o x) := by rw [← hWb]; exact (World.putObj_heap_other (by omega)).trans (World.alloc_heap_new W _)
    have hsb : Wb.heap.size = W.heap.size + 1 := by rw [← hWb]; simp
    have hwb : Wb.os = W.os ∧ Wb.tape = W.tape ∧ Wb.output = W.output := by rw [← hWb]; exact ⟨rfl, rfl, rfl⟩
    clear hWb
    have hib : I pre A1 Wb := hI _ _ _ _ hi fun k hk => hob k (hbd1 k hk) (fun e => hl (e ▸ hk))
    refine wpIn_mono (hbody _ pre x A1 Wb W.heap.size hib hpre (fun k hk => by rw [hsb]; have := hbd1 k hk; omega) (fun h => by have := hbd1 _ h; omega) hbox) ?_
    have fin : ∀ (jump : Option Code) (A2 : Nat → Prop) (W3 : World), Trip A1 Wb A2 W3 →
        ∃ W4, (Instr.endRound (D + 1) jump).run P W3 = .ok (.bool jump.isNone) W4 ∧ W4.heap[D + 1]? = some (.loop (rec (if jump.isNone then .ready else .done) jump)) ∧
          W4.heap[D]? = some (.deferred (some [])) ∧ ¬ A2 D ∧ ¬ A2 (D + 1) ∧ (∀ k, A2 k → W4.heap[k]? = W3.heap[k]?) ∧ Trip A' W (fun k => A2 k ∨ k = D ∨ k = D + 1) W4 := fun jump A2 W3 ht => by
      have hl3 : W3.heap[D + 1]? = some (.loop { rec .ready none with state := .busy }) := (ht.block _ (by omega) hl).trans hLb
      have hk3 : W3.heap[D]? = some (.deferred (some [])) := (ht.block _ (by omega) hd).trans ((hob _ (by omega) (by omega)).trans hK)
      have hr := run_endRound (P := P) jump hl3
      have hlt3 : D + 1 < W3.heap.size := (Array.getElem?_eq_some_iff.1 hl3).1
      have hd2 : ¬ A2 D := fun h => by rcases ht.sub _ h with h1 | h1; exact hd h1; omega
      have hl2 : ¬ A2 (D + 1) := fun h => by rcases ht.sub _ h with h1 | h1; exact hl h1; omega
      rw [hrec] at hr
      refine ⟨_, hr, ?_, ?_, hd2, hl2, ?_, ?_⟩
      · rw [hrec]; exact World.putObj_heap_same hlt3
      · exact (World.putObj_heap_other (by omega)).trans hk3
      · exact fun k hk => World.putObj_heap_other (fun e => hl2 (e ▸ hk))
      · refine ⟨ht.os.trans hwb.1, ht.tape.trans hwb.2.1, ht.output.trans hwb.2.2, by simp only [World.putObj_size]; have := ht.size; omega, ?_, ?_, ?_⟩
        · intro k hk hn
          have hn' : ¬ A1 k ∧ k ≠ D ∧ k ≠ D + 1 := ⟨fun h => hn ((hA' k).2 (.inl h)), fun h => hn ((hA' k).2 (.inr (.inl h))), fun h => hn ((hA' k).2 (.inr (.inr h)))⟩
          rw [World.putObj_heap_other hn'.2.2, ht.block k (by omega) hn'.1, hob k hk hn'.2.2]
        · rintro k (h | h | h)
          · rcases ht.sub k h with h1 | h1
            · exact .inl ((hA' k).2 (.inl h1))
            · exact .inr (by omega)
          · exact .inl ((hA' k).2 (.inr (.inl h)))
          · exact .inl ((hA' k).2 (.inr (.inr h)))
        · rintro k (h | h | h)
          · simp only [World.putObj_size]; exact ht.bd k h
          · simp only [World.putObj_size]; omega
          · simp only [World.putObj_size]; omega
    rintro e a3 W3 hp
    cases e with
    | normal =>
      obtain ⟨A2, ht, hi3⟩ := hp
      obtain ⟨W4, hr, h1, h2, h3, h4, h5, h6⟩ := fin none A2 W3 ht
      exact ⟨_, _, hr, _, h6, .inl ⟨rfl, A2, fun _ => Iff.rfl, h3, h4, hI _ _ _ _ hi3 h5, h1, h2⟩⟩
    | ret =>
      obtain ⟨A2, ht, hi3⟩ := hp
      obtain ⟨W4, hr, h1, h2, h3, h4, h5, h6⟩ := fin (some .ret) A2 W3 ht
      exact ⟨_, _, hr, _, h6, .inr ⟨rfl, A2, .ret, fun _ => Iff.rfl, h3, h4, hIx _ _ _ _ _ hi3 h5, h1, h2⟩⟩
    | exit id =>
      obtain ⟨A2, ht, hi3⟩ := hp
      obtain ⟨W4, hr, h1, h2, h3, h4, h5, h6⟩ := fin (some (.exit id)) A2 W3 ht
      exact ⟨_, _, hr, _, h6, .inr ⟨rfl, A2, .exit id, fun _ => Iff.rfl, h3, h4, hIx _ _ _ _ _ hi3 h5, h1, h2⟩⟩
    | goto t =>
      obtain ⟨A2, ht, hi3⟩ := hp
      obtain ⟨W4, hr, h1, h2, h3, h4, h5, h6⟩ := fin (some (.goto t)) A2 W3 ht
      exact ⟨_, _, hr, _, h6, .inr ⟨rfl, A2, .goto t, fun _ => Iff.rfl, h3, h4, hIx _ _ _ _ _ hi3 h5, h1, h2⟩⟩
    | panic ch => exact hp.elim
    | outgrown => exact hp.elim
  · -- behind the iterator
    have hend : ∀ {A2 A1 : Nat → Prop} {W2 : World} (o : Obj), Trip (fun k => A k ∨ k = D ∨ k = D + 1) W1 A2 W2 → (∀ k, A2 k ↔ A1 k ∨ k = D ∨ k = D + 1) → ¬ A1 (D + 1) → Trip A w A1 (W2.putObj (D + 1) o) := by
      intro A2 A1 W2 o ht hA2 hl
      have hw1 : W1.os = w.os ∧ W1.tape = w.tape ∧ W1.output = w.output := by rw [← hW1]; exact ⟨rfl, rfl, rfl⟩
      refine ⟨ht.os.trans hw1.1, ht.tape.trans hw1.2.1, ht.output.trans hw1.2.2, by simp only [World.putObj_size]; have := ht.size; omega, ?_, ?_, ?_⟩
      · intro k hk hn
        rw [World.putObj_heap_other (by omega), ht.block k (by omega) (fun h => by rcases h with h | h | h; exact hn h; omega; omega), hold k (by omega)]
      · intro k hk
        rcases ht.sub k ((hA2 k).2 (.inl hk)) with (h | h | h) | h
        · exact .inl h
        · exact .inr (by omega)
        · exact .inr (by omega)
        · exact .inr (by omega)
      · intro k hk
        simp only [World.putObj_size]; exact ht.bd k ((hA2 k).2 (.inl hk))
    rintro e W2 ⟨⟨v, rfl⟩, A2, ht, ⟨A1, hA2, hd, hl, hi, hL, hK⟩ | ⟨pre, hpre, A1, c, hA2, hd, hl, hi, hL, hK⟩⟩
    · refine ⟨none, _, by have := run_endLoop (P := P) hL (by rw [hrec]; simp); rw [hrec] at this; exact this, ?_⟩
      exact hdone D A1 _ (hend _ ht hA2 hl) hd (by omega) (hI _ _ _ _ hi fun k hk => World.putObj_heap_other (fun e => hl (e ▸ hk))) ((World.putObj_heap_other (by omega)).trans hK)
    · refine ⟨some c, _, by have := run_endLoop (P := P) hL (by rw [hrec]; simp); rw [hrec] at this; exact this, ?_⟩
      exact hstop D c pre A1 _ (hend _ ht hA2 hl) hd (by omega) hpre (hIx c _ _ _ _ hi fun k hk => World.putObj_heap_other (fun e => hl (e ▸ hk))) ((World.putObj_heap_other (by omega)).trans hK)

end Go.Proofs.YtandmngfajoinaaGreat
