/- Ranges over functions, with a footprint: which blocks the caller's loop speaks of. No function of the program is named here. -/
import Derived.RangeFuncNested
import Derived.RangeFuncBound
import Derived.RangeFuncCalls
import Derived.RangeFuncLeaves
import Derived.RangeFuncBox
namespace Go.Proofs.YtandmngfajoinaaGreat
open Go.RowKit

/-- From (A, W) to (A', W'): what lay outside A lies as it lay; what A' holds beyond A has been laid since. -/
structure Trip (A : Nat → Prop) (W : World) (A' : Nat → Prop) (W' : World) : Prop where
  os : W'.os = W.os
  tape : W'.tape = W.tape
  output : W'.output = W.output
  size : W.heap.size ≤ W'.heap.size
  block : ∀ k, k < W.heap.size → ¬ A k → W'.heap[k]? = W.heap[k]?
  sub : ∀ k, A' k → A k ∨ W.heap.size ≤ k
  bd : ∀ k, A' k → k < W'.heap.size

theorem Trip.trans {A A1 A2 : Nat → Prop} {W W1 W2 : World} (h : Trip A W A1 W1) (k : Trip A1 W1 A2 W2) : Trip A W A2 W2 :=
  ⟨k.os.trans h.os, k.tape.trans h.tape, k.output.trans h.output, Nat.le_trans h.size k.size,
   fun i hi ha => (k.block i (Nat.lt_of_lt_of_le hi h.size) (fun h1 => by rcases h.sub i h1 with h2 | h2; exact ha h2; omega)).trans (h.block i hi ha),
   fun i hi => by
    rcases k.sub i hi with h1 | h1
    · exact h.sub i h1
    · exact .inr (Nat.le_trans h.size h1),
   k.bd⟩
theorem Trip.refl {A : Nat → Prop} {W : World} (hb : ∀ k, A k → k < W.heap.size) : Trip A W A W := ⟨rfl, rfl, rfl, Nat.le_refl _, fun _ _ _ => rfl, fun _ h => .inl h, hb⟩
/-- A step that turned nothing outside A. -/
theorem Trip.of_same {A : Nat → Prop} {W W' : World} (hb : ∀ k, A k → k < W.heap.size) (h : W.os = W'.os ∧ W.tape = W'.tape ∧ W.output = W'.output ∧ W.heap.size ≤ W'.heap.size ∧ ∀ k, k < W.heap.size → ¬ A k → W'.heap[k]? = W.heap[k]?) : Trip A W A W' :=
  ⟨h.1.symm, h.2.1.symm, h.2.2.1.symm, h.2.2.2.1, h.2.2.2.2, fun _ h => .inl h, fun k hk => Nat.lt_of_lt_of_le (hb k hk) h.2.2.2.1⟩
theorem Trip.below {A A' : Nat → Prop} {W W' : World} {B : Nat} (h : Trip A W A' W') (hA : ∀ k, A k → B ≤ k) (hB : B ≤ W.heap.size) : Below B W W' :=
  ⟨h.os, h.tape, h.output, h.size, fun k hk => h.block k (by omega) (fun ha => by have := hA k ha; omega)⟩
/-- What a set of blocks is taken in: a larger one. -/
theorem Trip.wider {A A' C : Nat → Prop} {W W' : World} (h : Trip A W A' W') (hc : ∀ k, A k → C k) (hb : ∀ k, C k → k < W.heap.size) : Trip C W (fun k => A' k ∨ C k) W' :=
  ⟨h.os, h.tape, h.output, h.size, fun k hk hn => h.block k hk (fun ha => hn (hc k ha)),
   fun k hk => by
    rcases hk with h1 | h1
    · rcases h.sub k h1 with h2 | h2
      · exact .inl (hc k h2)
      · exact .inr h2
    · exact .inl h1,
   fun k hk => by
    rcases hk with h1 | h1
    · exact h.bd k h1
    · exact Nat.lt_of_lt_of_le (hb k h1) h.size⟩

theorem Trip.from {A A1 A' : Nat → Prop} {W W' : World} (h : Trip A W A' W') (hs : ∀ k, A1 k ↔ A k) : Trip A1 W A' W' :=
  ⟨h.os, h.tape, h.output, h.size, fun k hk hn => h.block k hk (fun h1 => hn ((hs k).2 h1)), fun k hk => by rcases h.sub k hk with h1 | h1; exact .inl ((hs k).2 h1); exact .inr h1, h.bd⟩
theorem Trip.less {A A' A'' : Nat → Prop} {W W' : World} (h : Trip A W A' W') (hs : ∀ k, A'' k → A' k) : Trip A W A'' W' :=
  ⟨h.os, h.tape, h.output, h.size, h.block, fun k hk => h.sub k (hs k hk), fun k hk => h.bd k (hs k hk)⟩
/-- Through a step over a set of one's own. -/
theorem Trip.thru {A C C' A1 A2 : Nat → Prop} {W w w' : World} (h : Trip A W C w) (hC : ∀ k, C' k → C k ∨ W.heap.size ≤ k) (h2 : Trip C' w A2 w') (hs : ∀ k, A1 k → A2 k) : Trip A W A1 w' :=
  ⟨h2.os.trans h.os, h2.tape.trans h.tape, h2.output.trans h.output, Nat.le_trans h.size h2.size,
   fun k hk hn => (h2.block k (Nat.lt_of_lt_of_le hk h.size) (fun hc => by
      rcases hC k hc with h1 | h1
      · rcases h.sub k h1 with h3 | h3
        · exact hn h3
        · omega
      · omega)).trans (h.block k hk hn),
   fun k hk => by
    rcases h2.sub k (hs k hk) with h1 | h1
    · rcases hC k h1 with h3 | h3
      · exact h.sub k h3
      · exact .inr h3
    · exact .inr (Nat.le_trans h.size h1),
   fun k hk => h2.bd k (hs k hk)⟩
/-- What lies in no block of A lies on. -/
theorem Trip.boxed {A A' : Nat → Prop} {W W' : World} {b : Nat} {t : TypeId} {v : Value} (h : Trip A W A' W') (hn : ¬ A b) (hb : Boxed W b t v) : Boxed W' b t v := (h.block b hb.lt hn).trans hb
/-- A store into a box. -/
theorem setBox_other {W : World} {b k : Nat} (v : Value) (h : k ≠ b) : (W.setCell ⟨b, 0, none⟩ v).heap[k]? = W.heap[k]? := Below.heap_setCell W _ v k h
theorem setBox_size {W : World} {b : Nat} (v : Value) : (W.setCell ⟨b, 0, none⟩ v).heap.size = W.heap.size := by simp [World.setCell]
theorem Trip.setBox {A : Nat → Prop} {W : World} {b : Nat} (v : Value) (hb : ∀ k, A k → k < W.heap.size) (h : A b) : Trip A W A (W.setCell ⟨b, 0, none⟩ v) :=
  ⟨rfl, rfl, rfl, by rw [setBox_size]; exact Nat.le_refl _, fun k _ hk => setBox_other v (fun e => hk (e ▸ h)), fun _ h => .inl h, fun k hk => by rw [setBox_size]; exact hb k hk⟩
theorem Trip.alloc {A A' : Nat → Prop} {W W' : World} (h : Trip A W A' W') (o : Obj) : Trip A W A' (W'.alloc o) :=
  ⟨h.os, h.tape, h.output, by rw [World.size_alloc]; have := h.size; omega,
   fun k hk hn => (Below.heap_alloc W' o k (Nat.lt_of_lt_of_le hk h.size)).trans (h.block k hk hn), h.sub, fun k hk => by rw [World.size_alloc]; have := h.bd k hk; omega⟩
theorem Trip.putObj {A A' : Nat → Prop} {W W' : World} {b : Nat} (h : Trip A W A' W') (hb : W.heap.size ≤ b) (o : Obj) : Trip A W A' (W'.putObj b o) :=
  ⟨h.os, h.tape, h.output, by rw [World.putObj_size]; exact h.size,
   fun k hk hn => (World.putObj_heap_other (by omega)).trans (h.block k hk hn), h.sub, fun k hk => by rw [World.putObj_size]; exact h.bd k hk⟩
theorem Trip.drew {A A' : Nat → Prop} {W W' : World} (h : Trip A W A' W') : Trip A W A' W'.drew := ⟨h.os, h.tape, h.output, h.size, h.block, h.sub, h.bd⟩
theorem roundIn_in {F : Fence} {n : Nat} {P : Program} {l : Nat} {f : FuncId} {tmps : Array Value} {assign body : Code} {w : World} {R : Ending → World → Prop} (l' : Nat) (h : RoundIn F n P l f tmps assign body w R) : RoundIn (F.inRound l') n P l f tmps assign body w R := h

/-- A mark for the rounds' deferred calls; a function's end, with such marks. -/
def markAt (D : Nat) : Deferred := { target := .collected D, args := #[] }
theorem leaves_marks {F : Fence} {n : Nat} {P : Program} {fn : Func} {tmps : Array Value} {R : Ending → World → Prop} : ∀ (ds : List Nat) (w : World), ds.Nodup → (∀ D ∈ ds, w.heap[D]? = some (.deferred (some []))) →
    (∀ w', w'.os = w.os → w'.tape = w.tape → w'.output = w.output → w'.heap.size = w.heap.size → (∀ k, k ∉ ds → w'.heap[k]? = w.heap[k]?) → LeavesInM F n P fn tmps R [] .returning w') → LeavesInM F n P fn tmps R (ds.map markAt) .returning w
  | [], w, _, _, h => h w rfl rfl rfl rfl (fun _ _ => rfl)
  | D :: ds, w, hn, hd, h => by
    refine ⟨by simp, .inl ⟨D, _, rfl, run_takeDeferred (hd D (by simp)), ?_⟩⟩
    have hn' := List.nodup_cons.1 hn
    refine leaves_marks ds _ hn'.2 (fun E hE => ?_) (fun w' h1 h2 h3 h4 h5 => ?_)
    · exact (World.putObj_heap_other (fun e => hn'.1 (by rw [← e]; exact hE))).trans (hd E (by simp [hE]))
    · refine h w' h1 h2 h3 (h4.trans (by simp)) (fun k hk => ?_)
      rw [h5 k (fun hm => hk (by simp [hm])), World.putObj_heap_other (fun e => hk (by simp [e]))]

theorem wide_fn (f : FuncId) : Fence.wide.fn f = True := rfl
theorem wide_depth : Fence.wide.depth = none := rfl

/-- It speaks of the blocks of A alone. -/
def Loc {β : Type} (J : β → (Nat → Prop) → World → Prop) : Prop :=
  ∀ s A W W', J s A W → (∀ k, A k → W'.heap[k]? = W.heap[k]?) → J s A W'

/-- An iterator's value: function g, the captured lb: it yields xs, one by one, until a round says no more; it reads the blocks R as they lay in W0, and turns none of the caller's. -/
def Gives {α : Type} (P : Program) (g : Nat) (lb : Array Value) (encs : α → Array Value) (xs : List α) (R : Nat → Prop) (W0 : World) : Prop :=
  ∀ (l : Nat) (J Jx : List α → (Nat → Prop) → World → Prop) (A : Nat → Prop) (W : World),
    Loc J → Loc Jx → (∀ k, A k → k < W.heap.size) → (∀ k, R k → k < W.heap.size ∧ W.heap[k]? = W0.heap[k]? ∧ ¬ A k) →
    (∀ pre x A1 W1, J pre A1 W1 → pre ++ [x] <+: xs → (∀ k, A1 k → k < W1.heap.size) → YieldAt Fence.wide 0 P l (encs x) W1 fun e W' =>
      ∃ A2, Trip A1 W1 A2 W' ∧ ((e = .returned (.bool true) ∧ J (pre ++ [x]) A2 W') ∨ (e = .returned (.bool false) ∧ Jx (pre ++ [x]) A2 W'))) →
    J [] A W →
    CallsIn Fence.wide 0 P g (#[.func (.yield l) #[] #[]] ++ lb) W fun e W' => (∃ v, e = .returned v) ∧ ∃ A2, Trip A W A2 W' ∧ (J xs A2 W' ∨ ∃ pre, pre <+: xs ∧ Jx pre A2 W')

/-- How the body of a round may be left. -/
def wayPost {α : Type} (I : List α → (Nat → Prop) → World → Prop) (Ix : Code → List α → (Nat → Prop) → World → Prop) (xs : List α) (A : Nat → Prop) (W : World) : Exit → Act → World → Prop
  | .normal, _, W' => ∃ A2, Trip A W A2 W' ∧ I xs A2 W'
  | .ret, _, W' => ∃ A2, Trip A W A2 W' ∧ Ix .ret xs A2 W'
  | .exit id, _, W' => ∃ A2, Trip A W A2 W' ∧ Ix (.exit id) xs A2 W'
  | .goto t, _, W' => ∃ A2, Trip A W A2 W' ∧ Ix (.goto t) xs A2 W'
  | .panic _, _, _ => False
  | .outgrown, _, _ => False

/-- 'for .. := range g { body }' over a value that Gives. -/
theorem wpR {α : Type} {P : Program} {g : Operand} {ps : Array Tmp} {assign body : Code} {Q : Exit → Act → World → Prop} {a : Act} {w : World}
    {gf : Nat} {lb : Array Value} (hg : a.eval g = .func (.func gf) #[] lb) (eg : ∀ args w, (callFunc gf args).run P w = .ok (.enter gf args) w)
    {encs : α → Array Value} {xs : List α} {R : Nat → Prop} {W0 : World} (hseq : Gives P gf lb encs xs R W0) (hps : ∀ x, (encs x).size = ps.size)
    (A : Nat → Prop) (hA : ∀ k, A k → k < w.heap.size) (hR : ∀ k, R k → k < w.heap.size ∧ w.heap[k]? = W0.heap[k]? ∧ ¬ A k)
    (I : List α → (Nat → Prop) → World → Prop) (Ix : Code → List α → (Nat → Prop) → World → Prop) (hI : Loc I) (hIx : ∀ c, Loc (Ix c)) (h0 : I [] A w) (a₁ : α → Act)
    (hassign : ∀ (l : Nat) (x : α) (W : World) (K : Act → World → Prop), K (a₁ x) W →
      assign.wpIn (Fence.wide.inRound l) 0 P (Exit.then K (fun _ _ _ => False)) { tmps := (ps.zip (encs x)).foldl (fun t (p, v) => t.setIfInBounds p v) a.tmps, defers := [] } W)
    (hbody : ∀ (l : Nat) (pre : List α) (x : α) (A1 : Nat → Prop) (W : World), I pre A1 W → pre ++ [x] <+: xs → (∀ k, A1 k → k < W.heap.size) →
      body.wpIn (Fence.wide.inRound l) 0 P (wayPost I Ix (pre ++ [x]) A1 W) (a₁ x) W)
    (hdone : ∀ (D : Nat) (A2 : Nat → Prop) (W : World), Trip A w A2 W → ¬ A2 D → w.heap.size ≤ D → I xs A2 W → W.heap[D]? = some (.deferred (some [])) →
      Q .normal { a with defers := { target := .collected D, args := #[] } :: a.defers } W)
    (hstop : ∀ (D : Nat) (c : Code) (pre : List α) (A2 : Nat → Prop) (W : World), Trip A w A2 W → ¬ A2 D → w.heap.size ≤ D → pre <+: xs → Ix c pre A2 W → W.heap[D]? = some (.deferred (some [])) →
      c.wpIn Fence.wide 0 P Q { a with defers := { target := .collected D, args := #[] } :: a.defers } W) :
    (Code.rangeFunc g ps assign body).wpIn Fence.wide 0 P Q a w := by
  refine wpIn_rangeFunc ?_
  intro fn _
  obtain ⟨rec, hrec⟩ : ∃ rec : LoopState → Option Code → Loop, rec = fun st pe => { state := st, pending := pe, fn, tmps := a.tmps, params := ps, assign, body, defers := w.heap.size } := ⟨_, rfl⟩
  obtain ⟨D, hD⟩ : ∃ D, D = w.heap.size := ⟨_, rfl⟩
  obtain ⟨W1, hW1⟩ : ∃ W1, (w.alloc (.deferred (some []))).alloc (.loop (rec .ready none)) = W1 := ⟨_, rfl⟩
  have hs1 : W1.heap.size = D + 2 := by rw [← hW1, World.size_alloc, World.size_alloc, hD]
  have hL1 : W1.heap[D + 1]? = some (.loop (rec .ready none)) := by
    have := World.alloc_heap_new (w.alloc (.deferred (some []))) (.loop (rec .ready none))
    rw [World.size_alloc, hW1, ← hD] at this; exact this
  have hK1 : W1.heap[D]? = some (.deferred (some [])) := by
    rw [← hW1, hD, Below.heap_alloc _ _ _ (by simp)]; exact World.alloc_heap_new w _
  have hold : ∀ k, k < D → W1.heap[k]? = w.heap[k]? := fun k hk => by
    rw [← hW1, Below.heap_alloc _ _ _ (by simp; omega), Below.heap_alloc _ _ _ (by omega)]
  have hI1 : I [] A W1 := hI _ _ _ _ h0 fun k hk => hold k (by rw [hD]; exact hA k hk)
  refine ⟨D + 1, [{ target := .collected D, args := #[] }], W1, { target := .fn (.func gf) lb, args := #[.func (.yield (D + 1)) #[] #[]] }, W1, gf,
    #[.func (.yield (D + 1)) #[] #[]] ++ lb, W1, ?_, ?_, fun _ _ => trivial, ?_, (fun h => by cases h), ?_⟩
  · rw [← hW1, hrec, hD]; exact run_enterLoop_outer _ _ _ _ _
  · simp only [resolve, hg]
    simp [go_sem]
  · simp [invoke, go_sem, eg]
  refine (hseq (D + 1)
    (fun pre A' W => ∃ A1 : Nat → Prop, (∀ k, A' k ↔ A1 k ∨ k = D ∨ k = D + 1) ∧ ¬ A1 D ∧ ¬ A1 (D + 1) ∧ I pre A1 W ∧ W.heap[D + 1]? = some (.loop (rec .ready none)) ∧ W.heap[D]? = some (.deferred (some [])))
    (fun pre A' W => ∃ (A1 : Nat → Prop) (c : Code), (∀ k, A' k ↔ A1 k ∨ k = D ∨ k = D + 1) ∧ ¬ A1 D ∧ ¬ A1 (D + 1) ∧ Ix c pre A1 W ∧ W.heap[D + 1]? = some (.loop (rec .done (some c))) ∧ W.heap[D]? = some (.deferred (some [])))
    (fun k => A k ∨ k = D ∨ k = D + 1) W1 ?_ ?_ ?_ ?_ ?_ ⟨A, fun _ => Iff.rfl, fun h => by have := hA _ h; omega, fun h => by have := hA _ h; omega, hI1, hL1, hK1⟩).mono ?_
  · rintro s A' X Y ⟨A1, hA', hd, hl, hi, hL, hK⟩ hsame
    exact ⟨A1, hA', hd, hl, hI _ _ _ _ hi (fun k hk => hsame k ((hA' k).2 (.inl hk))), (hsame _ ((hA' _).2 (.inr (.inr rfl)))).trans hL, (hsame _ ((hA' _).2 (.inr (.inl rfl)))).trans hK⟩
  · rintro s A' X Y ⟨A1, c, hA', hd, hl, hi, hL, hK⟩ hsame
    exact ⟨A1, c, hA', hd, hl, hIx c _ _ _ _ hi (fun k hk => hsame k ((hA' k).2 (.inl hk))), (hsame _ ((hA' _).2 (.inr (.inr rfl)))).trans hL, (hsame _ ((hA' _).2 (.inr (.inl rfl)))).trans hK⟩
  · intro k hk
    rw [hs1]
    rcases hk with h | h | h
    · have := hA k h; omega
    · omega
    · omega
  · intro k hk
    obtain ⟨h1, h2, h3⟩ := hR k hk
    exact ⟨by omega, (hold k (by omega)).trans h2, fun h => by rcases h with h | h | h; exact h3 h; omega; omega⟩
  · -- one round
    rintro pre x A' W ⟨A1, hA', hd, hl, hi, hL, hK⟩ hpre hbd
    have hlt : D + 1 < W.heap.size := (Array.getElem?_eq_some_iff.1 hL).1
    have hbd1 : ∀ k, A1 k → k < W.heap.size := fun k hk => hbd k ((hA' k).2 (.inl hk))
    have hy := run_yield (P := P) (args := encs x) hL (by rw [hrec]; exact hps x)
    rw [hrec] at hy
    refine ⟨fn, _, assign, body, hy, roundIn_of_wpIn trivial (hassign _ x W _ ⟨_, run_beginRound hL (by rw [hrec]), ?_⟩)⟩
    clear hy
    obtain ⟨Wb, hWb⟩ : ∃ Wb, W.putObj (D + 1) (.loop { rec .ready none with state := .busy }) = Wb := ⟨_, rfl⟩
    rw [hWb]
    have hLb : Wb.heap[D + 1]? = some (.loop { rec .ready none with state := .busy }) := by rw [← hWb]; exact World.putObj_heap_same hlt
    have hob : ∀ k, k ≠ D + 1 → Wb.heap[k]? = W.heap[k]? := fun k hk => by rw [← hWb]; exact World.putObj_heap_other hk
    have hsb : Wb.heap.size = W.heap.size := by rw [← hWb]; simp
    have hwb : Wb.os = W.os ∧ Wb.tape = W.tape ∧ Wb.output = W.output := by rw [← hWb]; exact ⟨rfl, rfl, rfl⟩
    clear hWb
    have hib : I pre A1 Wb := hI _ _ _ _ hi fun k hk => hob k (fun e => hl (e ▸ hk))
    refine wpIn_mono (hbody _ pre x A1 Wb hib hpre (fun k hk => by rw [hsb]; exact hbd1 k hk)) ?_
    have fin : ∀ (jump : Option Code) (A2 : Nat → Prop) (W3 : World), Trip A1 Wb A2 W3 →
        ∃ W4, (Instr.endRound (D + 1) jump).run P W3 = .ok (.bool jump.isNone) W4 ∧ W4.heap[D + 1]? = some (.loop (rec (if jump.isNone then .ready else .done) jump)) ∧
          W4.heap[D]? = some (.deferred (some [])) ∧ ¬ A2 D ∧ ¬ A2 (D + 1) ∧ (∀ k, A2 k → W4.heap[k]? = W3.heap[k]?) ∧ Trip A' W (fun k => A2 k ∨ k = D ∨ k = D + 1) W4 := fun jump A2 W3 ht => by
      have hl3 : W3.heap[D + 1]? = some (.loop { rec .ready none with state := .busy }) := (ht.block _ (by omega) hl).trans hLb
      have hk3 : W3.heap[D]? = some (.deferred (some [])) := (ht.block _ (by omega) hd).trans ((hob _ (by omega)).trans hK)
      have hr := run_endRound (P := P) jump hl3
      have hlt3 : D + 1 < W3.heap.size := (Array.getElem?_eq_some_iff.1 hl3).1
      have hd2 : ¬ A2 D := fun h => by rcases ht.sub _ h with h1 | h1; exact hd h1; omega
      have hl2 : ¬ A2 (D + 1) := fun h => by rcases ht.sub _ h with h1 | h1; exact hl h1; omega
      rw [hrec] at hr
      refine ⟨_, hr, ?_, ?_, hd2, hl2, ?_, ?_⟩
      · rw [hrec]; exact World.putObj_heap_same hlt3
      · exact (World.putObj_heap_other (by omega)).trans hk3
      · exact fun k hk => World.putObj_heap_other (fun e => hl2 (e ▸ hk))
      · refine ⟨ht.os.trans hwb.1, ht.tape.trans hwb.2.1, ht.output.trans hwb.2.2, by simp only [World.putObj_size]; have := ht.size; omega, ?_, ?_, ?_⟩
        · intro k hk hn
          have hn' : ¬ A1 k ∧ k ≠ D ∧ k ≠ D + 1 := ⟨fun h => hn ((hA' k).2 (.inl h)), fun h => hn ((hA' k).2 (.inr (.inl h))), fun h => hn ((hA' k).2 (.inr (.inr h)))⟩
          rw [World.putObj_heap_other hn'.2.2, ht.block k (by omega) hn'.1, hob k hn'.2.2]
        · rintro k (h | h | h)
          · rcases ht.sub k h with h1 | h1
            · exact .inl ((hA' k).2 (.inl h1))
            · exact .inr (by omega)
          · exact .inl ((hA' k).2 (.inr (.inl h)))
          · exact .inl ((hA' k).2 (.inr (.inr h)))
        · rintro k (h | h | h)
          · simp only [World.putObj_size]; exact ht.bd k h
          · simp only [World.putObj_size]; omega
          · simp only [World.putObj_size]; omega
    rintro e a3 W3 hp
    cases e with
    | normal =>
      obtain ⟨A2, ht, hi3⟩ := hp
      obtain ⟨W4, hr, h1, h2, h3, h4, h5, h6⟩ := fin none A2 W3 ht
      exact ⟨_, _, hr, _, h6, .inl ⟨rfl, A2, fun _ => Iff.rfl, h3, h4, hI _ _ _ _ hi3 h5, h1, h2⟩⟩
    | ret =>
      obtain ⟨A2, ht, hi3⟩ := hp
      obtain ⟨W4, hr, h1, h2, h3, h4, h5, h6⟩ := fin (some .ret) A2 W3 ht
      exact ⟨_, _, hr, _, h6, .inr ⟨rfl, A2, .ret, fun _ => Iff.rfl, h3, h4, hIx _ _ _ _ _ hi3 h5, h1, h2⟩⟩
    | exit id =>
      obtain ⟨A2, ht, hi3⟩ := hp
      obtain ⟨W4, hr, h1, h2, h3, h4, h5, h6⟩ := fin (some (.exit id)) A2 W3 ht
      exact ⟨_, _, hr, _, h6, .inr ⟨rfl, A2, .exit id, fun _ => Iff.rfl, h3, h4, hIx _ _ _ _ _ hi3 h5, h1, h2⟩⟩
    | goto t =>
      obtain ⟨A2, ht, hi3⟩ := hp
      obtain ⟨W4, hr, h1, h2, h3, h4, h5, h6⟩ := fin (some (.goto t)) A2 W3 ht
      exact ⟨_, _, hr, _, h6, .inr ⟨rfl, A2, .goto t, fun _ => Iff.rfl, h3, h4, hIx _ _ _ _ _ hi3 h5, h1, h2⟩⟩
    | panic ch => exact hp.elim
    | outgrown => exact hp.elim
  · -- behind the iterator
    have hend : ∀ {A2 A1 : Nat → Prop} {W2 : World} (o : Obj), Trip (fun k => A k ∨ k = D ∨ k = D + 1) W1 A2 W2 → (∀ k, A2 k ↔ A1 k ∨ k = D ∨ k = D + 1) → ¬ A1 (D + 1) → Trip A w A1 (W2.putObj (D + 1) o) := by
      intro A2 A1 W2 o ht hA2 hl
      have hw1 : W1.os = w.os ∧ W1.tape = w.tape ∧ W1.output = w.output := by rw [← hW1]; exact ⟨rfl, rfl, rfl⟩
      refine ⟨ht.os.trans hw1.1, ht.tape.trans hw1.2.1, ht.output.trans hw1.2.2, by simp only [World.putObj_size]; have := ht.size; omega, ?_, ?_, ?_⟩
      · intro k hk hn
        rw [World.putObj_heap_other (by omega), ht.block k (by omega) (fun h => by rcases h with h | h | h; exact hn h; omega; omega), hold k (by omega)]
      · intro k hk
        rcases ht.sub k ((hA2 k).2 (.inl hk)) with (h | h | h) | h
        · exact .inl h
        · exact .inr (by omega)
        · exact .inr (by omega)
        · exact .inr (by omega)
      · intro k hk
        simp only [World.putObj_size]; exact ht.bd k ((hA2 k).2 (.inl hk))
    rintro e W2 ⟨⟨v, rfl⟩, A2, ht, ⟨A1, hA2, hd, hl, hi, hL, hK⟩ | ⟨pre, hpre, A1, c, hA2, hd, hl, hi, hL, hK⟩⟩
    · refine ⟨none, _, by have := run_endLoop (P := P) hL (by rw [hrec]; simp); rw [hrec] at this; exact this, ?_⟩
      exact hdone D A1 _ (hend _ ht hA2 hl) hd (by omega) (hI _ _ _ _ hi fun k hk => World.putObj_heap_other (fun e => hl (e ▸ hk))) ((World.putObj_heap_other (by omega)).trans hK)
    · refine ⟨some c, _, by have := run_endLoop (P := P) hL (by rw [hrec]; simp); rw [hrec] at this; exact this, ?_⟩
      exact hstop D c pre A1 _ (hend _ ht hA2 hl) hd (by omega) hpre (hIx c _ _ _ _ hi fun k hk => World.putObj_heap_other (fun e => hl (e ▸ hk))) ((World.putObj_heap_other (by omega)).trans hK)

end Go.Proofs.YtandmngfajoinaaGreat
