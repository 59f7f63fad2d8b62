/- A core: a map that counts; its box; what it is in a law; its calls. A core: Form, Load, Change, New, Seed; what the document tells of an empty one. -/
import Derived.Test.YtandmngfajoinaaGreatJnm
import Derived.Test.YtandmngfajoinaaGreatYh
namespace Go.Proofs.YtandmngfajoinaaGreat.Po
open Go.RowKit Go.Maps

/-! A map that counts -/
/-- Block m counts: C tells of each number how often, at most n times together. -/
def CMap (w : World) (m n : Nat) (C : Int → Int) : Prop := ∃ D : DataW Unit, w.ownsMap Tryz.prog 3 (plainElem Tryz.prog 2) m n D ∧ (∀ z, D.atKey (.int .i64 z) (.lit (.int .i64 0)) = .lit (.int .i64 (C z))) ∧ ∀ z, 0 ≤ C z ∧ C z ≤ (n : Int)
theorem CMap.keep {w w' : World} {m n : Nat} {C : Int → Int} (h : CMap w m n C) (hs : w'.heap[m]? = w.heap[m]?) : CMap w' m n C := by
  obtain ⟨D, ⟨es, clock, hb, r⟩, h2⟩ := h
  exact ⟨D, ⟨es, clock, hs.trans hb, r⟩, h2⟩
theorem CMap.lt {w : World} {m n : Nat} {C : Int → Int} (h : CMap w m n C) : m < w.heap.size := by
  obtain ⟨D, h1, _⟩ := h
  exact h1.lt
theorem CMap.weak {w : World} {m n n' : Nat} {C : Int → Int} (h : CMap w m n C) (hn : n ≤ n') : CMap w m n' C := by
  obtain ⟨D, h1, h2, h3⟩ := h
  exact ⟨D, h1.mono hn, h2, fun z => ⟨(h3 z).1, by have := (h3 z).2; omega⟩⟩
theorem CMap.new (w : World) : CMap (w.alloc (.map #[] 0)) w.heap.size 0 (fun _ => 0) :=
  ⟨.map [], World.ownsMap_made w Tryz.prog 3 (plainElem Tryz.prog 2), fun _ => rfl, fun _ => ⟨Int.le_refl _, Int.le_refl _⟩⟩
theorem CMap.bd {w : World} {m n : Nat} {C : Int → Int} (h : CMap w m n C) (z : Int) : 0 ≤ C z ∧ C z ≤ (n : Int) := by
  obtain ⟨D, h1, h2, h3⟩ := h
  exact h3 z
set_option maxRecDepth 100000 in
theorem CMap.look {w : World} {m n : Nat} {C : Int → Int} (h : CMap w m n C) {id : Int} (hw : wf64 id) :
    (Instr.lookup 31 (.map (some m)) (.int .i64 id) false).run Tryz.prog w = .ok (.int .i64 (C id)) w := by
  obtain ⟨D, h1, h2, h3⟩ := h
  obtain ⟨c, hrun, hat, -⟩ := h1.lookup_int keyed_i Tryz.underlying31 Tryz.underlying2 (zero_i64 w) (keyOf_int_mk Tryz.underlying3 hw)
  have e : C id = c := by
    have h4 := h2 id
    rw [hat] at h4
    injection h4 with h4
    injection h4 with _ h4
    exact h4.symm
  rw [hrun, e]
theorem CMap.inc {w : World} {m n : Nat} {C : Int → Int} (h : CMap w m n C) {id : Int} (hw : wf64 id) (hn : n ≤ 1000000) :
    ∃ w', (Instr.mapUpdate 31 (.map (some m)) (.int .i64 id) (.int .i64 (C id + 1))).run Tryz.prog w = .ok () w' ∧ CMap w' m (n + 1) (incC C id) ∧ w.grownBy w' (some m) ∧ w'.heap.size = w.heap.size := by
  obtain ⟨D, h1, h2, h3⟩ := h
  have hb := h3 id
  obtain ⟨w', hrun, h4, h5⟩ := h1.store keyed_i Tryz.underlying31 (by unfold maxLen; omega) (keyOf_int_mk Tryz.underlying3 hw) (plainElem_int Tryz.underlying2 (wf64_of (a := C id + 1) (by omega) (by omega)))
  refine ⟨w', hrun, ⟨_, h4, fun z => ?_, fun z => ?_⟩, h5.grown, ?_⟩
  · unfold incC
    by_cases e : z = id
    · subst e
      rw [if_pos rfl, atKey_put_same h1.isMap (isKey _)]
    · rw [if_neg e, atKey_put_other (by intro e'; injection e' with _ e'; exact e e')]
      exact h2 z
  · unfold incC
    have := h3 z
    split <;> omega
  · obtain ⟨_, _, _, _, _, rfl⟩ := h5
    simp [ChangeMaps.setBlock]

/-! Its box -/
def CBox (w : World) (o p m : Nat) (idle age : Int) : Prop := w.heap[o]? = some (.cells #[.pointer (some ⟨p, 0, none⟩), .map (some m), .int .i64 idle, .int .i64 age] 80 (0, 0))
theorem CBox.lt {w : World} {o p m : Nat} {idle age : Int} (h : CBox w o p m idle age) : o < w.heap.size := (Array.getElem?_eq_some_iff.1 h).1
theorem CBox.cells {w : World} {o p m : Nat} {idle age : Int} (h : CBox w o p m idle age) :
    w.cell? ⟨o, 0, none⟩ = some (.pointer (some ⟨p, 0, none⟩)) ∧ w.cell? ⟨o, 1, none⟩ = some (.map (some m)) ∧ w.cell? ⟨o, 2, none⟩ = some (.int .i64 idle) ∧ w.cell? ⟨o, 3, none⟩ = some (.int .i64 age) ∧ w.frozen? ⟨o, 0, none⟩ = false ∧ w.frozen? ⟨o, 2, none⟩ = false ∧ w.frozen? ⟨o, 3, none⟩ = false := by
  refine ⟨?_, ?_, ?_, ?_, ?_, ?_, ?_⟩ <;> simp [World.cell?, World.frozen?, show w.heap[o]? = _ from h]
theorem CBox.keep {w w' : World} {o p m : Nat} {idle age : Int} (h : CBox w o p m idle age) (hs : w'.heap[o]? = w.heap[o]?) : CBox w' o p m idle age := hs.trans h
theorem CBox.set0 {w : World} {o p m : Nat} {idle age : Int} (h : CBox w o p m idle age) (q : Nat) : CBox (w.setCell ⟨o, 0, none⟩ (.pointer (some ⟨q, 0, none⟩))) o q m idle age := setCell_q (i := 0) _ h
theorem CBox.set2 {w : World} {o p m : Nat} {idle age : Int} (h : CBox w o p m idle age) (z : Int) : CBox (w.setCell ⟨o, 2, none⟩ (.int .i64 z)) o p m z age := setCell_q (i := 2) _ h
theorem CBox.set3 {w : World} {o p m : Nat} {idle age : Int} (h : CBox w o p m idle age) (z : Int) : CBox (w.setCell ⟨o, 3, none⟩ (.int .i64 z)) o p m idle z := setCell_q (i := 3) _ h

/-- What has been turned is none of its. -/
theorem SIn.turn {t : Int} {W w w' : World} {s S : Nat} {base cur : Int} {R : List TI} {F : Nat → Prop} (h : SIn t W w s base cur R S F) (g : Nat) (hg : F g) (hb : Below W.heap.size W w') (hz : w.heap.size ≤ w'.heap.size) (hs : ∀ k, k < w.heap.size → k ≠ g → w'.heap[k]? = w.heap[k]?) : SIn t W w' s base cur R S F := by
  obtain ⟨A, st, h1, h2, h3, h4, h5, h6⟩ := h
  exact ⟨A, st, h1.keep (fun k hk => hs k (h1.lt k hk) (fun e => (h6 g hg).2 (e ▸ hk))), h2, h3, h4, hb, fun k hk => ⟨by have := (h6 k hk).1; omega, (h6 k hk).2⟩⟩

/-! In a law -/
/-- Block o is a core that the law has made: its queue, its counters; F: blocks that are none of its. -/
def CIn (t : Int) (W w : World) (o : Nat) (base cur : Int) (T : List TI) (C : Int → Int) (idle age : Int) (S N : Nat) (F : Nat → Prop) : Prop :=
  ∃ p m, SIn t W w p base cur T S (fun k => F k ∨ k = o ∨ k = m) ∧ CBox w o p m idle age ∧ CMap w m N C ∧ (W.heap.size ≤ o ∧ W.heap.size ≤ m ∧ o ≠ m) ∧ (∀ k, F k → k ≠ o ∧ k ≠ m) ∧ (0 ≤ idle ∧ idle ≤ (N : Int) ∧ 0 ≤ age ∧ age ≤ (N : Int))
def CPost (t : Int) (W w : World) (o : Nat) (base cur : Int) (T : List TI) (C : Int → Int) (idle age : Int) (S N : Nat) (F : Nat → Prop) (r : Value) (e : Ending) (w' : World) : Prop :=
  e = .returned r ∧ CIn t W w' o base cur T C idle age S N F ∧ ∀ k, F k → w'.heap[k]? = w.heap[k]?
section
variable {t : Int} {W w w' : World} {o S N : Nat} {base cur idle age : Int} {T : List TI} {C : Int → Int} {F : Nat → Prop}
theorem CIn.wf (h : CIn t W w o base cur T C idle age S N F) : WfS base cur (cutL T) := by
  obtain ⟨p, m, h1, _⟩ := h
  exact h1.wf
theorem CIn.tag (h : CIn t W w o base cur T C idle age S N F) : Tag t := by
  obtain ⟨p, m, h1, _⟩ := h
  exact h1.tag
theorem CIn.frame (h : CIn t W w o base cur T C idle age S N F) : Below W.heap.size W w := by
  obtain ⟨p, m, h1, _⟩ := h
  exact h1.frame
theorem CIn.more {G : Nat → Prop} (h : CIn t W w o base cur T C idle age S N F) (hb : Below w.heap.size w w') (hG : ∀ k, G k → F k ∨ (w.heap.size ≤ k ∧ k < w'.heap.size)) : CIn t W w' o base cur T C idle age S N G := by
  obtain ⟨p, m, h1, h2, h3, h4, h5, h6⟩ := h
  refine ⟨p, m, h1.more hb (fun k hk => ?_), h2.keep (hb.block _ h2.lt), h3.keep (hb.block _ h3.lt), h4, fun k hk => ?_, h6⟩
  · rcases hk with hk | hk
    · exact (hG k hk).imp .inl id
    · exact .inl (.inr hk)
  · rcases hG k hk with h | h
    · exact h5 k h
    · have e1 := h2.lt
      have e2 := h3.lt
      exact ⟨by omega, by omega⟩
theorem CIn.below (h : CIn t W w o base cur T C idle age S N F) (hb : Below w.heap.size w w') : CIn t W w' o base cur T C idle age S N F := h.more hb (fun _ hk => .inl hk)
theorem CIn.weak (h : CIn t W w o base cur T C idle age S N F) {S' N' : Nat} (hS : S ≤ S') (hN : N ≤ N') : CIn t W w o base cur T C idle age S' N' F := by
  obtain ⟨p, m, h1, h2, h3, h4, h5, h6⟩ := h
  exact ⟨p, m, h1.weak hS, h2, h3.weak hN, h4, h5, by omega⟩
theorem CPost.weak {r : Value} {S' N' : Nat} (hS : S ≤ S') (hN : N ≤ N') : ∀ e w', CPost t W w o base cur T C idle age S N F r e w' → CPost t W w o base cur T C idle age S' N' F r e w' := fun _ _ ⟨h1, h2, h3⟩ => ⟨h1, h2.weak hS hN, h3⟩
/-- It is older by a call. -/
theorem CIn.set3 (h : CIn t W w o base cur T C idle age S N F) : CIn t W (w.setCell ⟨o, 3, none⟩ (.int .i64 (age + 1))) o base cur T C idle (age + 1) S (N + 1) F ∧ ∀ k, F k → (w.setCell ⟨o, 3, none⟩ (.int .i64 (age + 1))).heap[k]? = w.heap[k]? := by
  obtain ⟨p, m, h1, h2, h3, h4, h5, h6⟩ := h
  have ho : ∀ k, k ≠ o → (w.setCell ⟨o, 3, none⟩ (.int .i64 (age + 1))).heap[k]? = w.heap[k]? := fun k hk => Below.heap_setCell w _ _ k hk
  exact ⟨⟨p, m, h1.turn o (.inr (.inl rfl)) (h1.frame.setCell h4.1 _) (by simp [World.setCell]) (fun k _ hk => ho k hk), h2.set3 _, (h3.keep (ho m (fun e => h4.2.2 e.symm))).weak (Nat.le_succ _), h4, h5, by omega⟩, fun k hk => ho k (h5 k hk).1⟩

/-- How old it is behind a call that answered e. -/
def upI (e age : Int) : Int := if e = 0 then age + 1 else age
theorem upI_zero (age : Int) : upI 0 age = age + 1 := if_pos rfl
theorem upI_no {e : Int} (age : Int) (h : e ≠ 0) : upI e age = age := if_neg h
set_option maxHeartbeats 1000000 in
theorem cgrow_in (x : Int) (h : CIn t W w o base cur T C idle age S N F) (hN : N ≤ 1000000) :
    Calls Tryz.prog 37 #[.pointer (some ⟨o, 0, none⟩), .int .i64 x] w (CPost t W w o base cur T C idle (upI x age) S (N + 1) F (.int .i64 x)) := by
  by_cases hx : x = 0
  · subst hx
    rw [upI_zero]
    have POST := Lib.hid h.set3
    obtain ⟨p, m, h1, h2, h3, h4, h5, h6, h7, h8, h9⟩ := h
    obtain ⟨-, -, -, c3, -, -, f3⟩ := h2.cells
    clear h1 h2 h3 h4 h5 h6 h7
    go_enter Tryz.func37, Tryz.ntmps37
    go_wp2_with fail
    go_ret
    exact ⟨rfl, POST.out⟩
  · rw [upI_no age hx]
    have POST : Hid (CIn t W w o base cur T C idle age S (N + 1) F) := Lib.hid (h.weak (Nat.le_refl _) (Nat.le_succ _))
    clear h
    go_enter Tryz.func37, Tryz.ntmps37
    go_wp2_with fail
    go_ret
    exact ⟨rfl, POST.out, fun _ _ => rfl⟩

/-- Behind a call of its queue's. -/
theorem cin_post {p m S' : Nat} {base' cur' : Int} {T' : List TI} {r : Value} {e : Ending} (h2 : CBox w o p m idle age) (h3 : CMap w m N C) (h4 : W.heap.size ≤ o ∧ W.heap.size ≤ m ∧ o ≠ m) (h5 : ∀ k, F k → k ≠ o ∧ k ≠ m) (h6 : 0 ≤ idle ∧ idle ≤ (N : Int) ∧ 0 ≤ age ∧ age ≤ (N : Int))
    (hp : InPost t W w p base' cur' T' S' (fun k => F k ∨ k = o ∨ k = m) r e w') : CPost t W w o base' cur' T' C idle age S' N F r e w' := by
  obtain ⟨he, hq, hF⟩ := hp
  exact ⟨he, ⟨p, m, hq, h2.keep (hF o (.inr (.inl rfl))), h3.keep (hF m (.inr (.inr rfl))), h4, h5, h6⟩, fun k hk => hF k (.inl hk)⟩

def entC (t : Int) (ex : Bool) (base : Int) (T : List TI) (x : RI) : Int × Int × List TI := if ex = true then putU base T x else entP t base T x
set_option maxRecDepth 100000 in
set_option maxHeartbeats 1000000 in
theorem center_in (x : RI) (ex : Bool) (h : CIn t W w o base cur T C idle age S N F) (b1 : -3900000000000000000 ≤ base) (b2 : base ≤ 3900000000000000000) (hS : S ≤ 1000000000) (hN : N ≤ 1000000) :
    Calls Tryz.prog 11 #[.pointer (some ⟨o, 0, none⟩), .int .i64 x.1, .int .i64 x.2.1, .int .i64 x.2.2, .bool ex] w (CPost t W w o (entC t ex base T x).2.1 cur (entC t ex base T x).2.2 C idle (upI (entC t ex base T x).1 age) (S + 24) (N + 1) F (.int .i64 (entC t ex base T x).1)) := by
  obtain ⟨p, m, h1, h2, h3, h4, h5, h6⟩ := h
  obtain ⟨c0, -, -, -, -, -, -⟩ := h2.cells
  cases ex with
  | true =>
    have e : entC t true base T x = putU base T x := if_pos rfl
    rw [e]
    have K := Lib.hid ((sput_in x h1 b1 b2 hS).mono (fun e w' hp => cin_post h2 h3 h4 h5 h6 hp))
    clear h1 h2 h3 h4 h5 h6 b1 b2 hS e
    obtain ⟨x0, x1, x2⟩ := x
    generalize putU base T (x0, x1, x2) = r at *
    obtain ⟨a2, ha2⟩ : ∃ a2, upI r.1 age = a2 := ⟨_, rfl⟩
    rw [ha2]
    have HA2 := Lib.hid ha2
    clear ha2
    go_enter Tryz.func11, Tryz.ntmps11
    go_wp2_with fail
    refine K.out.mono ?_
    rintro e w1 ⟨rfl, hq, hF⟩
    have K20 := cgrow_in r.1 hq hN
    rw [HA2.out] at K20
    have K2 := Lib.hid K20
    clear K20 HA2
    have HF := Lib.hid hF
    clear K hq hF c0
    go_wp2_with fail
    refine K2.out.mono ?_
    rintro e w2 ⟨rfl, hq, hF⟩
    have HQ : Hid (CIn t W w2 o r.2.1 cur r.2.2 C idle a2 (S + 24) (N + 1) F ∧ ∀ k, F k → w2.heap[k]? = w.heap[k]?) := Lib.hid ⟨hq, fun k hk => (hF k hk).trans (HF.out k hk)⟩
    clear K2 hq hF HF
    go_wp2_with fail
    go_ret
    exact ⟨rfl, HQ.out⟩
  | false =>
    have e : entC t false base T x = entP t base T x := if_neg Bool.false_ne_true
    rw [e]
    have K := Lib.hid ((senter_in x h1 b1 b2 hS).mono (fun e w' hp => cin_post h2 h3 h4 h5 h6 hp))
    clear h1 h2 h3 h4 h5 h6 b1 b2 hS e
    obtain ⟨x0, x1, x2⟩ := x
    generalize entP t base T (x0, x1, x2) = r at *
    obtain ⟨a2, ha2⟩ : ∃ a2, upI r.1 age = a2 := ⟨_, rfl⟩
    rw [ha2]
    have HA2 := Lib.hid ha2
    clear ha2
    go_enter Tryz.func11, Tryz.ntmps11
    go_wp2_with fail
    refine K.out.mono ?_
    rintro e w1 ⟨rfl, hq, hF⟩
    have K20 := cgrow_in r.1 hq hN
    rw [HA2.out] at K20
    have K2 := Lib.hid K20
    clear K20 HA2
    have HF := Lib.hid hF
    clear K hq hF c0
    go_wp2_with fail
    refine K2.out.mono ?_
    rintro e w2 ⟨rfl, hq, hF⟩
    have HQ : Hid (CIn t W w2 o r.2.1 cur r.2.2 C idle a2 (S + 24) (N + 1) F ∧ ∀ k, F k → w2.heap[k]? = w.heap[k]?) := Lib.hid ⟨hq, fun k hk => (hF k hk).trans (HF.out k hk)⟩
    clear K2 hq hF HF
    go_wp2_with fail
    go_ret
    exact ⟨rfl, HQ.out⟩
set_option maxRecDepth 100000 in
set_option maxHeartbeats 1000000 in
theorem cleave_in (id : Int) (h : CIn t W w o base cur T C idle age S N F) (hid : wf64 id) (hS : S ≤ 1000000000) (hN : N ≤ 1000000) :
    Calls Tryz.prog 13 #[.pointer (some ⟨o, 0, none⟩), .int .i64 id] w (CPost t W w o (leaveU base cur T id).2.2.1 (leaveU base cur T id).2.2.2.1 (leaveU base cur T id).2.2.2.2 C idle (upI (leaveU base cur T id).2.1 age) (S + 24) (N + 1) F (.tuple #[.int .i64 (leaveU base cur T id).1, .int .i64 (leaveU base cur T id).2.1])) := by
  obtain ⟨p, m, h1, h2, h3, h4, h5, h6⟩ := h
  obtain ⟨c0, -, -, -, -, -, -⟩ := h2.cells
  have K := Lib.hid ((sleave_in id h1 hid hS).mono (fun e w' hp => cin_post h2 h3 h4 h5 h6 hp))
  clear h1 h2 h3 h4 h5 h6 hS
  generalize leaveU base cur T id = r at *
  obtain ⟨a2, ha2⟩ : ∃ a2, upI r.2.1 age = a2 := ⟨_, rfl⟩
  rw [ha2]
  have HA2 := Lib.hid ha2
  clear ha2
  go_enter Tryz.func13, Tryz.ntmps13
  go_wp2_with fail
  refine K.out.mono ?_
  rintro e w1 ⟨rfl, hq, hF⟩
  have K20 := cgrow_in r.2.1 hq hN
  rw [HA2.out] at K20
  have K2 := Lib.hid K20
  clear K20 HA2
  have HF := Lib.hid hF
  clear K hq hF c0
  go_wp2_with fail
  refine K2.out.mono ?_
  rintro e w2 ⟨rfl, hq, hF⟩
  have HQ : Hid (CIn t W w2 o r.2.2.1 r.2.2.2.1 r.2.2.2.2 C idle a2 (S + 24) (N + 1) F ∧ ∀ k, F k → w2.heap[k]? = w.heap[k]?) := Lib.hid ⟨hq, fun k hk => (hF k hk).trans (HF.out k hk)⟩
  clear K2 hq hF HF
  go_wp2_with fail
  go_ret2
  exact ⟨rfl, HQ.out⟩
set_option maxRecDepth 100000 in
set_option maxHeartbeats 1000000 in
theorem cweigh_in (id n : Int) (h : CIn t W w o base cur T C idle age S N F) (hid : wf64 id) (hn : wf64 n) (hS : S ≤ 1000000000) (hN : N ≤ 1000000) :
    Calls Tryz.prog 15 #[.pointer (some ⟨o, 0, none⟩), .int .i64 id, .int .i64 n] w (CPost t W w o base cur (weighU T id n).2 C idle (upI (weighU T id n).1 age) (S + 16) (N + 1) F (.int .i64 (weighU T id n).1)) := by
  obtain ⟨p, m, h1, h2, h3, h4, h5, h6⟩ := h
  obtain ⟨c0, -, -, -, -, -, -⟩ := h2.cells
  have K := Lib.hid ((sweigh_in id n h1 hid hn hS).mono (fun e w' hp => cin_post h2 h3 h4 h5 h6 hp))
  clear h1 h2 h3 h4 h5 h6 hS
  generalize weighU T id n = r at *
  obtain ⟨a2, ha2⟩ : ∃ a2, upI r.1 age = a2 := ⟨_, rfl⟩
  rw [ha2]
  have HA2 := Lib.hid ha2
  clear ha2
  go_enter Tryz.func15, Tryz.ntmps15
  go_wp2_with fail
  refine K.out.mono ?_
  rintro e w1 ⟨rfl, hq, hF⟩
  have K20 := cgrow_in r.1 hq hN
  rw [HA2.out] at K20
  have K2 := Lib.hid K20
  clear K20 HA2
  have HF := Lib.hid hF
  clear K hq hF c0
  go_wp2_with fail
  refine K2.out.mono ?_
  rintro e w2 ⟨rfl, hq, hF⟩
  have HQ : Hid (CIn t W w2 o base cur r.2 C idle a2 (S + 16) (N + 1) F ∧ ∀ k, F k → w2.heap[k]? = w.heap[k]?) := Lib.hid ⟨hq, fun k hk => (hF k hk).trans (HF.out k hk)⟩
  clear K2 hq hF HF
  go_wp2_with fail
  go_ret
  exact ⟨rfl, HQ.out⟩

/-- One has run: it is noted. -/
theorem CIn.noted {p m : Nat} {i : Int} (h1 : SIn t W w p base cur T S (fun k => F k ∨ k = o ∨ k = m)) (h2 : CBox w o p m idle age) (h4 : W.heap.size ≤ o ∧ W.heap.size ≤ m ∧ o ≠ m) (h5 : ∀ k, F k → k ≠ o ∧ k ≠ m) (h6 : 0 ≤ idle ∧ idle ≤ (N : Int) ∧ 0 ≤ age ∧ age ≤ (N : Int))
    (hm : CMap w' m (N + 1) (incC C i)) (hg : w.grownBy w' (some m)) (hz : w'.heap.size = w.heap.size) : CIn t W w' o base cur T (incC C i) idle age S (N + 1) F ∧ ∀ k, F k → k < w.heap.size → w'.heap[k]? = w.heap[k]? := by
  have hs : ∀ k, k < w.heap.size → k ≠ m → w'.heap[k]? = w.heap[k]? := fun k hk hne => hg.block k hk (fun e => hne (Option.some.inj e))
  exact ⟨⟨p, m, h1.turn m (.inr (.inr rfl)) (h1.frame.grown hg h1.frame.size (fun k e => by injection e with e; rw [← e]; exact h4.2.1)) (by omega) hs, h2.keep (hs o h2.lt h4.2.2), hm, h4, h5, by omega⟩, fun k hk hlt => hs k hlt (h5 k hk).2⟩

set_option maxHeartbeats 2000000 in
theorem crun_ok {i b' : Int} {T' : List TI} (hc : chargeU base (pickPC t cur T) T = (i, 0, b', T')) (hi : wf64 i) (h : CIn t W w o base cur T C idle age S N F) (hS : S ≤ 1000000000) (hN : N ≤ 100000) :
    Calls Tryz.prog 17 #[.pointer (some ⟨o, 0, none⟩)] w (CPost t W w o b' (pickPC t cur T) T' (incC C i) idle (age + 1) (S + 32) (N + 2) F (.tuple #[.int .i64 i, .int .i64 0])) := by
  obtain ⟨p, m, h1, h2, h3, h4, h5, h6⟩ := h
  obtain ⟨c0, c1, -, -, -, -, -⟩ := h2.cells
  have K := srun_in h1 hS
  rw [hc] at K
  have K := Lib.hid K
  have HB := Lib.hid (And.intro h2 (And.intro h3 (And.intro h4 (And.intro h5 h6))))
  have HF0 : Hid (∀ k, F k → k < w.heap.size) := Lib.hid (fun k hk => by obtain ⟨A, st, _, _, _, _, _, g6⟩ := h1; exact (g6 k (.inl hk)).1)
  have hbd := h3.bd i
  clear h1 h2 h3 h4 h5 h6 hS hc
  generalize pickPC t cur T = cur' at *
  go_enter Tryz.func17, Tryz.ntmps17
  go_wp2_with fail
  refine K.out.mono ?_
  rintro e w1 ⟨rfl, hq, hF⟩
  have g2 := HB.out.1.keep (hF o (.inr (.inl rfl)))
  have g3 := HB.out.2.1.keep (hF m (.inr (.inr rfl)))
  obtain ⟨d0, d1, d2, d3, -, -, d6⟩ := g2.cells
  have hl := g3.look hi
  obtain ⟨w2, hrun, hm, hg, hz⟩ := g3.inc hi (by omega)
  obtain ⟨hq2, hF2⟩ := CIn.noted hq g2 HB.out.2.2.1 HB.out.2.2.2.1 HB.out.2.2.2.2 hm hg hz
  have hsz : w.heap.size ≤ w1.heap.size ∨ True := .inr trivial
  have HF : Hid (∀ k, F k → w2.heap[k]? = w.heap[k]?) := Lib.hid (fun k hk => by
    have hlt : k < w1.heap.size := by obtain ⟨A, st, _, _, _, _, _, g6⟩ := hq; exact (g6 k (.inl hk)).1
    exact (hF2 k hk hlt).trans (hF k (.inl hk)))
  have K20 := cgrow_in 0 hq2 (by omega)
  rw [upI_zero] at K20
  have K2 := Lib.hid K20
  clear K20
  clear K HB hq hF g2 g3 hm hg hz hq2 hF2 hsz c0 c1 HF0
  go_wp2_with fail
  refine K2.out.mono ?_
  rintro e w3 ⟨rfl, hq, hF⟩
  have HQ : Hid (CIn t W w3 o b' cur' T' (incC C i) idle (age + 1) (S + 32) (N + 2) F ∧ ∀ k, F k → w3.heap[k]? = w.heap[k]?) := Lib.hid ⟨hq, fun k hk => (hF k hk).trans (HF.out k hk)⟩
  clear K2 hq hF HF hl hrun
  go_wp2_with fail
  go_ret2
  exact ⟨rfl, HQ.out⟩
/-- Nobody ran. -/
theorem CIn.set2 (h : CIn t W w o base cur T C idle age S N F) : CIn t W (w.setCell ⟨o, 2, none⟩ (.int .i64 (idle + 1))) o base cur T C (idle + 1) age S (N + 1) F ∧ ∀ k, F k → (w.setCell ⟨o, 2, none⟩ (.int .i64 (idle + 1))).heap[k]? = w.heap[k]? := by
  obtain ⟨p, m, h1, h2, h3, h4, h5, h6⟩ := h
  have ho : ∀ k, k ≠ o → (w.setCell ⟨o, 2, none⟩ (.int .i64 (idle + 1))).heap[k]? = w.heap[k]? := fun k hk => Below.heap_setCell w _ _ k hk
  exact ⟨⟨p, m, h1.turn o (.inr (.inl rfl)) (h1.frame.setCell h4.1 _) (by simp [World.setCell]) (fun k _ hk => ho k hk), h2.set2 _, (h3.keep (ho m (fun e => h4.2.2 e.symm))).weak (Nat.le_succ _), h4, h5, by omega⟩, fun k hk => ho k (h5 k hk).1⟩
set_option maxHeartbeats 2000000 in
theorem crun_none (h : CIn t W w o base cur [] C idle age S N F) (hS : S ≤ 1000000000) (hN : N ≤ 100000) :
    Calls Tryz.prog 17 #[.pointer (some ⟨o, 0, none⟩)] w (CPost t W w o base (-1) [] C (idle + 1) (age + 1) (S + 32) (N + 2) F (.tuple #[.int .i64 (-1), .int .i64 0])) := by
  obtain ⟨p, m, h1, h2, h3, h4, h5, h6⟩ := h
  obtain ⟨c0, -, -, -, -, -, -⟩ := h2.cells
  have K := srun_in h1 hS
  have e1 : pickPC t cur [] = -1 := if_pos rfl
  have e2 : chargeU base (-1) [] = (0, 14, base, []) := rfl
  rw [e1, e2] at K
  have K := Lib.hid (K.mono (fun e w' hp => cin_post h2 h3 h4 h5 h6 hp))
  obtain ⟨h7, h8, -, -⟩ := h6
  clear h1 h2 h3 h4 h5 hS e1 e2
  go_enter Tryz.func17, Tryz.ntmps17
  go_wp2_with fail
  refine K.out.mono ?_
  rintro e w1 ⟨rfl, hq, hF⟩
  obtain ⟨hq2, hF2⟩ := hq.set2
  have K20 := cgrow_in 0 hq2 (by omega)
  rw [upI_zero] at K20
  have K2 := Lib.hid K20
  clear K20
  have HF : Hid (∀ k, F k → (w1.setCell ⟨o, 2, none⟩ (.int .i64 (idle + 1))).heap[k]? = w.heap[k]?) := Lib.hid (fun k hk => (hF2 k hk).trans (hF k hk))
  obtain ⟨p', m', -, g2, -⟩ := hq
  obtain ⟨-, -, d2, -, -, f2, -⟩ := g2.cells
  clear K hF hq2 hF2 g2 c0
  go_wp2_with fail
  refine K2.out.mono ?_
  rintro e w3 ⟨rfl, hq, hF⟩
  have HQ : Hid (CIn t W w3 o base (-1) [] C (idle + 1) (age + 1) (S + 32) (N + 2) F ∧ ∀ k, F k → w3.heap[k]? = w.heap[k]?) := Lib.hid ⟨hq, fun k hk => (hF k hk).trans (HF.out k hk)⟩
  clear K2 hq hF HF d2 f2
  go_wp2_with fail
  go_ret2
  exact ⟨rfl, HQ.out⟩

theorem ctag_in (h : CIn t W w o base cur T C idle age S N F) :
    Calls Tryz.prog 27 #[.pointer (some ⟨o, 0, none⟩)] w fun e w' => e = .returned (.int .i64 t) ∧ w = w' := by
  obtain ⟨p, m, ⟨A, st, hq, _⟩, h2, _⟩ := h
  obtain ⟨c0, -, -, -, -, -, -⟩ := h2.cells
  have K := Lib.hid (ptag_k w hq)
  clear hq h2
  go_enter Tryz.func27, Tryz.ntmps27
  go_wp2_with fail
  refine K.out.mono ?_
  rintro e w' ⟨rfl, rfl⟩
  go_wp2_with fail
  go_ret
  exact ⟨rfl, rfl⟩
theorem cidle_in (h : CIn t W w o base cur T C idle age S N F) :
    Calls Tryz.prog 28 #[.pointer (some ⟨o, 0, none⟩)] w fun e w' => e = .returned (.int .i64 idle) ∧ w = w' := by
  obtain ⟨p, m, -, h2, -⟩ := h
  obtain ⟨-, -, c2, -, -, -, -⟩ := h2.cells
  clear h2
  go_enter Tryz.func28, Tryz.ntmps28
  go_wp2_with fail
  go_ret
  exact ⟨rfl, rfl⟩
theorem cage_in (h : CIn t W w o base cur T C idle age S N F) :
    Calls Tryz.prog 29 #[.pointer (some ⟨o, 0, none⟩)] w fun e w' => e = .returned (.int .i64 age) ∧ w = w' := by
  obtain ⟨p, m, -, h2, -⟩ := h
  obtain ⟨-, -, -, c3, -, -, -⟩ := h2.cells
  clear h2
  go_enter Tryz.func29, Tryz.ntmps29
  go_wp2_with fail
  go_ret
  exact ⟨rfl, rfl⟩
set_option maxHeartbeats 1000000 in
theorem cserved_in (i : Int) (hi : wf64 i) (h : CIn t W w o base cur T C idle age S N F) :
    Calls Tryz.prog 31 #[.pointer (some ⟨o, 0, none⟩), .int .i64 i] w fun e w' => e = .returned (.int .i64 (C i)) ∧ w = w' := by
  obtain ⟨p, m, -, h2, h3, -⟩ := h
  obtain ⟨-, c1, -, -, -, -, -⟩ := h2.cells
  have hl := h3.look hi
  clear h2 h3
  go_enter Tryz.func31, Tryz.ntmps31
  go_wp2_with fail
  go_ret
  exact ⟨rfl, rfl⟩
end
end Go.Proofs.YtandmngfajoinaaGreat.Po

namespace Go.Proofs.YtandmngfajoinaaGreat.Po
open Go.RowKit Go.Maps

section
variable {t : Int} {W w w' : World} {o S N : Nat} {base cur idle age : Int} {T : List TI} {C : Int → Int} {F : Nat → Prop}
set_option maxHeartbeats 1000000 in
theorem cform_in (h : CIn t W w o base cur T C idle age S N F) :
    Calls Tryz.prog 21 #[.pointer (some ⟨o, 0, none⟩)] w fun e w' => ∃ A c, e = .returned (.agg #[.int .i64 cur, .slice A T.length c]) ∧ TRow w' A (formU base T) ∧ Below w.heap.size w w' := by
  have hb1 : Below w.heap.size w (w.alloc (.cells #[.int .i64 0, .slice none 0 0] 47)) := (Below.refl _ w).alloc (Nat.le_refl _) _
  have hf1 : FoAt (w.alloc (.cells #[.int .i64 0, .slice none 0 0] 47)) w.heap.size 0 none 0 0 := heap_alloc_new w _
  obtain ⟨w1, hw1⟩ : ∃ w1, w.alloc (.cells #[.int .i64 0, .slice none 0 0] 47) = w1 := ⟨_, rfl⟩
  have hs1 : w1.heap.size = w.heap.size + 1 := by rw [← hw1]; simp
  rw [hw1] at hb1 hf1
  obtain ⟨p, m, h1, h2, -, -, -, -⟩ := h.below hb1
  obtain ⟨c0, -, -, -, -, -, -⟩ := h2.cells
  have K := Lib.hid (sform_in h1)
  have H1 := Lib.hid (And.intro hb1 (And.intro hf1 hs1))
  clear h h1 h2 hb1 hf1 hs1
  generalize formU base T = L0 at *
  generalize T.length = n0 at *
  go_enter Tryz.func21, Tryz.ntmps21
  go_wp2_with fail
  refine K.out.mono ?_
  rintro e w2 ⟨A2, c2, rfl, hT, hb⟩
  have hf2 : FoAt w2 w.heap.size 0 none 0 0 := BoxAt.next H1.out.2.1 hb (Nat.le_refl _)
  obtain ⟨t0, t1, t2, t3⟩ := two_cells hf2 (.int .i64 cur)
  have hf3 : FoAt (set2 w2 w.heap.size (.int .i64 cur) (.slice A2 n0 c2)) w.heap.size cur A2 n0 c2 := set2_same _ _ hf2
  have hb3 : Below w.heap.size w (set2 w2 w.heap.size (.int .i64 cur) (.slice A2 n0 c2)) := below_set2 _ _ (H1.out.1.trans (hb.mono (by have := H1.out.2.2; omega))) (Nat.le_refl _)
  have hT3 : TRow (set2 w2 w.heap.size (.int .i64 cur) (.slice A2 n0 c2)) A2 L0 := trow_set2 hf2 hT _ _
  have HT := Lib.hid (And.intro hf3 (And.intro hT3 hb3))
  clear hT hb K hf2 hf3 hb3 hT3
  go_wp2_with fail
  refine bodyPost_ret (res_box1 rfl _ w.heap.size _ _ rfl HT.out.1 Tryz.underlying47 rfl (by kernel_rfl)) rfl ?_
  exact ⟨_, c2, rfl, HT.out.2⟩

/-- What all weigh. -/
theorem form_20 {base0 cur0 : Int} (hw : WfS base0 cur0 (cutL T)) : ∀ r ∈ formU base T, 1 ≤ r.2.1 ∧ r.2.1 ≤ 20 := fun r hr => by
  unfold formU formL at hr
  obtain ⟨q, hq, rfl⟩ := List.mem_map.1 hr
  have := hw.each q hq
  exact ⟨this.2.2.1, this.2.2.2.1⟩
theorem load_bd {base0 cur0 : Int} (hw : WfS base0 cur0 (cutL T)) (k : Nat) : 0 ≤ allW ((formU base T).take k) ∧ allW ((formU base T).take k) ≤ 1280 := by
  have h20 := form_20 (base := base) hw
  have h1 := (allW_bd h20).2
  have h2 := allW_take h20 k
  have h3 := (allW_bd (l := (formU base T).take k) (fun r hr => h20 r (List.mem_of_mem_take hr))).1
  have h4 := len_of hw
  rw [formU_length] at h1
  omega
set_option maxRecDepth 100000 in
set_option maxHeartbeats 4000000 in
theorem cload_in (h : CIn t W w o base cur T C idle age S N F) :
    Calls Tryz.prog 30 #[.pointer (some ⟨o, 0, none⟩)] w (Ret10 (.int .i64 (allT T)) w) := by
  have K := Lib.hid (cform_in h)
  have HWA : Hid (∀ k, 0 ≤ allW ((formU base T).take k) ∧ allW ((formU base T).take k) ≤ 1280) := Lib.hid (load_bd h.wf)
  have hl64 := len_of h.wf
  have hn : (formU base T).length = T.length := formU_length _ _
  rw [← allT_form base T]
  have HN := Lib.hid hn
  have HW20 : Hid (∀ r ∈ formU base T, 1 ≤ r.2.1 ∧ r.2.1 ≤ 20) := Lib.hid (form_20 h.wf)
  clear h hn
  generalize formU base T = l at *
  generalize T.length = n at *
  go_enter Tryz.func30, Tryz.ntmps30
  go_wp2_with fail
  refine K.out.mono ?_
  rintro e w1 ⟨A, c, rfl, hT, hb⟩
  have HR := Lib.hid (And.intro hT hb)
  have hfld : ∀ W : World, (Instr.field 47 (.agg #[.int .i64 cur, .slice A n c]) 1).run Tryz.prog W = .ok (.slice A n c) W := fun _ => by kernel_rfl
  clear K hT hb
  go_wp2_with fail
  go_loopw [3, 10] (fun s i wr => ∃ (k : Nat) (z : Int), i = .int .i64 k ∧ s = .int .i64 z ∧ k ≤ n ∧ allW (l.take k) = z ∧ Below w1.heap.size w1 wr) (fun _ i _ => n - (intOf i).toNat)
  case atStart => exact ⟨0, 0, rfl, rfl, Nat.zero_le _, rfl, Below.refl _ _⟩
  case round =>
    obtain ⟨k, z, rfl, rfl, hk, hz, hbw⟩ := hrel
    have HZ := Lib.hid hz
    have HBW := Lib.hid hbw
    have hzb := HWA.out k
    rw [hz] at hzb
    obtain ⟨hz1, hz2⟩ := hzb
    clear hz hbw
    by_cases hlt : k < n
    · obtain ⟨y, hx⟩ : ∃ y, l[k]? = some y := ⟨_, List.getElem?_eq_getElem (by rw [HN.out]; exact hlt)⟩
      obtain ⟨ad, rfl, c0, c1, c2⟩ := (HR.out.1.below HBW.out (Nat.le_refl _)).at hx
      have HX : Hid (allW (l.take (k + 1)) = allW (l.take k) + y.2.1) := Lib.hid (by rw [take_snocR hx, allW_snoc])
      have HB1 := Lib.hid (HBW.out.alloc HBW.out.size (.cells #[.int .i64 y.1, .int .i64 y.2.1, .int .i64 y.2.2] 69))
      have hyw := HW20.out y (List.mem_of_getElem? hx)
      obtain ⟨y0, y1, y2⟩ := y
      simp only at c0 c1 c2 hyw HX HB1
      have hw1 : IntKind.i64.wrap (z + y1) = z + y1 := by rw [IntKind.wrap_i64]; omega
      have hkn : (k : Int) < (n : Int) := by omega
      clear hx hyw
      go_wp2_with fail
      go_roundw
      case rel => exact ⟨k + 1, z + y1, by go_num, rfl, by omega, by rw [HX.out, HZ.out], HB1.out⟩
      case measure => simp [intOf]; omega
    · obtain rfl : k = n := by omega
      obtain rfl : z = allW l := by rw [← HZ.out, ← HN.out, List.take_length]
      have hnn : decide ((k : Int) < (k : Int)) = false := by simp
      have HBR := Lib.hid (HR.out.2.trans (HBW.out.mono HR.out.2.size))
      go_wp2_with fail
      go_ret
      exact ⟨rfl, HBR.out⟩

/-! Another queue -/
theorem cchange_nil (_h : CIn t W w o base cur T C idle age S N F) :
    Calls Tryz.prog 22 #[.pointer (some ⟨o, 0, none⟩), .pointer none] w fun e w' => e = .returned (.int .i64 1) ∧ w = w' := by
  go_enter Tryz.func22, Tryz.ntmps22
  go_wp2_with fail
  go_ret
  exact ⟨rfl, rfl⟩
theorem CIn.lts (h : CIn t W w o base cur T C idle age S N F) : o < w.heap.size ∧ ∀ k, F k → k < w.heap.size := by
  obtain ⟨p, m, ⟨A, st, _, _, _, _, _, g⟩, h2, h3, -⟩ := h
  exact ⟨h2.lt, fun k hk => (g k (.inl hk)).1⟩
/-- Its queue is another one. -/
theorem CIn.set0 {t2 : Int} {w0 : World} {q S2 : Nat} {base2 cur2 : Int} {T2 : List TI} (h0 : CIn t W w0 o base cur T C idle age S N F) (hb : Below w0.heap.size w0 w) (h2 : SIn t2 W w q base2 cur2 T2 S2 (fun k => k < w0.heap.size)) :
    CIn t2 W (w.setCell ⟨o, 0, none⟩ (.pointer (some ⟨q, 0, none⟩))) o base2 cur2 T2 C idle age S2 N F ∧ ∀ k, F k → (w.setCell ⟨o, 0, none⟩ (.pointer (some ⟨q, 0, none⟩))).heap[k]? = w.heap[k]? := by
  obtain ⟨ho, hF⟩ := h0.lts
  obtain ⟨p, m, g1, g2, g3, g4, g5, g6⟩ := h0
  have hm := g3.lt
  have hk : ∀ k, k ≠ o → (w.setCell ⟨o, 0, none⟩ (.pointer (some ⟨q, 0, none⟩))).heap[k]? = w.heap[k]? := fun k hk => Below.heap_setCell w _ _ k hk
  have h3 := h2.turn (w' := w.setCell ⟨o, 0, none⟩ (.pointer (some ⟨q, 0, none⟩))) o ho (h2.frame.setCell g4.1 _) (by simp [World.setCell]) (fun k _ hne => hk k hne)
  obtain ⟨A, st, a1, a2, a3, a4, a5, a6⟩ := h3
  refine ⟨⟨q, m, ⟨A, st, a1, a2, a3, a4, a5, fun k hk' => a6 k ?_⟩, (g2.keep (hb.block o ho)).set0 q, (g3.keep (hb.block m hm)).keep (hk m (fun e => g4.2.2 e.symm)), g4, g5, g6⟩, fun k hk' => hk k (g5 k hk').1⟩
  rcases hk' with h | rfl | rfl
  · exact hF k h
  · exact ho
  · exact hm
set_option maxHeartbeats 2000000 in
theorem cchange_in {t2 : Int} {w0 : World} {q S2 : Nat} {base2 cur2 : Int} {T2 : List TI} (h0 : CIn t W w0 o base cur T C idle age S N F) (hb : Below w0.heap.size w0 w) (h2 : SIn t2 W w q base2 cur2 T2 S2 (fun k => k < w0.heap.size)) :
    Calls Tryz.prog 22 #[.pointer (some ⟨o, 0, none⟩), .pointer (some ⟨q, 0, none⟩)] w fun e w' =>
      if sameB cur2 cur (formU base2 T2) (formU base T) = true then e = .returned (.int .i64 0) ∧ CIn t2 W w' o base2 cur2 T2 C idle age S2 N F ∧ ∀ k, F k → w'.heap[k]? = w.heap[k]?
      else e = .returned (.int .i64 4) ∧ Below w.heap.size w w' := by
  have hc := h0.below hb
  have hn := len_of hc.wf
  have hn2 := len_of h2.wf
  have KF1 := Lib.hid (sform_in h2)
  have KF2 : Hid (∀ W', Below w.heap.size w W' → Calls Tryz.prog 21 #[.pointer (some ⟨o, 0, none⟩)] W' fun e w' => ∃ A c, e = .returned (.agg #[.int .i64 cur, .slice A T.length c]) ∧ TRow w' A (formU base T) ∧ Below W'.heap.size W' w') := Lib.hid (fun W' hb' => cform_in (hc.below hb'))
  have POST : Hid (∀ W', Below w.heap.size w W' → W'.cell? ⟨o, 0, none⟩ ≠ none ∧ W'.frozen? ⟨o, 0, none⟩ = false ∧ CIn t2 W (W'.setCell ⟨o, 0, none⟩ (.pointer (some ⟨q, 0, none⟩))) o base2 cur2 T2 C idle age S2 N F ∧ ∀ k, F k → (W'.setCell ⟨o, 0, none⟩ (.pointer (some ⟨q, 0, none⟩))).heap[k]? = w.heap[k]?) := Lib.hid (fun W' hb' => by
    obtain ⟨e1, e2⟩ := CIn.set0 h0 (hb.trans (hb'.mono hb.size)) (h2.below hb')
    have hl := h0.lts
    have hs := hb.size
    obtain ⟨p, m, -, g2, -⟩ := hc.below hb'
    obtain ⟨c0, -, -, -, f0, -, -⟩ := g2.cells
    exact ⟨by rw [c0]; simp, f0, e1, fun k hk => (e2 k hk).trans (hb'.block k (by have := hl.2 k hk; omega))⟩)
  have KS : Hid (∀ W' A2 c2 A1 c1, TRow W' A2 (formU base2 T2) → TRow W' A1 (formU base T) → Calls Tryz.prog 34 #[.agg #[.int .i64 cur2, .slice A2 T2.length c2], .agg #[.int .i64 cur, .slice A1 T.length c1]] W' (Ret10 (.bool (sameB cur2 cur (formU base2 T2) (formU base T))) W')) := Lib.hid (fun W' A2 c2 A1 c1 r2 r1 => same_c cur2 cur A2 A1 T2.length c2 T.length c1 _ _ W' (formU_length _ _) (formU_length _ _) (by omega) r2 r1)
  clear hc h0 h2 hb hn hn2
  generalize formU base2 T2 = L2 at *
  generalize formU base T = L1 at *
  generalize T2.length = n2 at *
  generalize T.length = n1 at *
  generalize sameB cur2 cur L2 L1 = B at *
  go_enter Tryz.func22, Tryz.ntmps22
  go_wp2_with fail
  refine KF1.out.mono ?_
  rintro e w1 ⟨A2, c2, rfl, hT2, hb2⟩
  have H2 := Lib.hid (And.intro hT2 hb2)
  clear hT2 hb2 KF1
  go_wp2_with fail
  refine (KF2.out _ H2.out.2).mono ?_
  rintro e w2 ⟨A1, c1, rfl, hT1, hb1⟩
  have HB2 := Lib.hid (H2.out.2.trans (hb1.mono H2.out.2.size))
  have KS2 := Lib.hid (KS.out w2 A2 c2 A1 c1 (H2.out.1.below hb1 (Nat.le_refl _)) hT1)
  clear hT1 hb1 KF2 KS H2
  go_wp2_with fail
  refine KS2.out.mono ?_
  rintro e w3 ⟨rfl, hb3⟩
  have HB3 := Lib.hid (HB2.out.trans (hb3.mono HB2.out.size))
  clear hb3 HB2 KS2
  cases B with
  | false =>
    clear POST
    go_wp2_with fail
    go_ret
    exact ⟨rfl, HB3.out⟩
  | true =>
    obtain ⟨c0, f0, hp⟩ := POST.out _ HB3.out
    obtain ⟨v0, c0⟩ := Option.ne_none_iff_exists'.1 c0
    have HP := Lib.hid hp
    clear hp POST
    go_wp2_with fail
    go_ret
    exact ⟨rfl, HP.out⟩
end

/-! New ones -/
theorem heap_two (w : World) (a b : Obj) : ((w.alloc a).alloc b).heap[w.heap.size]? = some a ∧ ((w.alloc a).alloc b).heap[w.heap.size + 1]? = some b := by
  have h1 := World.alloc_heap_new w a
  have h2 := World.alloc_heap_new (w.alloc a) b
  rw [World.size_alloc] at h2
  exact ⟨(Below.heap_alloc (w.alloc a) b w.heap.size (by rw [World.size_alloc]; omega)).trans h1, h2⟩
theorem cin_new {t : Int} {W w : World} {q S : Nat} {base cur : Int} {T : List TI} {F : Nat → Prop} (h : SIn t W w q base cur T S F) :
    CIn t W ((w.alloc (.map #[] 0)).alloc (.cells #[.pointer (some ⟨q, 0, none⟩), .map (some w.heap.size), .int .i64 0, .int .i64 0] 80)) (w.heap.size + 1) base cur T (fun _ => 0) 0 0 S 0 F ∧
    Below w.heap.size w ((w.alloc (.map #[] 0)).alloc (.cells #[.pointer (some ⟨q, 0, none⟩), .map (some w.heap.size), .int .i64 0, .int .i64 0] 80)) := by
  have hb : Below w.heap.size w ((w.alloc (.map #[] 0)).alloc (.cells #[.pointer (some ⟨q, 0, none⟩), .map (some w.heap.size), .int .i64 0, .int .i64 0] 80)) := ((Below.refl _ w).alloc (Nat.le_refl _) _).alloc (by simp) _
  have hz : ((w.alloc (.map #[] 0)).alloc (.cells #[.pointer (some ⟨q, 0, none⟩), .map (some w.heap.size), .int .i64 0, .int .i64 0] 80)).heap.size = w.heap.size + 2 := by simp
  have hs := h.frame.size
  have hF : ∀ k, F k → k < w.heap.size := fun k hk => by
    obtain ⟨A, st, _, _, _, _, _, g⟩ := h
    exact (g k hk).1
  obtain ⟨g1, g2⟩ := heap_two w (.map #[] 0) (.cells #[.pointer (some ⟨q, 0, none⟩), .map (some w.heap.size), .int .i64 0, .int .i64 0] 80)
  refine ⟨⟨q, w.heap.size, h.more hb (fun k hk => ?_), g2, (CMap.new w).keep (Below.heap_alloc _ _ _ (by rw [World.size_alloc]; omega)), ⟨by omega, hs, by omega⟩, fun k hk => ⟨by have := hF k hk; omega, by have := hF k hk; omega⟩, by omega⟩, hb⟩
  rcases hk with hk | rfl | rfl
  · exact .inl hk
  · exact .inr ⟨by omega, by omega⟩
  · exact .inr ⟨by omega, by omega⟩
set_option maxRecDepth 100000 in
theorem cover_yes (q : Nat) (w : World) :
    Calls Tryz.prog 35 #[.pointer (some ⟨q, 0, none⟩), .int .i64 0] w fun e w' => e = .returned (.tuple #[.pointer (some ⟨w.heap.size + 1, 0, none⟩), .int .i64 0]) ∧ w' = (w.alloc (.map #[] 0)).alloc (.cells #[.pointer (some ⟨q, 0, none⟩), .map (some w.heap.size), .int .i64 0, .int .i64 0] 80) := by
  have hmm := @run_makeMap Tryz.prog
  go_enter Tryz.func35, Tryz.ntmps35
  go_wp2
  go_ret2
  exact ⟨rfl, rfl⟩
theorem cover_no (w : World) :
    Calls Tryz.prog 35 #[.pointer none, .int .i64 1] w fun e w' => e = .returned (.tuple #[.pointer none, .int .i64 1]) ∧ w = w' := by
  go_enter Tryz.func35, Tryz.ntmps35
  go_wp2
  go_ret2
  exact ⟨rfl, rfl⟩
/-- What New and Seed answer. -/
def CSeedP (t base f0 : Int) (l : List RI) (W : World) (F : Nat → Prop) (w : World) (e : Ending) (w' : World) : Prop :=
  if Tag t ∧ SdOk base f0 l then ∃ o, e = .returned (.tuple #[.pointer (some ⟨o, 0, none⟩), .int .i64 0]) ∧ CIn t W w' o base f0 (seedU base l) (fun _ => 0) 0 0 4000 0 F ∧ Below w.heap.size w w'
  else e = .returned (.tuple #[.pointer none, .int .i64 1]) ∧ Below w.heap.size w w'
set_option maxHeartbeats 2000000 in
theorem cnew_in (t base : Int) {W w : World} {F : Nat → Prop} (hb : Below W.heap.size W w) (hF : ∀ k, F k → k < w.heap.size) :
    Calls Tryz.prog 9 #[.int .i64 t, .int .i64 base] w (CSeedP t base (-1) [] W F w) := by
  have K0 := pnew_p t base w
  by_cases hg : Tag t ∧ SdOk base (-1) []
  · refine Calls.mono (?_ : Calls _ _ _ _ (fun e w' => ∃ o, e = .returned (.tuple #[.pointer (some ⟨o, 0, none⟩), .int .i64 0]) ∧ CIn t W w' o base (-1) (seedU base []) (fun _ => 0) 0 0 4000 0 F ∧ Below w.heap.size w w')) (fun e w' h => by unfold CSeedP; rw [if_pos hg]; exact h)
    have K := Lib.hid (K0.mono (fun e w' h => by
      unfold SeedP at h
      rw [if_pos hg] at h
      obtain ⟨p, A, st, he, hq, s1, s2, hn, hb'⟩ := h
      exact (⟨p, he, seed_in hb hF hq s1 s2 hn hb', hb'⟩ : ∃ p, e = .returned (.tuple #[.pointer (some ⟨p, 0, none⟩), .int .i64 0]) ∧ SIn t W w' p base (-1) (seedU base []) 4000 F ∧ Below w.heap.size w w')))
    clear hg K0 hb hF
    go_enter Tryz.func9, Tryz.ntmps9
    go_wp2_with fail
    refine K.out.mono ?_
    rintro e w1 ⟨p, rfl, hq, hb⟩
    obtain ⟨hc, hb2⟩ := cin_new hq
    have K2 := Lib.hid (cover_yes p w1)
    have HQ := Lib.hid (And.intro hc (hb.trans (hb2.mono hb.size)))
    clear hq hb hc hb2 K
    go_wp2_with fail
    refine K2.out.mono ?_
    rintro e w2 ⟨rfl, rfl⟩
    clear K2
    go_wp2_with fail
    go_ret2
    exact ⟨_, rfl, HQ.out⟩
  · refine Calls.mono (?_ : Calls _ _ _ _ (fun e w' => e = .returned (.tuple #[.pointer none, .int .i64 1]) ∧ Below w.heap.size w w')) (fun e w' h => by unfold CSeedP; rw [if_neg hg]; exact h)
    have K := Lib.hid (K0.mono (fun e w' h => by unfold SeedP at h; rw [if_neg hg] at h; exact h))
    clear hg K0 hb hF
    go_enter Tryz.func9, Tryz.ntmps9
    go_wp2_with fail
    refine K.out.mono ?_
    rintro e w1 ⟨rfl, hb⟩
    have K2 := Lib.hid (cover_no w1)
    have HB := Lib.hid hb
    clear hb K
    go_wp2_with fail
    refine K2.out.mono ?_
    rintro e w2 ⟨rfl, rfl⟩
    clear K2
    go_wp2_with fail
    go_ret2
    exact ⟨rfl, HB.out⟩
set_option maxHeartbeats 2000000 in
theorem cseed_in (t f0 base : Int) (A : Option Addr) (n c : Nat) (l : List RI) {W w : World} {F : Nat → Prop} (hn : l.length = n) (hl : n ≤ 4611686018427387904) (hr : TRow w A l) (hb : Below W.heap.size W w) (hF : ∀ k, F k → k < w.heap.size) :
    Calls Tryz.prog 33 #[.int .i64 t, .agg #[.int .i64 f0, .slice A n c], .int .i64 base] w (CSeedP t base f0 l W F w) := by
  have hb1 : Below w.heap.size w (w.alloc (.cells #[.int .i64 f0, .slice A n c] 47)) := (Below.refl _ w).alloc (Nat.le_refl _) _
  have hf1 : FoAt (w.alloc (.cells #[.int .i64 f0, .slice A n c] 47)) w.heap.size f0 A n c := heap_alloc_new w _
  obtain ⟨w1, hw1⟩ : ∃ w1, w.alloc (.cells #[.int .i64 f0, .slice A n c] 47) = w1 := ⟨_, rfl⟩
  rw [hw1] at hb1 hf1
  have hbW : Below W.heap.size W w1 := hb.trans (hb1.mono hb.size)
  have hF1 : ∀ k, F k → k < w1.heap.size := fun k hk => by have := hF k hk; have := hb1.size; omega
  have K0 := sseed_p f0 base A n c l w1 t hn hl (hr.below hb1 (Nat.le_refl _))
  obtain ⟨d0, d1, -, -⟩ := FoAt.cells hf1
  have HB1 := Lib.hid hb1
  clear hf1 hb1 hr hn hl
  by_cases hg : Tag t ∧ SdOk base f0 l
  · refine Calls.mono (?_ : Calls _ _ _ _ (fun e w' => ∃ o, e = .returned (.tuple #[.pointer (some ⟨o, 0, none⟩), .int .i64 0]) ∧ CIn t W w' o base f0 (seedU base l) (fun _ => 0) 0 0 4000 0 F ∧ Below w.heap.size w w')) (fun e w' h => by unfold CSeedP; rw [if_pos hg]; exact h)
    have K := Lib.hid (K0.mono (fun e w' h => by
      unfold SeedP at h
      rw [if_pos hg] at h
      obtain ⟨p, A, st, he, hq, s1, s2, hn, hb'⟩ := h
      exact (⟨p, he, seed_in hbW hF1 hq s1 s2 hn hb', HB1.out.trans (hb'.mono HB1.out.size)⟩ : ∃ p, e = .returned (.tuple #[.pointer (some ⟨p, 0, none⟩), .int .i64 0]) ∧ SIn t W w' p base f0 (seedU base l) 4000 F ∧ Below w.heap.size w w')))
    clear hg K0 hb hF HB1 hbW hF1
    go_enter Tryz.func33, Tryz.ntmps33
    go_wp2_with fail
    refine K.out.mono ?_
    rintro e w2 ⟨p, rfl, hq, hb⟩
    obtain ⟨hc, hb2⟩ := cin_new hq
    have K2 := Lib.hid (cover_yes p w2)
    have HQ := Lib.hid (And.intro hc (hb.trans (hb2.mono hb.size)))
    clear hq hb hc hb2 K d0 d1 hw1
    go_wp2_with fail
    refine K2.out.mono ?_
    rintro e w3 ⟨rfl, rfl⟩
    clear K2
    go_wp2_with fail
    go_ret2
    exact ⟨_, rfl, HQ.out⟩
  · refine Calls.mono (?_ : Calls _ _ _ _ (fun e w' => e = .returned (.tuple #[.pointer none, .int .i64 1]) ∧ Below w.heap.size w w')) (fun e w' h => by unfold CSeedP; rw [if_neg hg]; exact h)
    have K := Lib.hid (K0.mono (fun e w' h => by
      unfold SeedP at h
      rw [if_neg hg] at h
      exact (⟨h.1, HB1.out.trans (h.2.mono HB1.out.size)⟩ : e = .returned (.tuple #[.pointer none, .int .i64 1]) ∧ Below w.heap.size w w')))
    clear hg K0 hb hF HB1 hbW hF1
    go_enter Tryz.func33, Tryz.ntmps33
    go_wp2_with fail
    refine K.out.mono ?_
    rintro e w2 ⟨rfl, hb⟩
    have K2 := Lib.hid (cover_no w2)
    have HB := Lib.hid hb
    clear hb K d0 d1 hw1
    go_wp2_with fail
    refine K2.out.mono ?_
    rintro e w3 ⟨rfl, rfl⟩
    clear K2
    go_wp2_with fail
    go_ret2
    exact ⟨rfl, HB.out⟩

/-! What the document tells of an empty one -/
set_option maxHeartbeats 4000000 in
theorem awake15_c (w : World) : Calls Tryz.prog 8 #[] w fun e w' => e = .returned (.bool true) ∧ Below w.heap.size w w' := by
  have K := Lib.hid (cnew_in 0 0 (Below.refl _ w) (F := fun _ => False) (fun _ h => h.elim))
  go_enter Tryz.func8, Tryz.ntmps8
  go_wp2_with fail
  refine K.out.mono ?_
  intro e w1 h
  unfold CSeedP at h
  rw [if_pos ⟨.inl rfl, good_none, by decide, by decide⟩] at h
  obtain ⟨o, rfl, hc, -⟩ := h
  have KR := Lib.hid (crun_none hc (by omega) (by omega))
  clear hc K
  go_wp2_with fail
  refine KR.out.mono ?_
  rintro e w2 ⟨rfl, hc, -⟩
  have KI := Lib.hid (cidle_in hc)
  have KA := Lib.hid (cage_in hc)
  have HB := Lib.hid hc.frame
  clear hc KR
  go_wp2_with fail
  refine KI.out.mono ?_
  rintro e w3 ⟨rfl, rfl⟩
  go_wp2_with fail
  refine KA.out.mono ?_
  rintro e w3 ⟨rfl, rfl⟩
  clear KI KA
  go_wp2_with fail
  go_ret
  exact ⟨rfl, HB.out⟩
end Go.Proofs.YtandmngfajoinaaGreat.Po
