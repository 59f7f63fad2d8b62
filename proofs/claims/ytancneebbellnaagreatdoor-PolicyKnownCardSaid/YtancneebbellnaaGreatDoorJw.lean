/- policy's queue: a cell with the tag and an interface value that points at a queue of that policy; its calls. -/
import Derived.Test.YtancneebbellnaaGreatDoorJs
import Derived.Test.YtancneebbellnaaGreatDoorJf
import Derived.Test.YtancneebbellnaaGreatDoorUh5
namespace Go.Proofs.YtancneebbellnaaGreatDoor.Po
open Go.RowKit Go.Maps

/-- What of a lag counts, by the tag. -/
def heldP (t x : Int) : Int := if t = 0 then min x 0 else if t = 1 then min x 698377680 else min (max x (-698377680)) 698377680
def coreU (base : Int) (T : List TI) (y : RI) : Int × Int × List TI :=
  if hasI (cutL T) y.1 = true then (4, base, T) else if 64 ≤ T.length then (3, base, T) else (0, raiseM base (cutL (insTT T (newU base y))), insTT T (newU base y))
theorem put_core (base : Int) (T : List TI) (x : RI) : putU base T x = if itemB x = true then coreU base T x else (1, base, T) := rfl
/-- Enter, by the tag. -/
def entP (t base : Int) (T : List TI) (x : RI) : Int × Int × List TI := if itemB x = true then coreU base T (x.1, x.2.1, heldP t x.2.2) else (1, base, T)
theorem item_lag {x : RI} {y : Int} (h : -1125899906842624 ≤ x.2.2 ∧ x.2.2 ≤ 1125899906842624 ↔ -1125899906842624 ≤ y ∧ y ≤ 1125899906842624) : itemB (x.1, x.2.1, y) = itemB x := by
  have e : itemB (x.1, x.2.1, y) = true ↔ itemB x = true := by
    rw [itemB_true, itemB_true]
    simp only
    constructor
    · rintro ⟨a, b, c, d⟩; exact ⟨a, b, c, h.2 d⟩
    · rintro ⟨a, b, c, d⟩; exact ⟨a, b, c, h.1 d⟩
  rw [Bool.eq_iff_iff]; exact e
theorem item_no' {x : RI} (h : ¬ (-1125899906842624 ≤ x.2.2 ∧ x.2.2 ≤ 1125899906842624)) : itemB x = false := by
  cases hI : itemB x with
  | false => rfl
  | true => exact absurd (itemB_true.1 hI).2.2.2 h
theorem ent_st (base : Int) (T : List TI) (x : RI) : St.enterM base (cutL T) x = ((entP 0 base T x).1, (entP 0 base T x).2.1, cutL (entP 0 base T x).2.2) := by
  unfold St.enterM entP
  by_cases h : 1125899906842624 < x.2.2
  · rw [if_pos h, item_no' (by omega), if_neg (by decide)]
  · have e : itemB (x.1, x.2.1, min x.2.2 0) = itemB x := item_lag (by omega)
    have hh : heldP 0 x.2.2 = min x.2.2 0 := rfl
    rw [if_neg h, put_cut, put_core, e, hh]
theorem ent_fa (base : Int) (T : List TI) (x : RI) : Fa.enterM base (cutL T) x = ((entP 1 base T x).1, (entP 1 base T x).2.1, cutL (entP 1 base T x).2.2) := by
  unfold Fa.enterM entP
  by_cases h : 1125899906842624 < x.2.2
  · rw [if_pos h, item_no' (by omega), if_neg (by decide)]
  · have e : itemB (x.1, x.2.1, min x.2.2 698377680) = itemB x := item_lag (by omega)
    have hh : heldP 1 x.2.2 = min x.2.2 698377680 := rfl
    rw [if_neg h, put_cut, put_core, e, hh]
theorem ent_du (base : Int) (T : List TI) (x : RI) : enterU base T x = entP 2 base T x := by
  unfold enterU entP
  have hh : heldP 2 x.2.2 = min (max x.2.2 (-698377680)) 698377680 := rfl
  by_cases h : lagB x.2.2 = true
  · have hl := h
    unfold lagB at hl
    simp only [Bool.and_eq_true, decide_eq_true_eq] at hl
    have e : itemB (x.1, x.2.1, min (max x.2.2 (-698377680)) 698377680) = itemB x := item_lag (by omega)
    rw [if_pos h, put_core, e, hh]
  · have hl : ¬ (-1125899906842624 ≤ x.2.2 ∧ x.2.2 ≤ 1125899906842624) := fun hh => h (by unfold lagB; simp only [Bool.and_eq_true, decide_eq_true_eq]; exact hh)
    rw [if_neg h, item_no' hl, if_neg (by decide)]

/-- Who runs next, by the tag. -/
def pickP (t cur : Int) (T : List TI) : Int := if t = 0 then (minR (cutL T)).2 else if t = 1 then Fa.pickC cur (cutL T) else pickU T
def pickPC (t cur : Int) (T : List TI) : Int := if T = [] then -1 else pickP t cur T
def pickPV (t cur : Int) (T : List TI) : Int := if T = [] then 0 else pickP t cur T
def pickPB (T : List TI) : Bool := !decide (T = [])
theorem cut_dec (T : List TI) : decide (cutL T = []) = decide (T = []) := by
  by_cases h : T = []
  · rw [decide_eq_true h, decide_eq_true (cut_nil.2 h)]
  · rw [decide_eq_false h, decide_eq_false (fun e => h (cut_nil.1 e))]
theorem pick_st (cur : Int) (T : List TI) : (if cutL T = [] then (0 : Int) else (minR (cutL T)).2) = pickPV 0 cur T ∧ (!decide (cutL T = [])) = pickPB T ∧ (if cutL T = [] then (-1 : Int) else (minR (cutL T)).2) = pickPC 0 cur T := by
  have e : pickP 0 cur T = (minR (cutL T)).2 := rfl
  unfold pickPV pickPC pickPB
  rw [e, cut_dec]
  by_cases h : T = []
  · rw [if_pos h, if_pos (cut_nil.2 h), if_pos h, if_pos (cut_nil.2 h)]; exact ⟨rfl, rfl, rfl⟩
  · rw [if_neg h, if_neg (fun e => h (cut_nil.1 e)), if_neg h, if_neg (fun e => h (cut_nil.1 e))]; exact ⟨rfl, rfl, rfl⟩
theorem pick_fa (cur : Int) (T : List TI) : Fa.pickV cur (cutL T) = pickPV 1 cur T ∧ Fa.pickB (cutL T) = pickPB T ∧ Fa.pickC cur (cutL T) = pickPC 1 cur T := by
  have e : pickP 1 cur T = Fa.pickC cur (cutL T) := rfl
  unfold pickPV pickPC pickPB Fa.pickV Fa.pickB
  rw [e, cut_dec]
  by_cases h : T = []
  · subst h; exact ⟨rfl, rfl, rfl⟩
  · rw [if_neg h, if_neg h, if_neg (fun e => h (cut_nil.1 e))]; exact ⟨rfl, rfl, rfl⟩
theorem pick_du (cur : Int) (T : List TI) : pickV T = pickPV 2 cur T ∧ pickB T = pickPB T ∧ pickC T = pickPC 2 cur T := ⟨rfl, rfl, rfl⟩

/-! What it is in -/
def Tag (t : Int) : Prop := t = 0 ∨ t = 1 ∨ t = 2
/-- A queue of the tag's policy. -/
def IsG (t : Int) (w : World) (s : Nat) (B : Nat → Prop) (st base cur : Int) (T : List TI) : Prop :=
  (t = 0 ∧ St.IsK w s B st base cur (cutL T)) ∨ (t = 1 ∧ Fa.IsK w s B st base cur (cutL T)) ∨ (t = 2 ∧ IsU w s B st base cur T)
def GPost (t : Int) (s : Nat) (B : Nat → Prop) (st base cur : Int) (T : List TI) (K : Nat) (w w' : World) : Prop :=
  ∃ B' st', st ≤ st' ∧ st' ≤ st + (K : Int) ∧ IsG t w' s B' st' base cur T ∧ Trip B w B' w'
/-- The type that the queue of a tag is a pointer to. -/
def tyP (t : Int) : Nat := if t = 0 then 99 else if t = 1 then 102 else 105
def PBox (t : Int) (w : World) (p s : Nat) : Prop := w.heap[p]? = some (.cells #[.int .i64 t, .iface (tyP t) (.pointer (some ⟨s, 0, none⟩))] 79 (0, 0))
/-- Block p is policy's queue; A: its blocks. -/
def IsW (t : Int) (w : World) (p : Nat) (A : Nat → Prop) (st base cur : Int) (T : List TI) : Prop :=
  ∃ s B, PBox t w p s ∧ IsG t w s B st base cur T ∧ ¬ B p ∧ ∀ k, A k ↔ (k = p ∨ B k)
def WPost (t : Int) (p : Nat) (A : Nat → Prop) (st base cur : Int) (T : List TI) (K : Nat) (w w' : World) : Prop :=
  ∃ A' st', st ≤ st' ∧ st' ≤ st + (K : Int) ∧ IsW t w' p A' st' base cur T ∧ Trip A w A' w'
section
variable {t : Int} {w w' : World} {s p : Nat} {A B : Nat → Prop} {st base cur : Int} {T : List TI}
theorem PBox.lt (h : PBox t w p s) : p < w.heap.size := (Array.getElem?_eq_some_iff.1 h).1
theorem PBox.cells (h : PBox t w p s) : w.cell? ⟨p, 0, none⟩ = some (.int .i64 t) ∧ w.cell? ⟨p, 1, none⟩ = some (.iface (tyP t) (.pointer (some ⟨s, 0, none⟩))) := by
  constructor <;> simp [World.cell?, show w.heap[p]? = _ from h]
theorem PBox.keep (h : PBox t w p s) (hs : w'.heap[p]? = w.heap[p]?) : PBox t w' p s := hs.trans h
theorem IsG.tag (h : IsG t w s B st base cur T) : Tag t := by
  rcases h with ⟨h, _⟩ | ⟨h, _⟩ | ⟨h, _⟩
  · exact .inl h
  · exact .inr (.inl h)
  · exact .inr (.inr h)
theorem IsG.wf (h : IsG t w s B st base cur T) : WfS base cur (cutL T) := by
  rcases h with ⟨_, h⟩ | ⟨_, h⟩ | ⟨_, h⟩
  · exact h.wf
  · exact h.wf
  · exact h.wf
theorem IsG.lt (h : IsG t w s B st base cur T) : ∀ k, B k → k < w.heap.size := by
  rcases h with ⟨_, h⟩ | ⟨_, h⟩ | ⟨_, h⟩
  · exact h.lt
  · exact h.lt
  · exact h.lt
theorem IsG.keep (h : IsG t w s B st base cur T) (hs : ∀ k, B k → w'.heap[k]? = w.heap[k]?) : IsG t w' s B st base cur T := by
  rcases h with ⟨e, h⟩ | ⟨e, h⟩ | ⟨e, h⟩
  · exact .inl ⟨e, h.keep hs⟩
  · exact .inr (.inl ⟨e, h.keep hs⟩)
  · exact .inr (.inr ⟨e, h.keep hs⟩)
theorem g_st {K K2 : Nat} {base' cur' : Int} {T' : List TI} (h : St.KPost s B st base' cur' (cutL T') K w w') (hk : K ≤ K2) : GPost 0 s B st base' cur' T' K2 w w' := by
  obtain ⟨B', k, hk', hq, ht⟩ := h
  exact ⟨B', _, by omega, by omega, .inl ⟨rfl, hq⟩, ht⟩
theorem g_fa {K K2 : Nat} {base' cur' : Int} {T' : List TI} (h : Fa.KPost s B st base' cur' (cutL T') K w w') (hk : K ≤ K2) : GPost 1 s B st base' cur' T' K2 w w' := by
  obtain ⟨B', k, hk', hq, ht⟩ := h
  exact ⟨B', _, by omega, by omega, .inr (.inl ⟨rfl, hq⟩), ht⟩
theorem g_du {K K2 : Nat} {base' cur' : Int} {T' : List TI} (h : UPost s B st base' cur' T' K w w') (hk : K ≤ K2) : GPost 2 s B st base' cur' T' K2 w w' := by
  obtain ⟨B', hq, ht⟩ := h
  exact ⟨B', _, by omega, by omega, .inr (.inr ⟨rfl, hq⟩), ht⟩
theorem IsW.tag (h : IsW t w p A st base cur T) : Tag t := by
  obtain ⟨s, B, h1, h2, _⟩ := h
  exact h2.tag
theorem IsW.wf (h : IsW t w p A st base cur T) : WfS base cur (cutL T) := by
  obtain ⟨s, B, h1, h2, _⟩ := h
  exact h2.wf
theorem IsW.lt (h : IsW t w p A st base cur T) : ∀ k, A k → k < w.heap.size := by
  obtain ⟨s, B, h1, h2, h3, h4⟩ := h
  intro k hk
  rcases (h4 k).1 hk with rfl | hk
  · exact h1.lt
  · exact h2.lt k hk
theorem IsW.keep (h : IsW t w p A st base cur T) (hs : ∀ k, A k → w'.heap[k]? = w.heap[k]?) : IsW t w' p A st base cur T := by
  obtain ⟨s, B, h1, h2, h3, h4⟩ := h
  exact ⟨s, B, h1.keep (hs p ((h4 p).2 (.inl rfl))), h2.keep (fun k hk => hs k ((h4 k).2 (.inr hk))), h3, h4⟩
theorem IsW.below (h : IsW t w p A st base cur T) (hb : Below w.heap.size w w') : IsW t w' p A st base cur T := h.keep (fun k hk => hb.block k (h.lt k hk))
theorem IsW.self (h : IsW t w p A st base cur T) (hb : Below w.heap.size w w') : Trip A w A w' := below_trip hb h.lt
theorem IsW.cell0 (h : IsW t w p A st base cur T) : w.cell? ⟨p, 0, none⟩ = some (.int .i64 t) := by
  obtain ⟨s, B, h1, _⟩ := h
  exact h1.cells.1
theorem WPost.same {K : Nat} (h : IsW t w p A st base cur T) (hb : Below w.heap.size w w') : WPost t p A st base cur T K w w' :=
  ⟨A, st, Int.le_refl _, by omega, h.below hb, h.self hb⟩
theorem WPost.of {K : Nat} {base' cur' : Int} {T' : List TI} (h1 : PBox t w p s) (h3 : ¬ B p) (h4 : ∀ k, A k ↔ (k = p ∨ B k)) (hP : GPost t s B st base' cur' T' K w w') : WPost t p A st base' cur' T' K w w' := by
  obtain ⟨B', st', e1, e2, hq, ht⟩ := hP
  have ho := h1.lt
  have hz := ht.size
  refine ⟨fun j => j = p ∨ B' j, st', e1, e2, ⟨s, B', h1.keep (ht.block p ho h3), hq, fun hh => (ht.sub p hh).elim h3 (fun _ => by omega), fun _ => Iff.rfl⟩, ⟨ht.os, ht.tape, ht.output, hz, fun j hj hn => ht.block j hj (fun hh => hn ((h4 j).2 (.inr hh))), fun j hj => ?_, fun j hj => ?_⟩⟩
  · rcases hj with rfl | hj
    · exact .inl ((h4 _).2 (.inl rfl))
    · exact (ht.sub j hj).imp (fun hh => (h4 j).2 (.inr hh)) id
  · rcases hj with rfl | hj
    · omega
    · exact ht.bd j hj

set_option maxRecDepth 100000 in
set_option maxHeartbeats 2000000 in
theorem penter_k (x0 x1 x2 : Int) (w : World) (h : IsW t w p A st base cur T) (b1 : -3900000000000000000 ≤ base) (b2 : base ≤ 3900000000000000000) (s1 : 0 ≤ st) (s2 : st < 10000000000000) :
    Calls Tryz.prog 17 #[.pointer (some ⟨p, 0, none⟩), .int .i64 x0, .int .i64 x1, .int .i64 x2] w fun e w' => e = .returned (.int .i64 (entP t base T (x0, x1, x2)).1) ∧ WPost t p A st (entP t base T (x0, x1, x2)).2.1 cur (entP t base T (x0, x1, x2)).2.2 24 w w' := by
  obtain ⟨s, B, h1, h2, h3, h4⟩ := h
  obtain ⟨c0, c1⟩ := h1.cells
  have hwf := h2.wf
  have POST := Lib.hid (fun w' (hP : GPost t s B st (entP t base T (x0, x1, x2)).2.1 cur (entP t base T (x0, x1, x2)).2.2 24 w w') => WPost.of h1 h3 h4 hP)
  rcases h2 with ⟨rfl, g⟩ | ⟨rfl, g⟩ | ⟨rfl, g⟩
  · have K := St.senter_k x0 x1 x2 w g b1 b2 s1 (by omega)
    rw [ent_st] at K
    have K := Lib.hid (K.mono (fun e w' (hh : _ ∧ _) => And.intro hh.1 (g_st (K2 := 24) (T' := (entP 0 base T (x0, x1, x2)).2.2) hh.2 (by omega))))
    clear h1 h3 h4 hwf g b1 b2 s1 s2
    generalize ((entP 0 base T (x0, x1, x2)).1) = r0 at *
    generalize (entP 0 base T (x0, x1, x2)).2.1 = z0 at *
    generalize (entP 0 base T (x0, x1, x2)).2.2 = z2 at *
    have hm : ∀ w : World, (method 316 99 (.pointer (some ⟨s, 0, none⟩)) "Enter").run Tryz.prog w = .ok (113, .pointer (some ⟨s, 0, none⟩)) w := fun _ => by kernel_rfl
    simp only [tyP] at c1
    go_enter Tryz.func17, Tryz.ntmps17
    go_wp2_with fail
    refine K.out.mono ?_
    rintro e w' ⟨rfl, hP⟩
    have HP := Lib.hid (POST.out _ hP)
    clear hP K POST
    go_wp2_with fail
    go_ret
    exact ⟨rfl, HP.out⟩
  · have K := Fa.senter_k x0 x1 x2 w g b1 b2 s1 (by omega)
    rw [ent_fa] at K
    have K := Lib.hid (K.mono (fun e w' (hh : _ ∧ _) => And.intro hh.1 (g_fa (K2 := 24) (T' := (entP 1 base T (x0, x1, x2)).2.2) hh.2 (by omega))))
    clear h1 h3 h4 hwf g b1 b2 s1 s2
    generalize ((entP 1 base T (x0, x1, x2)).1) = r0 at *
    generalize (entP 1 base T (x0, x1, x2)).2.1 = z0 at *
    generalize (entP 1 base T (x0, x1, x2)).2.2 = z2 at *
    have hm : ∀ w : World, (method 316 102 (.pointer (some ⟨s, 0, none⟩)) "Enter").run Tryz.prog w = .ok (157, .pointer (some ⟨s, 0, none⟩)) w := fun _ => by kernel_rfl
    simp only [tyP] at c1
    go_enter Tryz.func17, Tryz.ntmps17
    go_wp2_with fail
    refine K.out.mono ?_
    rintro e w' ⟨rfl, hP⟩
    have HP := Lib.hid (POST.out _ hP)
    clear hP K POST
    go_wp2_with fail
    go_ret
    exact ⟨rfl, HP.out⟩
  · have K := senter_k x0 x1 x2 w g b1 b2 s1 s2
    rw [ent_du] at K
    have K := Lib.hid (K.mono (fun e w' (hh : _ ∧ _) => And.intro hh.1 (g_du (K2 := 24) (T' := (entP 2 base T (x0, x1, x2)).2.2) hh.2 (by omega))))
    clear h1 h3 h4 hwf g b1 b2 s1 s2
    generalize ((entP 2 base T (x0, x1, x2)).1) = r0 at *
    generalize (entP 2 base T (x0, x1, x2)).2.1 = z0 at *
    generalize (entP 2 base T (x0, x1, x2)).2.2 = z2 at *
    have hm : ∀ w : World, (method 316 105 (.pointer (some ⟨s, 0, none⟩)) "Enter").run Tryz.prog w = .ok (166, .pointer (some ⟨s, 0, none⟩)) w := fun _ => by kernel_rfl
    simp only [tyP] at c1
    go_enter Tryz.func17, Tryz.ntmps17
    go_wp2_with fail
    refine K.out.mono ?_
    rintro e w' ⟨rfl, hP⟩
    have HP := Lib.hid (POST.out _ hP)
    clear hP K POST
    go_wp2_with fail
    go_ret
    exact ⟨rfl, HP.out⟩
set_option maxRecDepth 100000 in
set_option maxHeartbeats 2000000 in
theorem pput_k (x0 x1 x2 : Int) (w : World) (h : IsW t w p A st base cur T) (b1 : -3900000000000000000 ≤ base) (b2 : base ≤ 3900000000000000000) (s1 : 0 ≤ st) (s2 : st < 10000000000000) :
    Calls Tryz.prog 19 #[.pointer (some ⟨p, 0, none⟩), .int .i64 x0, .int .i64 x1, .int .i64 x2] w fun e w' => e = .returned (.int .i64 (putU base T (x0, x1, x2)).1) ∧ WPost t p A st (putU base T (x0, x1, x2)).2.1 cur (putU base T (x0, x1, x2)).2.2 24 w w' := by
  obtain ⟨s, B, h1, h2, h3, h4⟩ := h
  obtain ⟨c0, c1⟩ := h1.cells
  have hwf := h2.wf
  have POST := Lib.hid (fun w' (hP : GPost t s B st (putU base T (x0, x1, x2)).2.1 cur (putU base T (x0, x1, x2)).2.2 24 w w') => WPost.of h1 h3 h4 hP)
  rcases h2 with ⟨rfl, g⟩ | ⟨rfl, g⟩ | ⟨rfl, g⟩
  · have K := St.sput_k x0 x1 x2 w g b1 b2 s1 (by omega)
    rw [put_cut] at K
    have K := Lib.hid (K.mono (fun e w' (hh : _ ∧ _) => And.intro hh.1 (g_st (K2 := 24) (T' := (putU base T (x0, x1, x2)).2.2) hh.2 (by omega))))
    clear h1 h3 h4 hwf g b1 b2 s1 s2
    generalize ((putU base T (x0, x1, x2)).1) = r0 at *
    generalize (putU base T (x0, x1, x2)).2.1 = z0 at *
    generalize (putU base T (x0, x1, x2)).2.2 = z2 at *
    have hm : ∀ w : World, (method 316 99 (.pointer (some ⟨s, 0, none⟩)) "Put").run Tryz.prog w = .ok (117, .pointer (some ⟨s, 0, none⟩)) w := fun _ => by kernel_rfl
    simp only [tyP] at c1
    go_enter Tryz.func19, Tryz.ntmps19
    go_wp2_with fail
    refine K.out.mono ?_
    rintro e w' ⟨rfl, hP⟩
    have HP := Lib.hid (POST.out _ hP)
    clear hP K POST
    go_wp2_with fail
    go_ret
    exact ⟨rfl, HP.out⟩
  · have K := Fa.sput_k x0 x1 x2 w g b1 b2 s1 (by omega)
    rw [put_cut] at K
    have K := Lib.hid (K.mono (fun e w' (hh : _ ∧ _) => And.intro hh.1 (g_fa (K2 := 24) (T' := (putU base T (x0, x1, x2)).2.2) hh.2 (by omega))))
    clear h1 h3 h4 hwf g b1 b2 s1 s2
    generalize ((putU base T (x0, x1, x2)).1) = r0 at *
    generalize (putU base T (x0, x1, x2)).2.1 = z0 at *
    generalize (putU base T (x0, x1, x2)).2.2 = z2 at *
    have hm : ∀ w : World, (method 316 102 (.pointer (some ⟨s, 0, none⟩)) "Put").run Tryz.prog w = .ok (161, .pointer (some ⟨s, 0, none⟩)) w := fun _ => by kernel_rfl
    simp only [tyP] at c1
    go_enter Tryz.func19, Tryz.ntmps19
    go_wp2_with fail
    refine K.out.mono ?_
    rintro e w' ⟨rfl, hP⟩
    have HP := Lib.hid (POST.out _ hP)
    clear hP K POST
    go_wp2_with fail
    go_ret
    exact ⟨rfl, HP.out⟩
  · have K := sput_k x0 x1 x2 w g b1 b2 s1 s2
    have K := Lib.hid (K.mono (fun e w' (hh : _ ∧ _) => And.intro hh.1 (g_du (K2 := 24) (T' := (putU base T (x0, x1, x2)).2.2) hh.2 (by omega))))
    clear h1 h3 h4 hwf g b1 b2 s1 s2
    generalize ((putU base T (x0, x1, x2)).1) = r0 at *
    generalize (putU base T (x0, x1, x2)).2.1 = z0 at *
    generalize (putU base T (x0, x1, x2)).2.2 = z2 at *
    have hm : ∀ w : World, (method 316 105 (.pointer (some ⟨s, 0, none⟩)) "Put").run Tryz.prog w = .ok (170, .pointer (some ⟨s, 0, none⟩)) w := fun _ => by kernel_rfl
    simp only [tyP] at c1
    go_enter Tryz.func19, Tryz.ntmps19
    go_wp2_with fail
    refine K.out.mono ?_
    rintro e w' ⟨rfl, hP⟩
    have HP := Lib.hid (POST.out _ hP)
    clear hP K POST
    go_wp2_with fail
    go_ret
    exact ⟨rfl, HP.out⟩
set_option maxRecDepth 100000 in
set_option maxHeartbeats 2000000 in
theorem pleave_k (id : Int) (w : World) (h : IsW t w p A st base cur T) (hid : wf64 id) (s1 : 0 ≤ st) (s2 : st < 10000000000000) :
    Calls Tryz.prog 20 #[.pointer (some ⟨p, 0, none⟩), .int .i64 id] w fun e w' => e = .returned (.tuple #[.int .i64 (leaveU base cur T id).1, .int .i64 (leaveU base cur T id).2.1]) ∧ WPost t p A st (leaveU base cur T id).2.2.1 (leaveU base cur T id).2.2.2.1 (leaveU base cur T id).2.2.2.2 24 w w' := by
  obtain ⟨s, B, h1, h2, h3, h4⟩ := h
  obtain ⟨c0, c1⟩ := h1.cells
  have hwf := h2.wf
  have POST := Lib.hid (fun w' (hP : GPost t s B st (leaveU base cur T id).2.2.1 (leaveU base cur T id).2.2.2.1 (leaveU base cur T id).2.2.2.2 24 w w') => WPost.of h1 h3 h4 hP)
  rcases h2 with ⟨rfl, g⟩ | ⟨rfl, g⟩ | ⟨rfl, g⟩
  · have K := St.sleave_k id w g hid s1 (by omega)
    rw [leave_cut hwf.asc] at K
    have K := Lib.hid (K.mono (fun e w' (hh : _ ∧ _) => And.intro hh.1 (g_st (K2 := 24) (T' := (leaveU base cur T id).2.2.2.2) hh.2 (by omega))))
    clear h1 h3 h4 hwf g hid s1 s2
    generalize ((leaveU base cur T id).1) = r0 at *
    generalize ((leaveU base cur T id).2.1) = r1 at *
    generalize (leaveU base cur T id).2.2.1 = z0 at *
    generalize (leaveU base cur T id).2.2.2.1 = z1 at *
    generalize (leaveU base cur T id).2.2.2.2 = z2 at *
    have hm : ∀ w : World, (method 316 99 (.pointer (some ⟨s, 0, none⟩)) "Leave").run Tryz.prog w = .ok (115, .pointer (some ⟨s, 0, none⟩)) w := fun _ => by kernel_rfl
    simp only [tyP] at c1
    go_enter Tryz.func20, Tryz.ntmps20
    go_wp2_with fail
    refine K.out.mono ?_
    rintro e w' ⟨rfl, hP⟩
    have HP := Lib.hid (POST.out _ hP)
    clear hP K POST
    go_wp2_with fail
    go_ret2
    exact ⟨rfl, HP.out⟩
  · have K := Fa.sleave_k id w g hid s1 (by omega)
    rw [leave_cut hwf.asc] at K
    have K := Lib.hid (K.mono (fun e w' (hh : _ ∧ _) => And.intro hh.1 (g_fa (K2 := 24) (T' := (leaveU base cur T id).2.2.2.2) hh.2 (by omega))))
    clear h1 h3 h4 hwf g hid s1 s2
    generalize ((leaveU base cur T id).1) = r0 at *
    generalize ((leaveU base cur T id).2.1) = r1 at *
    generalize (leaveU base cur T id).2.2.1 = z0 at *
    generalize (leaveU base cur T id).2.2.2.1 = z1 at *
    generalize (leaveU base cur T id).2.2.2.2 = z2 at *
    have hm : ∀ w : World, (method 316 102 (.pointer (some ⟨s, 0, none⟩)) "Leave").run Tryz.prog w = .ok (159, .pointer (some ⟨s, 0, none⟩)) w := fun _ => by kernel_rfl
    simp only [tyP] at c1
    go_enter Tryz.func20, Tryz.ntmps20
    go_wp2_with fail
    refine K.out.mono ?_
    rintro e w' ⟨rfl, hP⟩
    have HP := Lib.hid (POST.out _ hP)
    clear hP K POST
    go_wp2_with fail
    go_ret2
    exact ⟨rfl, HP.out⟩
  · have K := sleave_k id w g hid s1 s2
    have K := Lib.hid (K.mono (fun e w' (hh : _ ∧ _) => And.intro hh.1 (g_du (K2 := 24) (T' := (leaveU base cur T id).2.2.2.2) hh.2 (by omega))))
    clear h1 h3 h4 hwf g hid s1 s2
    generalize ((leaveU base cur T id).1) = r0 at *
    generalize ((leaveU base cur T id).2.1) = r1 at *
    generalize (leaveU base cur T id).2.2.1 = z0 at *
    generalize (leaveU base cur T id).2.2.2.1 = z1 at *
    generalize (leaveU base cur T id).2.2.2.2 = z2 at *
    have hm : ∀ w : World, (method 316 105 (.pointer (some ⟨s, 0, none⟩)) "Leave").run Tryz.prog w = .ok (168, .pointer (some ⟨s, 0, none⟩)) w := fun _ => by kernel_rfl
    simp only [tyP] at c1
    go_enter Tryz.func20, Tryz.ntmps20
    go_wp2_with fail
    refine K.out.mono ?_
    rintro e w' ⟨rfl, hP⟩
    have HP := Lib.hid (POST.out _ hP)
    clear hP K POST
    go_wp2_with fail
    go_ret2
    exact ⟨rfl, HP.out⟩
set_option maxRecDepth 100000 in
set_option maxHeartbeats 2000000 in
theorem pweigh_k (id n : Int) (w : World) (h : IsW t w p A st base cur T) (hid : wf64 id) (hn : wf64 n) (s1 : 0 ≤ st) (s2 : st < 10000000000000) :
    Calls Tryz.prog 22 #[.pointer (some ⟨p, 0, none⟩), .int .i64 id, .int .i64 n] w fun e w' => e = .returned (.int .i64 (weighU T id n).1) ∧ WPost t p A st base cur (weighU T id n).2 16 w w' := by
  obtain ⟨s, B, h1, h2, h3, h4⟩ := h
  obtain ⟨c0, c1⟩ := h1.cells
  have hwf := h2.wf
  have POST := Lib.hid (fun w' (hP : GPost t s B st base cur (weighU T id n).2 16 w w') => WPost.of h1 h3 h4 hP)
  rcases h2 with ⟨rfl, g⟩ | ⟨rfl, g⟩ | ⟨rfl, g⟩
  · have K := St.sweigh_k id n w g hid hn
    rw [weigh_cut] at K
    have K := Lib.hid (K.mono (fun e w' (hh : _ ∧ _) => And.intro hh.1 (g_st (K2 := 16) (T' := (weighU T id n).2) hh.2 (by omega))))
    clear h1 h3 h4 hwf g hid hn s1 s2
    generalize ((weighU T id n).1) = r0 at *
    generalize (weighU T id n).2 = z2 at *
    have hm : ∀ w : World, (method 316 99 (.pointer (some ⟨s, 0, none⟩)) "Weigh").run Tryz.prog w = .ok (118, .pointer (some ⟨s, 0, none⟩)) w := fun _ => by kernel_rfl
    simp only [tyP] at c1
    go_enter Tryz.func22, Tryz.ntmps22
    go_wp2_with fail
    refine K.out.mono ?_
    rintro e w' ⟨rfl, hP⟩
    have HP := Lib.hid (POST.out _ hP)
    clear hP K POST
    go_wp2_with fail
    go_ret
    exact ⟨rfl, HP.out⟩
  · have K := Fa.sweigh_k id n w g hid hn
    rw [weigh_cut] at K
    have K := Lib.hid (K.mono (fun e w' (hh : _ ∧ _) => And.intro hh.1 (g_fa (K2 := 16) (T' := (weighU T id n).2) hh.2 (by omega))))
    clear h1 h3 h4 hwf g hid hn s1 s2
    generalize ((weighU T id n).1) = r0 at *
    generalize (weighU T id n).2 = z2 at *
    have hm : ∀ w : World, (method 316 102 (.pointer (some ⟨s, 0, none⟩)) "Weigh").run Tryz.prog w = .ok (162, .pointer (some ⟨s, 0, none⟩)) w := fun _ => by kernel_rfl
    simp only [tyP] at c1
    go_enter Tryz.func22, Tryz.ntmps22
    go_wp2_with fail
    refine K.out.mono ?_
    rintro e w' ⟨rfl, hP⟩
    have HP := Lib.hid (POST.out _ hP)
    clear hP K POST
    go_wp2_with fail
    go_ret
    exact ⟨rfl, HP.out⟩
  · have K := sweigh_k id n w g hid hn s1 s2
    have K := Lib.hid (K.mono (fun e w' (hh : _ ∧ _) => And.intro hh.1 (g_du (K2 := 16) (T' := (weighU T id n).2) hh.2 (by omega))))
    clear h1 h3 h4 hwf g hid hn s1 s2
    generalize ((weighU T id n).1) = r0 at *
    generalize (weighU T id n).2 = z2 at *
    have hm : ∀ w : World, (method 316 105 (.pointer (some ⟨s, 0, none⟩)) "Weigh").run Tryz.prog w = .ok (171, .pointer (some ⟨s, 0, none⟩)) w := fun _ => by kernel_rfl
    simp only [tyP] at c1
    go_enter Tryz.func22, Tryz.ntmps22
    go_wp2_with fail
    refine K.out.mono ?_
    rintro e w' ⟨rfl, hP⟩
    have HP := Lib.hid (POST.out _ hP)
    clear hP K POST
    go_wp2_with fail
    go_ret
    exact ⟨rfl, HP.out⟩
set_option maxRecDepth 100000 in
set_option maxHeartbeats 2000000 in
theorem ppick_k (w : World) (h : IsW t w p A st base cur T)  :
    Calls Tryz.prog 24 #[.pointer (some ⟨p, 0, none⟩)] w fun e w' => e = .returned (.tuple #[.int .i64 (pickPV t cur T), .bool (pickPB T)]) ∧ WPost t p A st base (pickPC t cur T) T 0 w w' := by
  obtain ⟨s, B, h1, h2, h3, h4⟩ := h
  obtain ⟨c0, c1⟩ := h1.cells
  have hwf := h2.wf
  have POST := Lib.hid (fun w' (hP : GPost t s B st base (pickPC t cur T) T 0 w w') => WPost.of h1 h3 h4 hP)
  rcases h2 with ⟨rfl, g⟩ | ⟨rfl, g⟩ | ⟨rfl, g⟩
  · have K := St.spick_k w g
    rw [(pick_st cur T).1, (pick_st cur T).2.1, (pick_st cur T).2.2] at K
    have K := Lib.hid (K.mono (fun e w' (hh : _ ∧ _) => And.intro hh.1 (g_st (K2 := 0) (T' := T) hh.2 (by omega))))
    clear h1 h3 h4 hwf g
    generalize (pickPV 0 cur T) = r0 at *
    generalize (pickPB T) = r1 at *
    generalize (pickPC 0 cur T) = z1 at *
    have hm : ∀ w : World, (method 316 99 (.pointer (some ⟨s, 0, none⟩)) "Pick").run Tryz.prog w = .ok (116, .pointer (some ⟨s, 0, none⟩)) w := fun _ => by kernel_rfl
    simp only [tyP] at c1
    go_enter Tryz.func24, Tryz.ntmps24
    go_wp2_with fail
    refine K.out.mono ?_
    rintro e w' ⟨rfl, hP⟩
    have HP := Lib.hid (POST.out _ hP)
    clear hP K POST
    go_wp2_with fail
    go_ret2
    exact ⟨rfl, HP.out⟩
  · have K := Fa.spick_k w g
    rw [(pick_fa cur T).1, (pick_fa cur T).2.1, (pick_fa cur T).2.2] at K
    have K := Lib.hid (K.mono (fun e w' (hh : _ ∧ _) => And.intro hh.1 (g_fa (K2 := 0) (T' := T) hh.2 (by omega))))
    clear h1 h3 h4 hwf g
    generalize (pickPV 1 cur T) = r0 at *
    generalize (pickPB T) = r1 at *
    generalize (pickPC 1 cur T) = z1 at *
    have hm : ∀ w : World, (method 316 102 (.pointer (some ⟨s, 0, none⟩)) "Pick").run Tryz.prog w = .ok (160, .pointer (some ⟨s, 0, none⟩)) w := fun _ => by kernel_rfl
    simp only [tyP] at c1
    go_enter Tryz.func24, Tryz.ntmps24
    go_wp2_with fail
    refine K.out.mono ?_
    rintro e w' ⟨rfl, hP⟩
    have HP := Lib.hid (POST.out _ hP)
    clear hP K POST
    go_wp2_with fail
    go_ret2
    exact ⟨rfl, HP.out⟩
  · have K := spick_k w g
    rw [(pick_du cur T).1, (pick_du cur T).2.1, (pick_du cur T).2.2] at K
    have K := Lib.hid (K.mono (fun e w' (hh : _ ∧ _) => And.intro hh.1 (g_du (K2 := 0) (T' := T) hh.2 (by omega))))
    clear h1 h3 h4 hwf g
    generalize (pickPV 2 cur T) = r0 at *
    generalize (pickPB T) = r1 at *
    generalize (pickPC 2 cur T) = z1 at *
    have hm : ∀ w : World, (method 316 105 (.pointer (some ⟨s, 0, none⟩)) "Pick").run Tryz.prog w = .ok (169, .pointer (some ⟨s, 0, none⟩)) w := fun _ => by kernel_rfl
    simp only [tyP] at c1
    go_enter Tryz.func24, Tryz.ntmps24
    go_wp2_with fail
    refine K.out.mono ?_
    rintro e w' ⟨rfl, hP⟩
    have HP := Lib.hid (POST.out _ hP)
    clear hP K POST
    go_wp2_with fail
    go_ret2
    exact ⟨rfl, HP.out⟩
set_option maxRecDepth 100000 in
set_option maxHeartbeats 2000000 in
theorem pcharge_k (w : World) (h : IsW t w p A st base cur T) (s1 : 0 ≤ st) (s2 : st < 10000000000000) :
    Calls Tryz.prog 26 #[.pointer (some ⟨p, 0, none⟩)] w fun e w' => e = .returned (.tuple #[.int .i64 (chargeU base cur T).1, .int .i64 (chargeU base cur T).2.1]) ∧ WPost t p A st (chargeU base cur T).2.2.1 cur (chargeU base cur T).2.2.2 32 w w' := by
  obtain ⟨s, B, h1, h2, h3, h4⟩ := h
  obtain ⟨c0, c1⟩ := h1.cells
  have hwf := h2.wf
  have POST := Lib.hid (fun w' (hP : GPost t s B st (chargeU base cur T).2.2.1 cur (chargeU base cur T).2.2.2 32 w w') => WPost.of h1 h3 h4 hP)
  rcases h2 with ⟨rfl, g⟩ | ⟨rfl, g⟩ | ⟨rfl, g⟩
  · have K := St.scharge_k w g s1 (by omega)
    rw [charge_cut hwf.asc hwf.cur] at K
    have K := Lib.hid (K.mono (fun e w' (hh : _ ∧ _) => And.intro hh.1 (g_st (K2 := 32) (T' := (chargeU base cur T).2.2.2) hh.2 (by omega))))
    clear h1 h3 h4 hwf g s1 s2
    generalize ((chargeU base cur T).1) = r0 at *
    generalize ((chargeU base cur T).2.1) = r1 at *
    generalize (chargeU base cur T).2.2.1 = z0 at *
    generalize (chargeU base cur T).2.2.2 = z2 at *
    have hm : ∀ w : World, (method 316 99 (.pointer (some ⟨s, 0, none⟩)) "Charge").run Tryz.prog w = .ok (112, .pointer (some ⟨s, 0, none⟩)) w := fun _ => by kernel_rfl
    simp only [tyP] at c1
    go_enter Tryz.func26, Tryz.ntmps26
    go_wp2_with fail
    refine K.out.mono ?_
    rintro e w' ⟨rfl, hP⟩
    have HP := Lib.hid (POST.out _ hP)
    clear hP K POST
    go_wp2_with fail
    go_ret2
    exact ⟨rfl, HP.out⟩
  · have K := Fa.scharge_k w g s1 (by omega)
    rw [charge_cut hwf.asc hwf.cur] at K
    have K := Lib.hid (K.mono (fun e w' (hh : _ ∧ _) => And.intro hh.1 (g_fa (K2 := 32) (T' := (chargeU base cur T).2.2.2) hh.2 (by omega))))
    clear h1 h3 h4 hwf g s1 s2
    generalize ((chargeU base cur T).1) = r0 at *
    generalize ((chargeU base cur T).2.1) = r1 at *
    generalize (chargeU base cur T).2.2.1 = z0 at *
    generalize (chargeU base cur T).2.2.2 = z2 at *
    have hm : ∀ w : World, (method 316 102 (.pointer (some ⟨s, 0, none⟩)) "Charge").run Tryz.prog w = .ok (156, .pointer (some ⟨s, 0, none⟩)) w := fun _ => by kernel_rfl
    simp only [tyP] at c1
    go_enter Tryz.func26, Tryz.ntmps26
    go_wp2_with fail
    refine K.out.mono ?_
    rintro e w' ⟨rfl, hP⟩
    have HP := Lib.hid (POST.out _ hP)
    clear hP K POST
    go_wp2_with fail
    go_ret2
    exact ⟨rfl, HP.out⟩
  · have K := scharge_k w g s1 s2
    have K := Lib.hid (K.mono (fun e w' (hh : _ ∧ _) => And.intro hh.1 (g_du (K2 := 32) (T' := (chargeU base cur T).2.2.2) hh.2 (by omega))))
    clear h1 h3 h4 hwf g s1 s2
    generalize ((chargeU base cur T).1) = r0 at *
    generalize ((chargeU base cur T).2.1) = r1 at *
    generalize (chargeU base cur T).2.2.1 = z0 at *
    generalize (chargeU base cur T).2.2.2 = z2 at *
    have hm : ∀ w : World, (method 316 105 (.pointer (some ⟨s, 0, none⟩)) "Charge").run Tryz.prog w = .ok (165, .pointer (some ⟨s, 0, none⟩)) w := fun _ => by kernel_rfl
    simp only [tyP] at c1
    go_enter Tryz.func26, Tryz.ntmps26
    go_wp2_with fail
    refine K.out.mono ?_
    rintro e w' ⟨rfl, hP⟩
    have HP := Lib.hid (POST.out _ hP)
    clear hP K POST
    go_wp2_with fail
    go_ret2
    exact ⟨rfl, HP.out⟩
set_option maxRecDepth 100000 in
set_option maxHeartbeats 2000000 in
theorem pback_k (w : World) (h : IsW t w p A st base cur T)  :
    Calls Tryz.prog 28 #[.pointer (some ⟨p, 0, none⟩)] w fun e w' => e = .returned (.bool (!decide (cur = -1))) ∧ WPost t p A st base (-1) T 0 w w' := by
  obtain ⟨s, B, h1, h2, h3, h4⟩ := h
  obtain ⟨c0, c1⟩ := h1.cells
  have hwf := h2.wf
  have POST := Lib.hid (fun w' (hP : GPost t s B st base (-1) T 0 w w') => WPost.of h1 h3 h4 hP)
  rcases h2 with ⟨rfl, g⟩ | ⟨rfl, g⟩ | ⟨rfl, g⟩
  · have K := St.sback_k w g
    have K := Lib.hid (K.mono (fun e w' (hh : _ ∧ _) => And.intro hh.1 (g_st (K2 := 0) (T' := T) hh.2 (by omega))))
    clear h1 h3 h4 hwf g
    generalize (!decide (cur = -1)) = r0 at *
    have hm : ∀ w : World, (method 316 99 (.pointer (some ⟨s, 0, none⟩)) "Back").run Tryz.prog w = .ok (111, .pointer (some ⟨s, 0, none⟩)) w := fun _ => by kernel_rfl
    simp only [tyP] at c1
    go_enter Tryz.func28, Tryz.ntmps28
    go_wp2_with fail
    refine K.out.mono ?_
    rintro e w' ⟨rfl, hP⟩
    have HP := Lib.hid (POST.out _ hP)
    clear hP K POST
    go_wp2_with fail
    go_ret
    exact ⟨rfl, HP.out⟩
  · have K := Fa.sback_k w g
    have K := Lib.hid (K.mono (fun e w' (hh : _ ∧ _) => And.intro hh.1 (g_fa (K2 := 0) (T' := T) hh.2 (by omega))))
    clear h1 h3 h4 hwf g
    generalize (!decide (cur = -1)) = r0 at *
    have hm : ∀ w : World, (method 316 102 (.pointer (some ⟨s, 0, none⟩)) "Back").run Tryz.prog w = .ok (155, .pointer (some ⟨s, 0, none⟩)) w := fun _ => by kernel_rfl
    simp only [tyP] at c1
    go_enter Tryz.func28, Tryz.ntmps28
    go_wp2_with fail
    refine K.out.mono ?_
    rintro e w' ⟨rfl, hP⟩
    have HP := Lib.hid (POST.out _ hP)
    clear hP K POST
    go_wp2_with fail
    go_ret
    exact ⟨rfl, HP.out⟩
  · have K := sback_k w g
    have K := Lib.hid (K.mono (fun e w' (hh : _ ∧ _) => And.intro hh.1 (g_du (K2 := 0) (T' := T) hh.2 (by omega))))
    clear h1 h3 h4 hwf g
    generalize (!decide (cur = -1)) = r0 at *
    have hm : ∀ w : World, (method 316 105 (.pointer (some ⟨s, 0, none⟩)) "Back").run Tryz.prog w = .ok (164, .pointer (some ⟨s, 0, none⟩)) w := fun _ => by kernel_rfl
    simp only [tyP] at c1
    go_enter Tryz.func28, Tryz.ntmps28
    go_wp2_with fail
    refine K.out.mono ?_
    rintro e w' ⟨rfl, hP⟩
    have HP := Lib.hid (POST.out _ hP)
    clear hP K POST
    go_wp2_with fail
    go_ret
    exact ⟨rfl, HP.out⟩
theorem trow_set2 {w0 : World} {b n0 m0 : Nat} {f0 : Int} {A0 A1 : Option Addr} {L : List RI} (hf : FoAt w0 b f0 A0 n0 m0) (hT : TRow w0 A1 L) (v0 v1 : Value) : TRow (set2 w0 b v0 v1) A1 L := fun i r hir => by
  obtain ⟨ad, he, a0, a1, a2⟩ := hT i r hir
  have hne : ad.block ≠ b := fun e => by
    have hf' : w0.heap[ad.block]? = some (.cells #[.int .i64 f0, .slice A0 n0 m0] 30 (0, 0)) := by rw [e]; exact hf
    have h1 : (#[Value.int .i64 f0, Value.slice A0 n0 m0] : Array Value)[ad.off + (i * 3 + 1)]? = some (Value.int .i64 r.2.1) := by
      have hadd : ad.add (i * 3 + 1) = ⟨ad.block, ad.off + (i * 3 + 1), none⟩ := by unfold Addr.add; rw [if_neg (by omega)]
      have hx := a1
      rw [hadd] at hx
      simpa [World.cell?, hf'] using hx
    cases hk : ad.off + (i * 3 + 1) with
    | zero => omega
    | succ k =>
      rw [hk] at h1
      cases k with
      | zero => simp at h1
      | succ k => simp at h1
  have hb : ∀ j, (set2 w0 b v0 v1).cell? (ad.add j) = w0.cell? (ad.add j) := fun j => by
    have hh : (set2 w0 b v0 v1).heap[(ad.add j).block]? = w0.heap[(ad.add j).block]? := set2_other v0 v1 (show (ad.add j).block ≠ b by rw [add_block]; exact hne)
    exact World.cell?_of_block hh
  exact ⟨ad, he, (hb _).trans a0, (hb _).trans a1, (hb _).trans a2⟩
set_option maxRecDepth 100000 in
set_option maxHeartbeats 2000000 in
theorem pform_k (w : World) (h : IsW t w p A st base cur T) :
    Calls Tryz.prog 31 #[.pointer (some ⟨p, 0, none⟩)] w fun e w' => ∃ A c, e = .returned (.agg #[.int .i64 cur, .slice A T.length c]) ∧ TRow w' A (formU base T) ∧ Below w.heap.size w w' := by
  obtain ⟨s, B, h1, h2, -, -⟩ := h
  have hb1 : Below w.heap.size w (w.alloc (.cells #[.int .i64 0, .slice none 0 0] 30)) := (Below.refl _ w).alloc (Nat.le_refl _) _
  have hf1 : FoAt (w.alloc (.cells #[.int .i64 0, .slice none 0 0] 30)) w.heap.size 0 none 0 0 := heap_alloc_new w _
  obtain ⟨w1, hw1⟩ : ∃ w1, w.alloc (.cells #[.int .i64 0, .slice none 0 0] 30) = w1 := ⟨_, rfl⟩
  have hs1 : w1.heap.size = w.heap.size + 1 := by rw [← hw1]; simp
  rw [hw1] at hb1 hf1
  obtain ⟨c0, c1⟩ := (h1.keep (hb1.block p h1.lt)).cells
  have h2 := h2.keep (w' := w1) (fun k hk => hb1.block k (h2.lt k hk))
  have H1 := Lib.hid (And.intro hb1 (And.intro hf1 hs1))
  clear h1 hb1 hf1 hs1
  rcases h2 with ⟨rfl, g⟩ | ⟨rfl, g⟩ | ⟨rfl, g⟩
  · have K := St.sform_k w1 g
    rw [cut_len] at K
    have e : formL base (cutL T) = formU base T := rfl
    rw [e] at K
    have K := Lib.hid K
    clear g e
    generalize formU base T = L0 at *
    generalize T.length = n0 at *
    have hm : ∀ w : World, (method 316 99 (.pointer (some ⟨s, 0, none⟩)) "Form").run Tryz.prog w = .ok (114, .pointer (some ⟨s, 0, none⟩)) w := fun _ => by kernel_rfl
    simp only [tyP] at c1
    go_enter Tryz.func31, Tryz.ntmps31
    go_wp2_with fail
    refine K.out.mono ?_
    rintro e w2 ⟨A2, c2, rfl, hT, hb⟩
    have hf2 : FoAt w2 w.heap.size 0 none 0 0 := BoxAt.next H1.out.2.1 hb (Nat.le_refl _)
    obtain ⟨t0, t1, t2, t3⟩ := two_cells hf2 (.int .i64 cur)
    have hf3 : FoAt (set2 w2 w.heap.size (.int .i64 cur) (.slice A2 n0 c2)) w.heap.size cur A2 n0 c2 := set2_same _ _ hf2
    have hb3 : Below w.heap.size w (set2 w2 w.heap.size (.int .i64 cur) (.slice A2 n0 c2)) := below_set2 _ _ (H1.out.1.trans (hb.mono (by have := H1.out.2.2; omega))) (Nat.le_refl _)
    have hT3 : TRow (set2 w2 w.heap.size (.int .i64 cur) (.slice A2 n0 c2)) A2 L0 := trow_set2 hf2 hT _ _
    have HT := Lib.hid (And.intro hf3 (And.intro hT3 hb3))
    clear hT hb K hf2 hf3 hb3 hT3
    go_wp2_with fail
    refine bodyPost_ret (res_box1 rfl _ w.heap.size _ _ rfl HT.out.1 Tryz.underlying30 rfl (by kernel_rfl)) rfl ?_
    exact ⟨_, c2, rfl, HT.out.2⟩
  · have K := Fa.sform_k w1 g
    rw [cut_len] at K
    have e : formL base (cutL T) = formU base T := rfl
    rw [e] at K
    have K := Lib.hid K
    clear g e
    generalize formU base T = L0 at *
    generalize T.length = n0 at *
    have hm : ∀ w : World, (method 316 102 (.pointer (some ⟨s, 0, none⟩)) "Form").run Tryz.prog w = .ok (158, .pointer (some ⟨s, 0, none⟩)) w := fun _ => by kernel_rfl
    simp only [tyP] at c1
    go_enter Tryz.func31, Tryz.ntmps31
    go_wp2_with fail
    refine K.out.mono ?_
    rintro e w2 ⟨A2, c2, rfl, hT, hb⟩
    have hf2 : FoAt w2 w.heap.size 0 none 0 0 := BoxAt.next H1.out.2.1 hb (Nat.le_refl _)
    obtain ⟨t0, t1, t2, t3⟩ := two_cells hf2 (.int .i64 cur)
    have hf3 : FoAt (set2 w2 w.heap.size (.int .i64 cur) (.slice A2 n0 c2)) w.heap.size cur A2 n0 c2 := set2_same _ _ hf2
    have hb3 : Below w.heap.size w (set2 w2 w.heap.size (.int .i64 cur) (.slice A2 n0 c2)) := below_set2 _ _ (H1.out.1.trans (hb.mono (by have := H1.out.2.2; omega))) (Nat.le_refl _)
    have hT3 : TRow (set2 w2 w.heap.size (.int .i64 cur) (.slice A2 n0 c2)) A2 L0 := trow_set2 hf2 hT _ _
    have HT := Lib.hid (And.intro hf3 (And.intro hT3 hb3))
    clear hT hb K hf2 hf3 hb3 hT3
    go_wp2_with fail
    refine bodyPost_ret (res_box1 rfl _ w.heap.size _ _ rfl HT.out.1 Tryz.underlying30 rfl (by kernel_rfl)) rfl ?_
    exact ⟨_, c2, rfl, HT.out.2⟩
  · have K := sform_k w1 g
    have e : formU base T = formU base T := rfl
    have K := Lib.hid K
    clear g e
    generalize formU base T = L0 at *
    generalize T.length = n0 at *
    have hm : ∀ w : World, (method 316 105 (.pointer (some ⟨s, 0, none⟩)) "Form").run Tryz.prog w = .ok (167, .pointer (some ⟨s, 0, none⟩)) w := fun _ => by kernel_rfl
    simp only [tyP] at c1
    go_enter Tryz.func31, Tryz.ntmps31
    go_wp2_with fail
    refine K.out.mono ?_
    rintro e w2 ⟨A2, c2, rfl, hT, hb⟩
    have hf2 : FoAt w2 w.heap.size 0 none 0 0 := BoxAt.next H1.out.2.1 hb (Nat.le_refl _)
    obtain ⟨t0, t1, t2, t3⟩ := two_cells hf2 (.int .i64 cur)
    have hf3 : FoAt (set2 w2 w.heap.size (.int .i64 cur) (.slice A2 n0 c2)) w.heap.size cur A2 n0 c2 := set2_same _ _ hf2
    have hb3 : Below w.heap.size w (set2 w2 w.heap.size (.int .i64 cur) (.slice A2 n0 c2)) := below_set2 _ _ (H1.out.1.trans (hb.mono (by have := H1.out.2.2; omega))) (Nat.le_refl _)
    have hT3 : TRow (set2 w2 w.heap.size (.int .i64 cur) (.slice A2 n0 c2)) A2 L0 := trow_set2 hf2 hT _ _
    have HT := Lib.hid (And.intro hf3 (And.intro hT3 hb3))
    clear hT hb K hf2 hf3 hb3 hT3
    go_wp2_with fail
    refine bodyPost_ret (res_box1 rfl _ w.heap.size _ _ rfl HT.out.1 Tryz.underlying30 rfl (by kernel_rfl)) rfl ?_
    exact ⟨_, c2, rfl, HT.out.2⟩
set_option maxHeartbeats 2000000 in
theorem prun_k (w : World) (h : IsW t w p A st base cur T) (s1 : 0 ≤ st) (s2 : st < 10000000000000) :
    Calls Tryz.prog 29 #[.pointer (some ⟨p, 0, none⟩)] w fun e w' => e = .returned (.tuple #[.int .i64 (chargeU base (pickPC t cur T) T).1, .int .i64 (chargeU base (pickPC t cur T) T).2.1]) ∧ WPost t p A st (chargeU base (pickPC t cur T) T).2.2.1 (pickPC t cur T) (chargeU base (pickPC t cur T) T).2.2.2 32 w w' := by
  have K := Lib.hid (ppick_k w h)
  have K2 : Hid (∀ W A1 st1, 0 ≤ st1 → st1 < 10000000000000 → IsW t W p A1 st1 base (pickPC t cur T) T → Calls Tryz.prog 26 #[.pointer (some ⟨p, 0, none⟩)] W fun e w' => e = .returned (.tuple #[.int .i64 (chargeU base (pickPC t cur T) T).1, .int .i64 (chargeU base (pickPC t cur T) T).2.1]) ∧ WPost t p A1 st1 (chargeU base (pickPC t cur T) T).2.2.1 (pickPC t cur T) (chargeU base (pickPC t cur T) T).2.2.2 32 W w') := Lib.hid (fun W A1 st1 e1 e2 hq => pcharge_k W hq e1 e2)
  have HS := Lib.hid (And.intro s1 s2)
  clear h s1 s2
  generalize (chargeU base (pickPC t cur T) T).1 = r0 at *
  generalize (chargeU base (pickPC t cur T) T).2.1 = r1 at *
  generalize (chargeU base (pickPC t cur T) T).2.2.1 = z0 at *
  generalize (chargeU base (pickPC t cur T) T).2.2.2 = z1 at *
  generalize pickPC t cur T = c1 at *
  go_enter Tryz.func29, Tryz.ntmps29
  go_wp2_with fail
  refine K.out.mono ?_
  rintro e w1 ⟨rfl, A1, st1, e1, e2, hq, ht⟩
  have K3 := Lib.hid (K2.out w1 A1 st1 (by have := HS.out; omega) (by have := HS.out; omega) hq)
  have HT := Lib.hid (And.intro ht (And.intro e1 e2))
  clear K K2 hq ht e1 e2
  go_wp2_with fail
  refine K3.out.mono ?_
  rintro e w2 ⟨rfl, A2, st2, e3, e4, hq2, ht2⟩
  have HP : Hid (WPost t p A st z0 c1 z1 32 w w2) := Lib.hid ⟨A2, st2, by have := HT.out.2; omega, by have := HT.out.2; omega, hq2, HT.out.1.trans ht2⟩
  clear K3 HT e3 e4 hq2 ht2
  go_wp2_with fail
  go_ret2
  exact ⟨rfl, HP.out⟩
theorem ptag_k (w : World) (h : IsW t w p A st base cur T) :
    Calls Tryz.prog 14 #[.pointer (some ⟨p, 0, none⟩)] w fun e w' => e = .returned (.int .i64 t) ∧ w = w' := by
  have c0 := h.cell0
  clear h
  go_enter Tryz.func14, Tryz.ntmps14
  go_wp2_with fail
  go_ret
  exact ⟨rfl, rfl⟩
end
end Go.Proofs.YtancneebbellnaaGreatDoor.Po
