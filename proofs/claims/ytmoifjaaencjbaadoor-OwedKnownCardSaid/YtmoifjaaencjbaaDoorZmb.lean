/- Forms: what the making of a form leaves. -/
import Derived.Test.YtmoifjaaencjbaaDoorZl
import Derived.Deep.CutBlock
import Derived.Deep.DrawnRows
import Derived.Deep.DeepCutAuto
namespace Go.Proofs.YtmoifjaaencjbaaDoor
open Go.RowKit
attribute [local go_sem ↓] Go.wp_at_zero Go.wp_at_succ

/-- The place of a new item; the list with it. -/
def insK (id : Int) (l : List RI) : Nat := if idxL (idOver id) l 0 < 0 then l.length else (idxL (idOver id) l 0).toNat
def insA (l : List RI) (x : RI) : List RI := l.take (insK x.1 l) ++ [x] ++ l.drop (insK x.1 l)
theorem insK_spec (id : Int) (l : List RI) : (idxL (idOver id) l 0 = -1 ∧ insK id l = l.length) ∨ (∃ k : Nat, idxL (idOver id) l 0 = k ∧ insK id l = k ∧ k < l.length) := by
  rcases idxL_spec (idOver id) l 0 with ⟨h1, _⟩ | ⟨k, r, h1, h2, _⟩
  · exact .inl ⟨h1, by unfold insK; rw [h1]; rfl⟩
  · rw [Nat.zero_add] at h1
    exact .inr ⟨k, h1, by unfold insK; rw [h1, if_neg (by omega)]; rfl, (List.getElem?_eq_some_iff.1 h2).1⟩
theorem insA_length (l : List RI) (x : RI) (h : insK x.1 l ≤ l.length) : (insA l x).length = l.length + 1 := by
  unfold insA
  simp
  omega

/-- A form and an error come back. -/
def FRet (c : Int) (L : List RI) (er : Int) (w : World) (e : Ending) (w' : World) : Prop :=
  ∃ A cap n, L.length = n ∧ e = .returned (.tuple #[.agg #[.int .i64 c, .slice A n cap], .int .i64 er]) ∧ TRow w' A L ∧ (A = none → cap = 0) ∧ n ≤ cap ∧ cap ≤ maxLen ∧ Below w.heap.size w w'
theorem FRet.fail {er : Int} {w w' : World} (h : Below w.heap.size w w') : FRet 0 [] er w (.returned (.tuple #[.agg #[.int .i64 0, .slice none 0 0], .int .i64 er])) w' := ⟨none, 0, 0, rfl, rfl, TRow.nil, fun _ => rfl, Nat.le_refl _, Nat.zero_le _, h⟩

theorem TRow.take {w : World} {A : Option Addr} {l : List RI} (h : TRow w A l) (k : Nat) : TRow w A (l.take k) := fun i r hi => h i r (by
  rw [List.getElem?_take] at hi
  split at hi
  · exact hi
  · cases hi)
theorem TRow.drop {w : World} {ad : Addr} {l : List RI} (h : TRow w (some ad) l) (k : Nat) : TRow w (some (ad.add (k * 3))) (l.drop k) := fun i r hi => by
  rw [List.getElem?_drop] at hi
  obtain ⟨ad', e, h0, h1, h2⟩ := h _ _ hi
  obtain rfl := Option.some.inj e
  refine ⟨_, rfl, ?_, ?_, ?_⟩
  · rw [Go.Deep.add_add]; rwa [show k * 3 + i * 3 = (k + i) * 3 by omega]
  · rw [Go.Deep.add_add]; rwa [show k * 3 + (i * 3 + 1) = (k + i) * 3 + 1 by omega]
  · rw [Go.Deep.add_add]; rwa [show k * 3 + (i * 3 + 2) = (k + i) * 3 + 2 by omega]

/-- Three blocks, two blocks that have just been laid. -/
theorem three_new (w : World) (c1 c2 c3 : Array Value) (t1 t2 t3 : TypeId) :
    BoxAt (((w.alloc (.cells c1 t1)).alloc (.cells c2 t2)).alloc (.cells c3 t3)).drew w.heap.size t1 c1 ∧ BoxAt (((w.alloc (.cells c1 t1)).alloc (.cells c2 t2)).alloc (.cells c3 t3)).drew (w.heap.size + 1) t2 c2 ∧
      BoxAt (((w.alloc (.cells c1 t1)).alloc (.cells c2 t2)).alloc (.cells c3 t3)).drew (w.heap.size + 1 + 1) t3 c3 ∧ Below w.heap.size w (((w.alloc (.cells c1 t1)).alloc (.cells c2 t2)).alloc (.cells c3 t3)).drew := by
  have hz : Below ((w.alloc (.cells c1 t1)).alloc (.cells c2 t2)).heap.size ((w.alloc (.cells c1 t1)).alloc (.cells c2 t2)) (((w.alloc (.cells c1 t1)).alloc (.cells c2 t2)).alloc (.cells c3 t3)).drew := ((Below.refl _ _).alloc (Nat.le_refl _) _).drew
  refine ⟨BoxAt.next (heap_alloc2_old w _ _) hz (Nat.le_refl _), BoxAt.next (heap_alloc2_new w _ _) hz (Nat.le_refl _), ?_, ((((Below.refl _ w).alloc (Nat.le_refl _) _).alloc (by simp) _).alloc (by simp; omega) _).drew⟩
  have h := heap_alloc_new ((w.alloc (.cells c1 t1)).alloc (.cells c2 t2)) (.cells c3 t3)
  rw [World.size_alloc, World.size_alloc] at h
  exact h
theorem two_new (w : World) (c1 c2 : Array Value) (t1 t2 : TypeId) :
    BoxAt ((w.alloc (.cells c1 t1)).alloc (.cells c2 t2)).drew w.heap.size t1 c1 ∧ BoxAt ((w.alloc (.cells c1 t1)).alloc (.cells c2 t2)).drew (w.heap.size + 1) t2 c2 ∧ Below w.heap.size w ((w.alloc (.cells c1 t1)).alloc (.cells c2 t2)).drew :=
  ⟨heap_alloc2_old w _ _, heap_alloc2_new w _ _, (((Below.refl _ w).alloc (Nat.le_refl _) _).alloc (by simp) _).drew⟩

theorem OwnR.setCell {w : World} {base : Nat} {v : Value} {l : List RI} (h : OwnR w base v l) {a : Addr} (ha : a.block < base) (u : Value) : OwnR (w.setCell a u) base v l := ownsRow_setCell_below h ha u
theorem OwnR.below {w w' : World} {base B : Nat} {v : Value} {l : List RI} (h : OwnR w base v l) (hb : Below B w w') (hB : w.heap.size ≤ B) : OwnR w' base v l := by
  unfold OwnR at *
  refine ⟨h.1, ?_⟩
  rcases h.2 with h2 | ⟨g, cap, cur, h1, h2, h3, h4⟩
  · exact .inl h2
  · refine .inr ⟨g, cap, cur, h1, h2, ?_, h4⟩
    have hg : g < w.heap.size := (Array.getElem?_eq_some_iff.1 h3).1
    rw [hb.block g (by omega)]; exact h3
/-- Behind the making of a form: it lies at X, its list in a row of the call's own. -/
def Made (w : World) (f0 : Int) (L : List RI) (b4 : Nat) (v : Value) (wx : World) : Prop :=
  ∃ X A cap n base, L.length = n ∧ v = .pointer (some ⟨X, 0, none⟩) ∧ FoAt wx X f0 A n cap ∧ OwnR wx base (.slice A n cap) L ∧ b4 < base ∧ Below w.heap.size w wx ∧ FoAt wx b4 0 none 0 0 ∧ X ≠ b4 ∧ X < wx.heap.size ∧ w.heap.size ≤ X ∧ (∀ g, (Value.slice A n cap).ownBlock = some g → g ≠ X)
theorem made_set {w Wq wq : World} {f0 : Int} {L : List RI} {A : Option Addr} {n cap X b4 : Nat} (hn : L.length = n) (ho : OwnR wq Wq.heap.size (.slice A n cap) L) (hq : Below Wq.heap.size Wq wq) (hx : FoAt Wq X 0 none 0 0) (hb : Below w.heap.size w Wq) (h4 : FoAt Wq b4 0 none 0 0) (hX : w.heap.size ≤ X) (hne : X ≠ b4) :
    Made w f0 L b4 (.pointer (some ⟨X, 0, none⟩)) ((wq.setCell ⟨X, 0, none⟩ (.int .i64 f0)).setCell ⟨X, 1, none⟩ (.slice A n cap)) := by
  have hlt := BoxAt.lt hx
  have ho2 := (ho.setCell (a := ⟨X, 0, none⟩) hlt (.int .i64 f0)).setCell (a := ⟨X, 1, none⟩) hlt (.slice A n cap)
  have hx' : FoAt wq X 0 none 0 0 := BoxAt.next hx hq (Nat.le_refl _)
  have h4' : FoAt wq b4 0 none 0 0 := BoxAt.next h4 hq (Nat.le_refl _)
  have hx2 := hx'.set f0 A n cap
  exact ⟨X, A, cap, n, _, hn, rfl, hx2, ho2, BoxAt.lt h4, Below.set2 (hb.trans (hq.mono hb.size)) hX _ _, (BoxAt.other (a := ⟨X, 0, none⟩) h4' (Ne.symm hne) _).other (a := ⟨X, 1, none⟩) (Ne.symm hne) _, hne, BoxAt.lt hx2, hX, fun g hg e => by have := (World.ownsRow.lt ho g hg).1; omega⟩
theorem made_new {w Wq wq : World} {f0 : Int} {L : List RI} {A : Option Addr} {n cap b4 : Nat} (hn : L.length = n) (ho : OwnR wq Wq.heap.size (.slice A n cap) L) (hq : Below Wq.heap.size Wq wq) (hb : Below w.heap.size w Wq) (h4 : FoAt Wq b4 0 none 0 0) :
    Made w f0 L b4 (.pointer (some ⟨wq.heap.size, 0, none⟩)) (wq.alloc (.cells #[.int .i64 f0, .slice A n cap] 25)) := by
  have h4' : FoAt wq b4 0 none 0 0 := BoxAt.next h4 hq (Nat.le_refl _)
  have hb1 := hb.trans (hq.mono hb.size)
  have ha : Below wq.heap.size wq (wq.alloc (.cells #[.int .i64 f0, .slice A n cap] 25)) := (Below.refl _ _).alloc (Nat.le_refl _) _
  exact ⟨_, A, cap, n, _, hn, rfl, heap_alloc_new wq _, ho.below ha (Nat.le_refl _), BoxAt.lt h4, hb1.trans (ha.mono hb1.size), BoxAt.next h4' ha (Nat.le_refl _), by have := BoxAt.lt h4'; omega, by simp, hb1.size, fun g hg e => by have := (World.ownsRow.lt ho g hg).2; omega⟩
/-- The parts of a list and what stands between, joined. -/
theorem joined_c {w3 Wq : World} {sb ib k n c kc nl : Nat} {A D : Option Addr} {l : List RI} {x0 x1 x2 : Int} (hn : l.length = n) (hn64 : n ≤ 1000) (hr : TRow w3 A l) (hz : A = none → c = 0) (hk : k ≤ n) (hnl : n - k = nl) (hD : TRow w3 D (l.drop k)) (hDz : D = none → kc = 0) (hb : Below w3.heap.size w3 Wq)
    (hs : BoxAt Wq sb 23 #[.slice A k c, .slice (some ⟨ib, 0, none⟩) 1 1, .slice D nl kc]) (hi : ItAt Wq ib (x0, x1, x2)) :
    Calls Tryd.prog 20 #[.slice (some ⟨sb, 0, none⟩) 3 3] Wq (OwnRet Wq.heap.size (l.take k ++ [(x0, x1, x2)] ++ l.drop k) Wq) := by
  subst hnl
  have e : catL [(.slice A k c, l.take k), (.slice (some ⟨ib, 0, none⟩) 1 1, [(x0, x1, x2)]), (.slice D (n - k) kc, l.drop k)] = l.take k ++ [(x0, x1, x2)] ++ l.drop k := by simp [catL]
  rw [← e]
  have hlt : (l.take k).length = k := by rw [List.length_take]; omega
  have hld : (l.drop k).length = n - k := by rw [List.length_drop]; omega
  refine concat_c sb 3 3 _ Wq rfl (by omega) (by rw [e]; simp; omega) (BoxAt.lt hs) (fun j p hp => ?_)
  match j, hp with
  | 0, hp => simp at hp; subst hp; exact ⟨hs.cell, A, c, by rw [hlt], (hr.below hb (Nat.le_refl _)).take k, hz⟩
  | 1, hp => simp at hp; subst hp; exact ⟨hs.cell, some ⟨ib, 0, none⟩, 1, rfl, TRow.of_box hi rfl, fun e => by cases e⟩
  | 2, hp => simp at hp; subst hp; exact ⟨hs.cell, D, kc, by rw [hld], hD.below hb (Nat.le_refl _), hDz⟩
  | j + 3, hp => simp at hp

end Go.Proofs.YtmoifjaaencjbaaDoor
