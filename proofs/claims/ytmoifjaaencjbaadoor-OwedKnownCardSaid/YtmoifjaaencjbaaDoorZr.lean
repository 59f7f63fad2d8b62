/- Forms: an account of boxes and rows; the law's forms that may not be; Put, Drop at forms that are known. -/
import Derived.Test.YtmoifjaaencjbaaDoorZi
import Derived.Test.YtmoifjaaencjbaaDoorZh
import Derived.Test.YtmoifjaaencjbaaDoorZn
import Derived.Test.YtmoifjaaencjbaaDoorZo
import Derived.Test.YtmoifjaaencjbaaDoorZq
namespace Go.Proofs.YtmoifjaaencjbaaDoor
open Go.RowKit Go.Shelf

/-- Boxes and rows that lie in w; nothing that lay in W has turned. -/
structure Kn (W w : World) (bs : List (Nat × TypeId × Array Value)) (rs : List (Option Addr × List RI)) : Prop where
  fr : Below W.heap.size W w
  bx : ∀ p ∈ bs, BoxAt w p.1 p.2.1 p.2.2
  rows : ∀ r ∈ rs, TRow w r.1 r.2
theorem Kn.step {W w w' : World} {bs : List (Nat × TypeId × Array Value)} {rs : List (Option Addr × List RI)} (h : Kn W w bs rs) (hb : Below w.heap.size w w') : Kn W w' bs rs :=
  ⟨h.fr.trans (hb.mono h.fr.size), fun p hp => BoxAt.next (h.bx p hp) hb (Nat.le_refl _), fun r hr => (h.rows r hr).below hb (Nat.le_refl _)⟩
theorem Kn.push {W w : World} {bs : List (Nat × TypeId × Array Value)} {rs : List (Option Addr × List RI)} (h : Kn W w bs rs) (cs : Array Value) (t : TypeId) : Kn W (w.alloc (.cells cs t)) ((w.heap.size, t, cs) :: bs) rs := by
  have h1 := h.step ((Below.refl w.heap.size w).alloc (Nat.le_refl _) (.cells cs t))
  exact ⟨h1.fr, fun p hp => by
    rcases List.mem_cons.1 hp with rfl | hp
    · exact heap_alloc_new w _
    · exact h1.bx p hp, h1.rows⟩
theorem Kn.row {W w : World} {bs : List (Nat × TypeId × Array Value)} {rs : List (Option Addr × List RI)} (h : Kn W w bs rs) {A : Option Addr} {l : List RI} (hr : TRow w A l) : Kn W w bs ((A, l) :: rs) :=
  ⟨h.fr, h.bx, fun r hr' => by
    rcases List.mem_cons.1 hr' with rfl | hr'
    · exact hr
    · exact h.rows r hr'⟩
theorem Kn.form {W w : World} {bs : List (Nat × TypeId × Array Value)} {rs : List (Option Addr × List RI)} (h : Kn W w bs rs) {b : Nat} {c : Int} {A : Option Addr} {n m : Nat} (hp : (b, 25, #[.int .i64 c, .slice A n m]) ∈ bs) :
    w.cell? ⟨b, 0, none⟩ = some (.int .i64 c) ∧ w.cell? ⟨b, 1, none⟩ = some (.slice A n m) := by
  obtain ⟨h0, h1, -, -⟩ := (show FoAt w b c A n m from h.bx _ hp).cells
  exact ⟨h0, h1⟩
theorem Kn.item {W w : World} {bs : List (Nat × TypeId × Array Value)} {rs : List (Option Addr × List RI)} (h : Kn W w bs rs) {b : Nat} {x0 x1 x2 : Int} (hp : (b, 27, #[.int .i64 x0, .int .i64 x1, .int .i64 x2]) ∈ bs) :
    w.cell? ⟨b, 0, none⟩ = some (.int .i64 x0) ∧ w.cell? ⟨b, 1, none⟩ = some (.int .i64 x1) ∧ w.cell? ⟨b, 2, none⟩ = some (.int .i64 x2) := by
  obtain ⟨h0, h1, h2, -, -, -⟩ := (show ItAt w b (x0, x1, x2) from h.bx _ hp).cells
  exact ⟨h0, h1, h2⟩

/-- A form that is known and an error come back. -/
def FR (c : Int) (L : List RI) (n : Nat) (er : Int) (w : World) (e : Ending) (w' : World) : Prop :=
  ∃ A cap, e = .returned (.tuple #[.agg #[.int .i64 c, .slice A n cap], .int .i64 er]) ∧ TRow w' A L ∧ Below w.heap.size w w'
theorem put_lit {f0 x0 x1 x2 c' er : Int} {A : Option Addr} {n c n' : Nat} {l L : List RI} {w : World} (hv : putO f0 l (x0, x1, x2) = (er, c', L)) (hL : L.length = n') (hn : l.length = n) (hl : n ≤ c) (hm : c ≤ 1000) (hz : A = none → c = 0) (hr : TRow w A l) :
    Calls Tryd.prog 8 #[.agg #[.int .i64 f0, .slice A n c], .agg #[.int .i64 x0, .int .i64 x1, .int .i64 x2]] w (FR c' L n' er w) := by
  have h := put_c f0 x0 x1 x2 A n c l w hn hl (by unfold maxLen; omega) hz hr (by omega)
  rw [hv] at h
  refine h.mono ?_
  rintro e w' ⟨B, cb, m, hbm, rfl, hbr, -, -, -, hb⟩
  obtain rfl : m = n' := by rw [← hbm, ← hL]
  exact ⟨B, cb, rfl, hbr, hb⟩
theorem drop_lit {f0 id c' er : Int} {A : Option Addr} {n c n' : Nat} {l L : List RI} {w : World} (hv : dropO f0 l id = (er, c', L)) (hL : L.length = n') (hn : l.length = n) (hl : n ≤ c) (hm : c ≤ 1000) (hr : TRow w A l) :
    Calls Tryd.prog 9 #[.agg #[.int .i64 f0, .slice A n c], .int .i64 id] w (FR c' L n' er w) := by
  have h := drop_c f0 id A n c l w hn hl (by unfold maxLen; omega) (by omega) hr
  rw [hv] at h
  refine h.mono ?_
  rintro e w' ⟨B, cb, m, hbm, rfl, hbr, -, -, -, hb⟩
  obtain rfl : m = n' := by rw [← hbm, ← hL]
  exact ⟨B, cb, rfl, hbr, hb⟩
theorem find_lit {f0 id x0 x1 x2 : Int} {b : Bool} {A : Option Addr} {n c : Nat} {l : List RI} {w : World} (hv : (findV id l).getD (0, 0, 0) = (x0, x1, x2)) (hb : (findV id l).isSome = b) (hn : l.length = n) (hm : n ≤ 1000) (hr : TRow w A l) :
    Calls Tryd.prog 13 #[.agg #[.int .i64 f0, .slice A n c], .int .i64 id] w (Ret10 (.tuple #[.agg #[.int .i64 x0, .int .i64 x1, .int .i64 x2], .bool b]) w) := by
  have h := find_c f0 A n c id l w hn (by omega) hr
  rw [hv, hb] at h
  exact h
theorem front_lit {f0 x0 x1 x2 : Int} {b : Bool} {A : Option Addr} {n c : Nat} {l : List RI} {w : World} (hv : frontV l = (x0, x1, x2)) (hb : someL l = b) (hn : l.length = n) (hm : n ≤ 1000) (hr : TRow w A l) :
    Calls Tryd.prog 12 #[.agg #[.int .i64 f0, .slice A n c]] w (Ret10 (.tuple #[.agg #[.int .i64 x0, .int .i64 x1, .int .i64 x2], .bool b]) w) := by
  have h := front_c f0 A n c l w hn (by omega) hr
  rw [hv, hb] at h
  exact h
theorem good_lit {f0 : Int} {b : Bool} {A : Option Addr} {n c : Nat} {l : List RI} {w : World} (hb : goodV f0 l = b) (hn : l.length = n) (hm : n ≤ 1000) (hr : TRow w A l) :
    Calls Tryd.prog 10 #[.agg #[.int .i64 f0, .slice A n c]] w (Ret10 (.bool b) w) := by
  have h := good_c f0 A n c l w hn (by omega) hr
  rw [hb] at h
  exact h
theorem text_lit {f0 : Int} {A : Option Addr} {n c : Nat} {l : List RI} {w : World} {s : List UInt8} (hv : textL f0 l = s) (hn : l.length = n) (h64 : n ≤ 64) (hr : TRow w A l) (ht : Tab w) (hc : Sm f0) (hs : ∀ r ∈ l, SmR r) :
    Calls Tryd.prog 14 #[.agg #[.int .i64 f0, .slice A n c]] w (Ret10 (.string ⟨s.toArray⟩) w) := by
  have h := text_c f0 A n c l w hn h64 hr ht hc hs
  rw [hv] at h
  exact h
theorem same_lit {f0 g0 : Int} {b : Bool} {A A' : Option Addr} {n c n' c' : Nat} {l l' : List RI} {w : World} (hb : sameB f0 g0 l l' = b) (hn : l.length = n) (hn' : l'.length = n') (hm : n ≤ 1000) (hr : TRow w A l) (hr' : TRow w A' l') :
    Calls Tryd.prog 16 #[.agg #[.int .i64 f0, .slice A n c], .agg #[.int .i64 g0, .slice A' n' c']] w (Ret10 (.bool b) w) := by
  have h := same_c f0 g0 A A' n c n' c' l l' w hn hn' (by omega) hr hr'
  rw [hb] at h
  exact h

/-- The forms that may not be lie in block g. -/
def BadAt (w : World) (g : Nat) : Prop :=
  ∀ i, i < 11 → ∃ (c : Int) (A : Option Addr) (n : Nat) (l : List RI), l.length = n ∧ n ≤ 2 ∧ w.cell? ⟨g, i * 2, none⟩ = some (.int .i64 c) ∧ w.cell? ⟨g, i * 2 + 1, none⟩ = some (.slice A n n) ∧ TRow w A l ∧ (A = none → n = 0) ∧ goodV c l = false
theorem BadAt.next {w w' : World} {g B : Nat} (h : BadAt w g) (hb : Below B w w') (hB : w.heap.size ≤ B) : BadAt w' g := fun i hi => by
  obtain ⟨c, A, n, l, h1, h2, h3, h4, h5, h6, h7⟩ := h i hi
  exact ⟨c, A, n, l, h1, h2, (hb.cell (Nat.lt_of_lt_of_le (cell_lt0 h3) hB)).trans h3, (hb.cell (Nat.lt_of_lt_of_le (cell_lt0 h4) hB)).trans h4, h5.below hb hB, h6, h7⟩
theorem bad_w (w : World) : BadAt (((((((((w.alloc (.cells #[.int .i64 (-1), .int .i64 1, .int .i64 0] 27)).alloc (.cells #[.int .i64 1073741825, .int .i64 1, .int .i64 0] 27)).alloc (.cells #[.int .i64 1, .int .i64 0, .int .i64 0] 27)).alloc (.cells #[.int .i64 1, .int .i64 21, .int .i64 0] 27)).alloc (.cells #[.int .i64 1, .int .i64 1, .int .i64 (-1)] 27)).alloc (.cells #[.int .i64 1, .int .i64 1, .int .i64 1125899906842625] 27)).alloc (.cells #[.int .i64 2, .int .i64 1, .int .i64 0, .int .i64 1, .int .i64 1, .int .i64 0] 27)).alloc (.cells #[.int .i64 2, .int .i64 1, .int .i64 0, .int .i64 2, .int .i64 1, .int .i64 0] 27)).alloc (.cells #[.int .i64 0, .slice none 0 0, .int .i64 1, .slice none 0 0, .int .i64 (-2), .slice none 0 0, .int .i64 (-1), .slice (some ⟨w.heap.size, 0, none⟩) 1 1, .int .i64 (-1), .slice (some ⟨w.heap.size + 1, 0, none⟩) 1 1, .int .i64 (-1), .slice (some ⟨w.heap.size + 1 + 1, 0, none⟩) 1 1, .int .i64 (-1), .slice (some ⟨w.heap.size + 1 + 1 + 1, 0, none⟩) 1 1, .int .i64 (-1), .slice (some ⟨w.heap.size + 1 + 1 + 1 + 1, 0, none⟩) 1 1, .int .i64 (-1), .slice (some ⟨w.heap.size + 1 + 1 + 1 + 1 + 1, 0, none⟩) 1 1, .int .i64 (-1), .slice (some ⟨w.heap.size + 1 + 1 + 1 + 1 + 1 + 1, 0, none⟩) 2 2, .int .i64 (-1), .slice (some ⟨w.heap.size + 1 + 1 + 1 + 1 + 1 + 1 + 1, 0, none⟩) 2 2] 25)) (w.heap.size + 1 + 1 + 1 + 1 + 1 + 1 + 1 + 1) ∧ Below w.heap.size w (((((((((w.alloc (.cells #[.int .i64 (-1), .int .i64 1, .int .i64 0] 27)).alloc (.cells #[.int .i64 1073741825, .int .i64 1, .int .i64 0] 27)).alloc (.cells #[.int .i64 1, .int .i64 0, .int .i64 0] 27)).alloc (.cells #[.int .i64 1, .int .i64 21, .int .i64 0] 27)).alloc (.cells #[.int .i64 1, .int .i64 1, .int .i64 (-1)] 27)).alloc (.cells #[.int .i64 1, .int .i64 1, .int .i64 1125899906842625] 27)).alloc (.cells #[.int .i64 2, .int .i64 1, .int .i64 0, .int .i64 1, .int .i64 1, .int .i64 0] 27)).alloc (.cells #[.int .i64 2, .int .i64 1, .int .i64 0, .int .i64 2, .int .i64 1, .int .i64 0] 27)).alloc (.cells #[.int .i64 0, .slice none 0 0, .int .i64 1, .slice none 0 0, .int .i64 (-2), .slice none 0 0, .int .i64 (-1), .slice (some ⟨w.heap.size, 0, none⟩) 1 1, .int .i64 (-1), .slice (some ⟨w.heap.size + 1, 0, none⟩) 1 1, .int .i64 (-1), .slice (some ⟨w.heap.size + 1 + 1, 0, none⟩) 1 1, .int .i64 (-1), .slice (some ⟨w.heap.size + 1 + 1 + 1, 0, none⟩) 1 1, .int .i64 (-1), .slice (some ⟨w.heap.size + 1 + 1 + 1 + 1, 0, none⟩) 1 1, .int .i64 (-1), .slice (some ⟨w.heap.size + 1 + 1 + 1 + 1 + 1, 0, none⟩) 1 1, .int .i64 (-1), .slice (some ⟨w.heap.size + 1 + 1 + 1 + 1 + 1 + 1, 0, none⟩) 2 2, .int .i64 (-1), .slice (some ⟨w.heap.size + 1 + 1 + 1 + 1 + 1 + 1 + 1, 0, none⟩) 2 2] 25)) := by
  obtain ⟨v1, e1⟩ : ∃ v, w.alloc (.cells #[.int .i64 (-1), .int .i64 1, .int .i64 0] 27) = v := ⟨_, rfl⟩
  rw [e1]
  have s1 : v1.heap.size = w.heap.size + 1 := by rw [← e1, World.size_alloc]
  have f1 : Below w.heap.size w v1 := by rw [← e1]; exact (Below.refl _ _).alloc (Nat.le_refl _) _
  have b1 : BoxAt v1 (w.heap.size) 27 #[.int .i64 (-1), .int .i64 1, .int .i64 0] := by rw [← e1]; exact heap_alloc_new w _
  obtain ⟨v2, e2⟩ : ∃ v, v1.alloc (.cells #[.int .i64 1073741825, .int .i64 1, .int .i64 0] 27) = v := ⟨_, rfl⟩
  rw [e2]
  have s2 : v2.heap.size = w.heap.size + 1 + 1 := by rw [← e2, World.size_alloc, s1]
  have f2 : Below v1.heap.size v1 v2 := by rw [← e2]; exact (Below.refl _ _).alloc (Nat.le_refl _) _
  have b2 : BoxAt v2 (w.heap.size + 1) 27 #[.int .i64 1073741825, .int .i64 1, .int .i64 0] := by rw [← e2, ← s1]; exact heap_alloc_new v1 _
  obtain ⟨v3, e3⟩ : ∃ v, v2.alloc (.cells #[.int .i64 1, .int .i64 0, .int .i64 0] 27) = v := ⟨_, rfl⟩
  rw [e3]
  have s3 : v3.heap.size = w.heap.size + 1 + 1 + 1 := by rw [← e3, World.size_alloc, s2]
  have f3 : Below v2.heap.size v2 v3 := by rw [← e3]; exact (Below.refl _ _).alloc (Nat.le_refl _) _
  have b3 : BoxAt v3 (w.heap.size + 1 + 1) 27 #[.int .i64 1, .int .i64 0, .int .i64 0] := by rw [← e3, ← s2]; exact heap_alloc_new v2 _
  obtain ⟨v4, e4⟩ : ∃ v, v3.alloc (.cells #[.int .i64 1, .int .i64 21, .int .i64 0] 27) = v := ⟨_, rfl⟩
  rw [e4]
  have s4 : v4.heap.size = w.heap.size + 1 + 1 + 1 + 1 := by rw [← e4, World.size_alloc, s3]
  have f4 : Below v3.heap.size v3 v4 := by rw [← e4]; exact (Below.refl _ _).alloc (Nat.le_refl _) _
  have b4 : BoxAt v4 (w.heap.size + 1 + 1 + 1) 27 #[.int .i64 1, .int .i64 21, .int .i64 0] := by rw [← e4, ← s3]; exact heap_alloc_new v3 _
  obtain ⟨v5, e5⟩ : ∃ v, v4.alloc (.cells #[.int .i64 1, .int .i64 1, .int .i64 (-1)] 27) = v := ⟨_, rfl⟩
  rw [e5]
  have s5 : v5.heap.size = w.heap.size + 1 + 1 + 1 + 1 + 1 := by rw [← e5, World.size_alloc, s4]
  have f5 : Below v4.heap.size v4 v5 := by rw [← e5]; exact (Below.refl _ _).alloc (Nat.le_refl _) _
  have b5 : BoxAt v5 (w.heap.size + 1 + 1 + 1 + 1) 27 #[.int .i64 1, .int .i64 1, .int .i64 (-1)] := by rw [← e5, ← s4]; exact heap_alloc_new v4 _
  obtain ⟨v6, e6⟩ : ∃ v, v5.alloc (.cells #[.int .i64 1, .int .i64 1, .int .i64 1125899906842625] 27) = v := ⟨_, rfl⟩
  rw [e6]
  have s6 : v6.heap.size = w.heap.size + 1 + 1 + 1 + 1 + 1 + 1 := by rw [← e6, World.size_alloc, s5]
  have f6 : Below v5.heap.size v5 v6 := by rw [← e6]; exact (Below.refl _ _).alloc (Nat.le_refl _) _
  have b6 : BoxAt v6 (w.heap.size + 1 + 1 + 1 + 1 + 1) 27 #[.int .i64 1, .int .i64 1, .int .i64 1125899906842625] := by rw [← e6, ← s5]; exact heap_alloc_new v5 _
  obtain ⟨v7, e7⟩ : ∃ v, v6.alloc (.cells #[.int .i64 2, .int .i64 1, .int .i64 0, .int .i64 1, .int .i64 1, .int .i64 0] 27) = v := ⟨_, rfl⟩
  rw [e7]
  have s7 : v7.heap.size = w.heap.size + 1 + 1 + 1 + 1 + 1 + 1 + 1 := by rw [← e7, World.size_alloc, s6]
  have f7 : Below v6.heap.size v6 v7 := by rw [← e7]; exact (Below.refl _ _).alloc (Nat.le_refl _) _
  have b7 : BoxAt v7 (w.heap.size + 1 + 1 + 1 + 1 + 1 + 1) 27 #[.int .i64 2, .int .i64 1, .int .i64 0, .int .i64 1, .int .i64 1, .int .i64 0] := by rw [← e7, ← s6]; exact heap_alloc_new v6 _
  obtain ⟨v8, e8⟩ : ∃ v, v7.alloc (.cells #[.int .i64 2, .int .i64 1, .int .i64 0, .int .i64 2, .int .i64 1, .int .i64 0] 27) = v := ⟨_, rfl⟩
  rw [e8]
  have s8 : v8.heap.size = w.heap.size + 1 + 1 + 1 + 1 + 1 + 1 + 1 + 1 := by rw [← e8, World.size_alloc, s7]
  have f8 : Below v7.heap.size v7 v8 := by rw [← e8]; exact (Below.refl _ _).alloc (Nat.le_refl _) _
  have b8 : BoxAt v8 (w.heap.size + 1 + 1 + 1 + 1 + 1 + 1 + 1) 27 #[.int .i64 2, .int .i64 1, .int .i64 0, .int .i64 2, .int .i64 1, .int .i64 0] := by rw [← e8, ← s7]; exact heap_alloc_new v7 _
  obtain ⟨v9, e9⟩ : ∃ v, v8.alloc (.cells #[.int .i64 0, .slice none 0 0, .int .i64 1, .slice none 0 0, .int .i64 (-2), .slice none 0 0, .int .i64 (-1), .slice (some ⟨w.heap.size, 0, none⟩) 1 1, .int .i64 (-1), .slice (some ⟨w.heap.size + 1, 0, none⟩) 1 1, .int .i64 (-1), .slice (some ⟨w.heap.size + 1 + 1, 0, none⟩) 1 1, .int .i64 (-1), .slice (some ⟨w.heap.size + 1 + 1 + 1, 0, none⟩) 1 1, .int .i64 (-1), .slice (some ⟨w.heap.size + 1 + 1 + 1 + 1, 0, none⟩) 1 1, .int .i64 (-1), .slice (some ⟨w.heap.size + 1 + 1 + 1 + 1 + 1, 0, none⟩) 1 1, .int .i64 (-1), .slice (some ⟨w.heap.size + 1 + 1 + 1 + 1 + 1 + 1, 0, none⟩) 2 2, .int .i64 (-1), .slice (some ⟨w.heap.size + 1 + 1 + 1 + 1 + 1 + 1 + 1, 0, none⟩) 2 2] 25) = v := ⟨_, rfl⟩
  rw [e9]
  have s9 : v9.heap.size = w.heap.size + 1 + 1 + 1 + 1 + 1 + 1 + 1 + 1 + 1 := by rw [← e9, World.size_alloc, s8]
  have f9 : Below v8.heap.size v8 v9 := by rw [← e9]; exact (Below.refl _ _).alloc (Nat.le_refl _) _
  have b9 : BoxAt v9 (w.heap.size + 1 + 1 + 1 + 1 + 1 + 1 + 1 + 1) 25 #[.int .i64 0, .slice none 0 0, .int .i64 1, .slice none 0 0, .int .i64 (-2), .slice none 0 0, .int .i64 (-1), .slice (some ⟨w.heap.size, 0, none⟩) 1 1, .int .i64 (-1), .slice (some ⟨w.heap.size + 1, 0, none⟩) 1 1, .int .i64 (-1), .slice (some ⟨w.heap.size + 1 + 1, 0, none⟩) 1 1, .int .i64 (-1), .slice (some ⟨w.heap.size + 1 + 1 + 1, 0, none⟩) 1 1, .int .i64 (-1), .slice (some ⟨w.heap.size + 1 + 1 + 1 + 1, 0, none⟩) 1 1, .int .i64 (-1), .slice (some ⟨w.heap.size + 1 + 1 + 1 + 1 + 1, 0, none⟩) 1 1, .int .i64 (-1), .slice (some ⟨w.heap.size + 1 + 1 + 1 + 1 + 1 + 1, 0, none⟩) 2 2, .int .i64 (-1), .slice (some ⟨w.heap.size + 1 + 1 + 1 + 1 + 1 + 1 + 1, 0, none⟩) 2 2] := by rw [← e9, ← s8]; exact heap_alloc_new v8 _
  have g9 : Below v9.heap.size v9 v9 := Below.refl _ _
  have g8 : Below v8.heap.size v8 v9 := f9.trans (g9.mono f9.size)
  have g7 : Below v7.heap.size v7 v9 := f8.trans (g8.mono f8.size)
  have g6 : Below v6.heap.size v6 v9 := f7.trans (g7.mono f7.size)
  have g5 : Below v5.heap.size v5 v9 := f6.trans (g6.mono f6.size)
  have g4 : Below v4.heap.size v4 v9 := f5.trans (g5.mono f5.size)
  have g3 : Below v3.heap.size v3 v9 := f4.trans (g4.mono f4.size)
  have g2 : Below v2.heap.size v2 v9 := f3.trans (g3.mono f3.size)
  have g1 : Below v1.heap.size v1 v9 := f2.trans (g2.mono f2.size)
  refine ⟨fun i hi => ?_, f1.trans (g1.mono f1.size)⟩
  match i, hi with
  | 0, _ => exact ⟨0, none, 0, [], rfl, by omega, b9.cell.trans rfl, b9.cell.trans rfl, TRow.nil, (fun _ => rfl), by decide +kernel⟩
  | 1, _ => exact ⟨1, none, 0, [], rfl, by omega, b9.cell.trans rfl, b9.cell.trans rfl, TRow.nil, (fun _ => rfl), by decide +kernel⟩
  | 2, _ => exact ⟨(-2), none, 0, [], rfl, by omega, b9.cell.trans rfl, b9.cell.trans rfl, TRow.nil, (fun _ => rfl), by decide +kernel⟩
  | 3, _ => exact ⟨(-1), some ⟨w.heap.size, 0, none⟩, 1, [(-1, 1, 0)], rfl, by omega, b9.cell.trans rfl, b9.cell.trans rfl, TRow.of_box (BoxAt.next b1 g1 (Nat.le_refl _)) rfl, (fun e => by cases e), by decide +kernel⟩
  | 4, _ => exact ⟨(-1), some ⟨w.heap.size + 1, 0, none⟩, 1, [(1073741825, 1, 0)], rfl, by omega, b9.cell.trans rfl, b9.cell.trans rfl, TRow.of_box (BoxAt.next b2 g2 (Nat.le_refl _)) rfl, (fun e => by cases e), by decide +kernel⟩
  | 5, _ => exact ⟨(-1), some ⟨w.heap.size + 1 + 1, 0, none⟩, 1, [(1, 0, 0)], rfl, by omega, b9.cell.trans rfl, b9.cell.trans rfl, TRow.of_box (BoxAt.next b3 g3 (Nat.le_refl _)) rfl, (fun e => by cases e), by decide +kernel⟩
  | 6, _ => exact ⟨(-1), some ⟨w.heap.size + 1 + 1 + 1, 0, none⟩, 1, [(1, 21, 0)], rfl, by omega, b9.cell.trans rfl, b9.cell.trans rfl, TRow.of_box (BoxAt.next b4 g4 (Nat.le_refl _)) rfl, (fun e => by cases e), by decide +kernel⟩
  | 7, _ => exact ⟨(-1), some ⟨w.heap.size + 1 + 1 + 1 + 1, 0, none⟩, 1, [(1, 1, -1)], rfl, by omega, b9.cell.trans rfl, b9.cell.trans rfl, TRow.of_box (BoxAt.next b5 g5 (Nat.le_refl _)) rfl, (fun e => by cases e), by decide +kernel⟩
  | 8, _ => exact ⟨(-1), some ⟨w.heap.size + 1 + 1 + 1 + 1 + 1, 0, none⟩, 1, [(1, 1, 1125899906842625)], rfl, by omega, b9.cell.trans rfl, b9.cell.trans rfl, TRow.of_box (BoxAt.next b6 g6 (Nat.le_refl _)) rfl, (fun e => by cases e), by decide +kernel⟩
  | 9, _ => exact ⟨(-1), some ⟨w.heap.size + 1 + 1 + 1 + 1 + 1 + 1, 0, none⟩, 2, [(2, 1, 0), (1, 1, 0)], rfl, by omega, b9.cell.trans rfl, b9.cell.trans rfl, TRow.of_box (BoxAt.next b7 g7 (Nat.le_refl _)) rfl, (fun e => by cases e), by decide +kernel⟩
  | 10, _ => exact ⟨(-1), some ⟨w.heap.size + 1 + 1 + 1 + 1 + 1 + 1 + 1, 0, none⟩, 2, [(2, 1, 0), (2, 1, 0)], rfl, by omega, b9.cell.trans rfl, b9.cell.trans rfl, TRow.of_box (BoxAt.next b8 g8 (Nat.le_refl _)) rfl, (fun e => by cases e), by decide +kernel⟩
  | i + 11, hi => omega
end Go.Proofs.YtmoifjaaencjbaaDoor
