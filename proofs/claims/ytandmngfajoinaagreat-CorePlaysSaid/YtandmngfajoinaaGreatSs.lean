/- stride's queue: slices.SortFunc at Form's order. -/
import Derived.Test.YtandmngfajoinaaGreatSg
import Derived.Test.YtandmngfajoinaaGreatShelf
namespace Go.Proofs.YtandmngfajoinaaGreat
open Go.RowKit Go.Shelf

set_option maxHeartbeats 1000000 in
/-- What Form sorts by. -/
theorem form1_c (x y : RI) (W : World) : Calls Tryz.prog 143 #[.agg #[.int .i64 x.1, .int .i64 x.2.1, .int .i64 x.2.2], .agg #[.int .i64 y.1, .int .i64 y.2.1, .int .i64 y.2.2]] W fun e w' => e = .returned (.int .i64 (cmq x.1 y.1)) ∧ ∃ q os', w' = Go.Sort.grow (W.drewN q) os' := by
  obtain ⟨x0, x1, x2⟩ := x
  obtain ⟨y0, y1, y2⟩ := y
  have hcon := fun W' => cmpint_c x0 y0 W'
  simp only
  generalize cmq x0 y0 = r at hcon ⊢
  go_enter Tryz.func143, Tryz.ntmps143
  go_wp2_with (go_at_call 90; refine (hcon _).mono ?_; rintro e w' ⟨rfl, rfl⟩)
  go_ret
  exact ⟨rfl, 0, _, by rw [Go.Sort.alloc_eq_grow, Go.Sort.alloc_eq_grow, Go.Sort.grow_grow]; rfl⟩

/-! The sort -/
theorem swo_id : Go.Sort.SWO (ltOf fun x y : RI => cmq x.1 y.1) := by
  have e : ∀ x y : RI, ltOf (fun x y : RI => cmq x.1 y.1) x y = decide (x.1 < y.1) := fun x y => by
    unfold ltOf cmq
    by_cases h1 : x.1 < y.1
    · simp [h1]
    · by_cases h2 : y.1 < x.1 <;> simp [h1, h2]
  refine ⟨fun x => by rw [e]; simp, fun x y z h1 h2 => ?_, fun x y z h1 h2 => ?_⟩
  · rw [e] at *; simp at *; omega
  · rw [e] at *; simp at *; omega
theorem lt_id (x y : RI) : ltOf (fun x y : RI => cmq x.1 y.1) x y = decide (x.1 < y.1) := by
  unfold ltOf cmq
  by_cases h1 : x.1 < y.1
  · simp [h1]
  · by_cases h2 : y.1 < x.1 <;> simp [h1, h2]
theorem flatR_at (l : List RI) (j : Nat) (hj : j < l.length * 3) : (flatR l)[j]? = some ((Go.Sort.flatK encR 3 l.toArray)[j]!) := by
  have hq : j / 3 < l.length := by omega
  rw [Go.Sort.get_flatK _ _ _ _ (by simpa using hj)]
  have h := flatR_get (l := l) (j := j / 3) (x := l[j / 3]) (List.getElem?_eq_getElem hq) (j % 3) (by omega)
  rw [show j / 3 * 3 + j % 3 = j by omega] at h
  rw [h]
  have hm : j % 3 < (encR l[j / 3]).length := by simp [encR]; omega
  simp [hq, List.getElem?_eq_getElem hm]
theorem holds_of_own {w : World} {base : Nat} {e : TypeId} {g n c : Nat} {l : List RI} (h : w.ownsRow base e 3 (.slice (some ⟨g, 0, none⟩) n c) n (flatR l)) : Go.Sort.HoldsK encR 3 w g 0 l.toArray := by
  intro j hj
  rw [Go.Sort.size_flatK] at hj
  have hj' : j < l.length * 3 := by simpa using hj
  have hc := World.ownsRow.cells h (g := g) rfl j _ (flatR_at l j hj')
  rw [addr_add] at hc
  refine ⟨by simpa using hc, ?_⟩
  rcases h.2 with ⟨h1, _⟩ | ⟨g', cap, cur, h1, h2, h3, _⟩
  · cases h1
  · injection h1 with h1; injection h1 with h1; injection h1 with h1
    subst h1
    simp [World.frozen?, h3]
theorem row_of_holds {w : World} {g : Nat} {d : Array RI} (h : Go.Sort.HoldsK encR 3 w g 0 d) : TRow w (some ⟨g, 0, none⟩) d.toList := by
  intro i r hi
  have hlt : i < d.size := by
    have := (List.getElem?_eq_some_iff.1 hi).1
    simpa using this
  have he : d[i]! = r := by
    rw [Array.getElem?_toList] at hi
    rw [getElem!_pos d i hlt]
    rw [Array.getElem?_eq_getElem hlt] at hi
    exact Option.some.inj hi
  refine ⟨_, rfl, ?_, ?_, ?_⟩ <;> rw [addr_add]
  · have := (Go.Sort.HoldsK.cell h hlt (c := 0) (by omega)).1
    rw [he] at this
    simpa [encR] using this
  · have := (Go.Sort.HoldsK.cell h hlt (c := 1) (by omega)).1
    rw [he] at this
    simpa [encR, Nat.add_assoc] using this
  · have := (Go.Sort.HoldsK.cell h hlt (c := 2) (by omega)).1
    rw [he] at this
    simpa [encR, Nat.add_assoc] using this
theorem sort_other (w : World) (g n : Nat) (d : Array RI) (os : Array Obj) (k : Nat) (hk : k < w.heap.size) (hne : k ≠ g) : (sortWorldK encR 3 w g 0 n d os).heap[k]? = w.heap[k]? := by
  unfold sortWorldK
  rw [Go.Sort.heap_grow_old _ _ (by rw [Go.Sort.size_putRowK]; exact hk)]
  show (w.heap.modify g _)[k]? = _
  rw [Array.getElem?_modify, if_neg (fun e => hne e.symm)]

set_option maxHeartbeats 1000000 in
/-- slices.SortFunc of items by their numbers. -/
theorem sort_c (g n c base : Nat) (l : List RI) (l' : List RI) (w : World) (hn : l.length = n) (h : w.ownsRow base 69 3 (.slice (some ⟨g, 0, none⟩) n c) n (flatR l)) (hp : l.Perm l') (ha : AscR l') (hl : n < 1000000) :
    Calls Tryz.prog 142 #[.slice (some ⟨g, 0, none⟩) n c, .func (.func 143) #[] #[]] w fun e w' => e = .returned (.tuple #[]) ∧ TRow w' (some ⟨g, 0, none⟩) l' ∧ w'.os = w.os ∧ w'.tape = w.tape ∧ w'.output = w.output ∧ w.heap.size ≤ w'.heap.size ∧ ∀ k, k < w.heap.size → k ≠ g → w'.heap[k]? = w.heap[k]? := by
  have eg : ∀ args w, (callFunc 143 args).run Tryz.prog w = .ok (.enter 143 args) w := enters_of Tryz.func143 (by kernel_rfl) rfl
  have hH := holds_of_own h
  have hg : g < w.heap.size := (World.ownsRow.lt h g rfl).2
  have hcon := AnyQ.slices_SortFunc Tryz.lays6 3 Tryz.isAgg69 Tryz.sizeOf69 encR (fun _ => rfl) (fun x v hv => encR_one x v hv) (fun x y => cmq x.1 y.1) swo_id 143 #[] g 0 c l.toArray w eg (fun _ _ _ _ x y => form1_c x y _) hH hg (by simp; omega)
  have hs : l.toArray.size = n := by simp [hn]
  rw [hs] at hcon
  refine (show Calls Tryz.prog 142 _ _ _ from hcon).mono ?_
  rintro e w' ⟨rfl, d', m, os, hperm, hsort, rfl⟩
  have hds : d'.size = n := hperm.1.trans hs
  have hfull : ∀ a : Array RI, a.size = n → a.extract 0 n = a := fun a ha => by rw [← ha]; simp
  have hp2 : d'.toList.Perm l := by
    have := hperm.2.2
    rw [hfull d' hds, hfull l.toArray hs] at this
    simpa using this
  have hl' : d'.toList = l' := by
    refine sorted_eq ha ?_ (hp2.trans hp)
    rw [List.pairwise_iff_getElem]
    intro i j hi hj hij
    have := hsort i j (Nat.zero_le _) hij (by simpa [hds] using hj)
    rw [lt_id] at this
    simp at hi hj
    rw [getElem!_pos d' i hi, getElem!_pos d' j hj] at this
    simpa using this
  have hHK := holdsK_sortWorldK_c encR 3 w g 0 l.toArray d' m os hH hg (by rw [hds, hs])
  refine ⟨rfl, by rw [← hl']; exact row_of_holds hHK, rfl, rfl, rfl, size_sortWorldK_c encR 3 w g 0 m d' os, fun k hk hne => sort_other w g m d' os k hk hne⟩
end Go.Proofs.YtandmngfajoinaaGreat
