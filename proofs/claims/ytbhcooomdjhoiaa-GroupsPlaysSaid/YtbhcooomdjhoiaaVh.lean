/- Groups: New; what stays a tree; groups that a law makes. -/
import Derived.Test.YtbhcooomdjhoiaaVg
namespace Go.Proofs.Ytbhcooomdjhoiaa
open Go.RowKit Go.Shelf

/-- The root alone. -/
def rootG : List GR := (0, true) :: List.replicate 15 (0, false)

set_option maxRecDepth 100000 in
set_option maxHeartbeats 2000000 in
theorem new_c (w : World) :
    Calls Try.prog 8 #[] w fun e w' => e = .returned (.pointer (some ⟨w.heap.size, 0, none⟩)) ∧ IsG w' w.heap.size rootG ∧ Below w.heap.size w w' := by
  go_enter Try.func8, Try.ntmps8
  go_wp2
  go_ret
  refine ⟨rfl, ⟨?_, rfl⟩, ?_⟩
  · exact World.alloc_heap_new w _
  · exact (Below.refl _ w).alloc (Nat.le_refl _) _

theorem Chn.setFree {G : List GR} {i k t : Nat} {l : List Nat} {y : GR} (hk : G[k]? = some (t, false)) (h : Chn G i l) : Chn (G.set k y) i l := by
  have key : ∀ {j u : Nat}, G[j]? = some (u, true) → (G.set k y)[j]? = some (u, true) := fun {j u} hj => by
    rw [List.getElem?_set_ne]
    · exact hj
    · rintro rfl
      rw [hk] at hj
      simp at hj
  induction h with
  | root h => exact .root (key h)
  | up h0 h1 _ ih => exact .up h0 (key h1) ih
theorem upG_of {G : List GR} {i u : Nat} (h0 : i ≠ 0) (h : G[i]? = some (u, true)) : upG G (i : Int) = ((u : Int), true) := by
  unfold upG
  rw [if_pos ⟨by omega, hasG_in h⟩, Int.toNat_natCast, h]
  rfl
theorem mem_numsL' {G : List GR} {c : Bool} {k u : Nat} (h : G[k]? = some (u, c)) : k ∈ numsL G c := by
  unfold numsL numsTo
  rw [List.mem_filter]
  exact ⟨List.mem_range.2 (List.getElem?_eq_some_iff.1 h).1, by rw [h]; simp⟩
theorem Chn.drop {G : List GR} {i k : Nat} {l : List Nat} {y : GR} (hk0 : k ≠ 0) (hno : (numsL G true).any (inB G (k : Int)) = false) (h : Chn G i l) : i ≠ k → Chn (G.set k y) i l := by
  induction h with
  | root h =>
    intro _
    exact .root (by rw [List.getElem?_set_ne (by omega)]; exact h)
  | @up i u l h0 h1 h2 ih =>
    intro hik
    refine .up h0 (by rw [List.getElem?_set_ne (by omega)]; exact h1) (ih ?_)
    rintro rfl
    have := List.any_eq_false.1 hno i (mem_numsL' h1)
    unfold inB at this
    rw [upG_of h0 h1] at this
    simp at this
theorem WfG.root1 : WfG rootG := by
  refine ⟨rfl, ⟨0, rfl⟩, fun i u h => ?_⟩
  have : i = 0 := by
    by_cases e : i = 0
    · exact e
    · obtain ⟨j, rfl⟩ : ∃ j, i = j + 1 := ⟨i - 1, by omega⟩
      unfold rootG at h
      rw [List.getElem?_cons_succ, List.getElem?_replicate] at h
      split at h <;> simp at h
  subst this
  exact ⟨[0], .root h, by simp⟩
theorem WfG.add {G : List GR} (h : WfG G) (up : Int) : WfG (addG G up).2.2 := by
  unfold addG
  split
  · exact h
  · rename_i hh
    split
    · exact h
    · rename_i hd
      split
      · exact h
      · rename_i k r hn
        obtain ⟨t, hk⟩ := mem_numsL (S := G) (c := false) (k := k) (by rw [hn]; simp)
        obtain ⟨i, rfl, hc, hl⟩ := h.chn (id := up) (by simpa using hh)
        have hk0 : k ≠ 0 := by
          rintro rfl
          obtain ⟨u, hu⟩ := h.root
          rw [hu] at hk
          simp at hk
        have hkl := (List.getElem?_eq_some_iff.1 hk).1
        refine ⟨by simp [h.len], ?_, fun j u hj => ?_⟩
        · obtain ⟨u, hu⟩ := h.root
          exact ⟨u, by rw [List.getElem?_set_ne hk0]; exact hu⟩
        · by_cases e : k = j
          · subst e
            simp only [List.getElem?_set_self hkl, Option.some.injEq, Prod.mk.injEq, Int.toNat_natCast] at hj
            obtain ⟨rfl, _⟩ := hj
            exact ⟨k :: chI G i, .up hk0 (by simp [hkl]) (hc.setFree hk), by simp; omega⟩
          · rw [List.getElem?_set_ne e] at hj
            obtain ⟨l, h1, h2⟩ := h.all j u hj
            exact ⟨l, h1.setFree hk, h2⟩
theorem WfG.rem {G : List GR} (h : WfG G) (id : Int) : WfG (remG G id).2 := by
  unfold remG
  split
  · exact h
  · rename_i h0
    split
    · exact h
    · rename_i hh
      split
      · exact h
      · rename_i hno
        obtain ⟨k, u, rfl, hx⟩ := hasG_yes (G := G) (id := id) (by simpa using hh)
        have hk0 : k ≠ 0 := by omega
        rw [Int.toNat_natCast]
        refine ⟨by simp [h.len], ?_, fun j v hj => ?_⟩
        · obtain ⟨u, hu⟩ := h.root
          exact ⟨u, by rw [List.getElem?_set_ne hk0]; exact hu⟩
        · have e : j ≠ k := by
            rintro rfl
            rw [List.getElem?_set_self (List.getElem?_eq_some_iff.1 hx).1] at hj
            simp at hj
          rw [List.getElem?_set_ne (Ne.symm e)] at hj
          obtain ⟨l, h1, h2⟩ := h.all j v hj
          exact ⟨l, h1.drop hk0 (by simpa using hno) e, h2⟩

structure GAt (W w : World) (b : Nat) (G : List GR) : Prop where
  is : IsG w b G
  wf : WfG G
  nb : W.heap.size ≤ b
  fr : Below W.heap.size W w
theorem GAt.below {W w w' : World} {b : Nat} {G : List GR} (h : GAt W w b G) (hb : Below w.heap.size w w') : GAt W w' b G := ⟨h.is.below hb, h.wf, h.nb, h.fr.trans (hb.mono h.fr.size)⟩
theorem GAt.post {W w w' : World} {b : Nat} {G G' : List GR} (h : GAt W w b G) (hp : GPost b G' w w') (hw : WfG G') : GAt W w' b G' :=
  ⟨hp.1, hw, h.nb, h.fr.trans (hp.2.below (by rintro k rfl; exact h.nb) h.fr.size)⟩
theorem new_in {W w : World} (hW : Below W.heap.size W w) :
    Calls Try.prog 8 #[] w fun e w' => ∃ b, e = .returned (.pointer (some ⟨b, 0, none⟩)) ∧ GAt W w' b rootG ∧ w.heap.size ≤ b ∧ Below w.heap.size w w' := by
  refine (new_c w).mono ?_
  rintro e w' ⟨rfl, h1, h2⟩
  have := hW.size
  exact ⟨_, rfl, ⟨h1, WfG.root1, by omega, hW.trans (h2.mono this)⟩, Nat.le_refl _, h2⟩
theorem add_in {W w : World} {b : Nat} {G G' : List GR} {id x y : Int} (h : GAt W w b G) (e : addG G id = (x, y, G')) :
    Calls Try.prog 9 #[.pointer (some ⟨b, 0, none⟩), .int .i64 id] w fun e w' => e = .returned (.tuple #[.int .i64 x, .int .i64 y]) ∧ GAt W w' b G' ∧ Trip (fun k => k = b) w (fun k => k = b) w' := by
  have hw := h.wf.add id
  have := add_c b G id w h.is h.wf
  rw [e] at this hw
  refine this.mono ?_
  rintro e w' ⟨rfl, h1⟩
  exact ⟨rfl, h.post h1 hw, h1.2⟩
theorem remove_in {W w : World} {b : Nat} {G G' : List GR} {id y : Int} (h : GAt W w b G) (e : remG G id = (y, G')) :
    Calls Try.prog 10 #[.pointer (some ⟨b, 0, none⟩), .int .i64 id] w fun e w' => e = .returned (.int .i64 y) ∧ GAt W w' b G' ∧ Trip (fun k => k = b) w (fun k => k = b) w' := by
  have hw := h.wf.rem id
  have := remove_c b G id w h.is
  rw [e] at this hw
  refine this.mono ?_
  rintro e w' ⟨rfl, h1⟩
  exact ⟨rfl, h.post h1 hw, h1.2⟩
theorem up_in {W w : World} {b : Nat} {G : List GR} {id x : Int} {c : Bool} (h : GAt W w b G) (e : upG G id = (x, c)) :
    Calls Try.prog 11 #[.pointer (some ⟨b, 0, none⟩), .int .i64 id] w fun e w' => e = .returned (.tuple #[.int .i64 x, .bool c]) ∧ w = w' := by
  have := up_c b G id w h.is
  rw [e] at this
  exact this
theorem chain_in {W w : World} {b n : Nat} {G : List GR} {id : Int} {l : List Nat} (h : GAt W w b G) (e : chI G id = l) (hn : l.length = n) :
    Calls Try.prog 12 #[.pointer (some ⟨b, 0, none⟩), .int .i64 id] w fun e w' => ∃ A c, e = .returned (.slice A n c) ∧ IRow .i64 w' w'.heap.size A (ints64 l) ∧ GAt W w' b G ∧ Below w.heap.size w w' := by
  refine (chain_c b G id w h.is h.wf).mono ?_
  rintro e w' ⟨v, rfl, h1, h2⟩
  rw [e] at h1
  obtain ⟨A, c, g1, _, _, g4⟩ := h1.form
  exact ⟨A, c, by rw [g1, ints64_length, hn], g4, h.below h2, h2⟩
theorem all_in {W w : World} {b n : Nat} {G : List GR} {l : List Nat} (h : GAt W w b G) (e : numsL G true = l) (hn : l.length = n) :
    Calls Try.prog 15 #[.pointer (some ⟨b, 0, none⟩)] w fun e w' => ∃ A c, e = .returned (.slice A n c) ∧ IRow .i64 w' w'.heap.size A (ints64 l) ∧ GAt W w' b G ∧ Below w.heap.size w w' := by
  refine (all_c b G w h.is).mono ?_
  rintro e w' ⟨v, rfl, h1, h2⟩
  rw [e] at h1
  obtain ⟨A, c, g1, _, _, g4⟩ := h1.form
  exact ⟨A, c, by rw [g1, ints64_length, hn], g4, h.below h2, h2⟩
theorem depth_in {W w : World} {b n : Nat} {G : List GR} {id : Int} (h : GAt W w b G) (hn : (chI G id).length = n) :
    Calls Try.prog 13 #[.pointer (some ⟨b, 0, none⟩), .int .i64 id] w fun e w' => e = .returned (.int .i64 n) ∧ GAt W w' b G ∧ Below w.heap.size w w' := by
  refine (depth_c b G id w h.is h.wf).mono ?_
  rintro e w' ⟨rfl, h2⟩
  exact ⟨by rw [hn], h.below h2, h2⟩
theorem under_in {W w : World} {b : Nat} {G : List GR} {id up : Int} {c : Bool} (h : GAt W w b G) (hn : underG G id up = c) :
    Calls Try.prog 14 #[.pointer (some ⟨b, 0, none⟩), .int .i64 id, .int .i64 up] w fun e w' => e = .returned (.bool c) ∧ GAt W w' b G ∧ Below w.heap.size w w' := by
  refine (under_c b G id up w h.is h.wf).mono ?_
  rintro e w' ⟨rfl, h2⟩
  exact ⟨by rw [hn], h.below h2, h2⟩
end Go.Proofs.Ytbhcooomdjhoiaa
