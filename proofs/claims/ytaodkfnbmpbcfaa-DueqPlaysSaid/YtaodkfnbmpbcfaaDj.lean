/- Queues of deadlines in a law, beside boxes that the law keeps. -/
import Derived.Test.YtaodkfnbmpbcfaaDi
import Derived.Test.YtaodkfnbmpbcfaaQc
import Derived.BigQuiet
namespace Go.Proofs.Ytaodkfnbmpbcfaa
open Go.RowKit

/-- A queue of deadlines; the boxes l hold what they say; the blocks G are none of its either. -/
def DB (W w : World) (d : Nat) (most : Int) (S : Nat) (T : List RI) (l : List (Nat × RI)) (G : Nat → Prop) : Prop :=
  DIn W w d most S T (fun k => (∃ p ∈ l, p.1 = k) ∨ G k) ∧ ∀ p ∈ l, w.heap[p.1]? = some (.cells (encR p.2).toArray 63 (0, 0))
theorem DB.of {W w : World} {d : Nat} {most : Int} {S : Nat} {T : List RI} {G : Nat → Prop} (h : DIn W w d most S T G) : DB W w d most S T [] G :=
  ⟨h.more (Below.refl _ w) (fun k hk => .inl (by rcases hk with ⟨p, hp, _⟩ | h; cases hp; exact h)), by simp⟩
theorem DB.same {W w w' : World} {d : Nat} {most : Int} {S S' : Nat} {T T' : List RI} {l : List (Nat × RI)} {G : Nat → Prop} (h : DB W w d most S T l G) (hd : DIn W w' d most S' T' (fun k => (∃ p ∈ l, p.1 = k) ∨ G k)) (hk : ∀ k, ((∃ p ∈ l, p.1 = k) ∨ G k) → w'.heap[k]? = w.heap[k]?) :
    DB W w' d most S' T' l G ∧ ∀ k, G k → w'.heap[k]? = w.heap[k]? := ⟨⟨hd, fun p hp => (hk p.1 (.inl ⟨p, hp, rfl⟩)).trans (h.2 p hp)⟩, fun k hG => hk k (.inr hG)⟩
theorem DB.below {W w w' : World} {d : Nat} {most : Int} {S : Nat} {T : List RI} {l : List (Nat × RI)} {G : Nat → Prop} (h : DB W w d most S T l G) (hb : Below w.heap.size w w') : DB W w' d most S T l G :=
  ⟨h.1.below hb, fun p hp => (hb.block p.1 (Array.getElem?_eq_some_iff.1 (h.2 p hp)).1).trans (h.2 p hp)⟩
theorem DB.more {W w w' : World} {d : Nat} {most : Int} {S : Nat} {T : List RI} {l : List (Nat × RI)} {G G' : Nat → Prop} (h : DB W w d most S T l G) (hb : Below w.heap.size w w') (hG : ∀ k, G' k → G k ∨ (w.heap.size ≤ k ∧ k < w'.heap.size)) : DB W w' d most S T l G' :=
  ⟨h.1.more hb (fun k hk => by
    rcases hk with h1 | h1
    · exact .inl (.inl h1)
    · exact (hG k h1).imp .inr id), (h.below hb).2⟩
/-- A new box. -/
theorem DB.push {W w : World} {d : Nat} {most : Int} {S : Nat} {T : List RI} {l : List (Nat × RI)} {G : Nat → Prop} (h : DB W w d most S T l G) (r : RI) : DB W (w.alloc (.cells #[.int .i64 r.1, .int .i64 r.2.1, .int .i64 r.2.2] 63)) d most S T ((w.heap.size, r) :: l) G := by
  have hb : Below w.heap.size w (w.alloc (.cells #[.int .i64 r.1, .int .i64 r.2.1, .int .i64 r.2.2] 63)) := (Below.refl _ w).alloc (Nat.le_refl _) _
  refine ⟨h.1.more hb (fun k hk => ?_), fun p hp => ?_⟩
  · rcases hk with ⟨p, hp, rfl⟩ | hk
    · rcases List.mem_cons.1 hp with rfl | hp
      · exact .inr ⟨Nat.le_refl _, by simp⟩
      · exact .inl (.inl ⟨p, hp, rfl⟩)
    · exact .inl (.inr hk)
  · rcases List.mem_cons.1 hp with rfl | hp
    · exact World.alloc_heap_new _ _
    · exact (h.below hb).2 p hp
theorem DB.box {W w : World} {d : Nat} {most : Int} {S : Nat} {T : List RI} {l : List (Nat × RI)} {G : Nat → Prop} (h : DB W w d most S T l G) {b : Nat} {r : RI} (hp : (b, r) ∈ l) :
    w.cell? ⟨b, 0, none⟩ = some (.int .i64 r.1) ∧ w.cell? ⟨b, 1, none⟩ = some (.int .i64 r.2.1) ∧ w.cell? ⟨b, 2, none⟩ = some (.int .i64 r.2.2) := by
  have := h.2 _ hp
  exact ⟨by simp [World.cell?, this, encR], by simp [World.cell?, this, encR], by simp [World.cell?, this, encR]⟩
theorem DB.frame {W w : World} {d : Nat} {most : Int} {S : Nat} {T : List RI} {l : List (Nat × RI)} {G : Nat → Prop} (h : DB W w d most S T l G) : Below W.heap.size W w := h.1.frame

theorem dput_b {W w : World} {d : Nat} {most : Int} {S : Nat} {T : List RI} {l : List (Nat × RI)} {G : Nat → Prop} (r : RI) (h : DB W w d most S T l G) (h0 : wf64 r.1) (h1 : wf64 r.2.1) (h2 : wf64 r.2.2) (hL : T.length ≤ 1000000) (hS : S ≤ 1000000000) :
    Calls Try.prog 22 #[.pointer (some ⟨d, 0, none⟩), .int .i64 r.1, .int .i64 r.2.1, .int .i64 r.2.2] w fun e w' => e = .returned (.int .i64 (putT most T r).1) ∧ DB W w' d most (S + 21) (putT most T r).2 l G ∧ ∀ k, G k → w'.heap[k]? = w.heap[k]? := by
  refine (dput_in r h.1 h0 h1 h2 hL hS).mono ?_
  rintro e w' ⟨rfl, g1, g2⟩
  exact ⟨rfl, h.same g1 g2⟩
theorem ddrop_b {W w : World} {d : Nat} {most : Int} {S : Nat} {T : List RI} {l : List (Nat × RI)} {G : Nat → Prop} {r : RI} {i : Nat} (h : DB W w d most S T l G) (hi : T[i]? = some r) (hL : T.length ≤ 1000000) (hS : S ≤ 1000000000) :
    Calls Try.prog 23 #[.pointer (some ⟨d, 0, none⟩), .int .i64 r.2.2] w fun e w' => e = .returned (.tuple #[.agg (encR r).toArray, .bool true]) ∧ DB W w' d most (S + 21) (T.eraseIdx i) l G ∧ ∀ k, G k → w'.heap[k]? = w.heap[k]? := by
  refine (ddrop_in h.1 hi hL hS).mono ?_
  rintro e w' ⟨rfl, g1, g2⟩
  exact ⟨rfl, h.same g1 g2⟩
theorem dset_b {W w : World} {d : Nat} {most : Int} {S : Nat} {T : List RI} {l : List (Nat × RI)} {G : Nat → Prop} {r0 : RI} {i : Nat} (r : RI) (h : DB W w d most S T l G) (hi : T[i]? = some r0) (he : r0.2.2 = r.2.2) (h0 : wf64 r.1) (h1 : wf64 r.2.1) (hL : T.length ≤ 1000000) (hS : S ≤ 1000000000) :
    Calls Try.prog 24 #[.pointer (some ⟨d, 0, none⟩), .int .i64 r.2.2, .int .i64 r.1, .int .i64 r.2.1] w fun e w' => e = .returned (.bool true) ∧ DB W w' d most (S + 42) (setT T i r) l G ∧ ∀ k, G k → w'.heap[k]? = w.heap[k]? := by
  refine (dset_in r h.1 hi he h0 h1 hL hS).mono ?_
  rintro e w' ⟨rfl, g1, g2⟩
  exact ⟨rfl, h.same g1 g2⟩

/-- The slice v holds the things T. -/
def DRow (w : World) (v : Value) (T : List RI) : Prop := w.ownsRow 0 63 3 v T.length (flatR T)
theorem DRow.keep {w w' : World} {v : Value} {l : List RI} (h : DRow w v l) (hs : ∀ g, v.ownBlock = some g → w'.heap[g]? = w.heap[g]?) : DRow w' v l := own_keep h hs
theorem DRow.lt {w : World} {v : Value} {l : List RI} (h : DRow w v l) {g : Nat} (hg : v.ownBlock = some g) : g < w.heap.size := (World.ownsRow.lt h g hg).2
theorem DRow.form {w : World} {v : Value} {l : List RI} (h : DRow w v l) : ∃ A c, v = .slice A l.length c := by
  rcases h.2 with ⟨h1, h2⟩ | ⟨g, cap, cur, h1, _⟩
  · exact ⟨none, 0, by rw [h1, h2]⟩
  · exact ⟨_, _, h1⟩
theorem DRow.get {w : World} {v : Value} {l : List RI} (h : DRow w v l) {j : Nat} {x : RI} (hj : l[j]? = some x) :
    ∃ g c, v = .slice (some ⟨g, 0, none⟩) l.length c ∧ w.cell? ⟨g, j * 3, none⟩ = some (.int .i64 x.1) ∧ w.cell? ⟨g, j * 3 + 1, none⟩ = some (.int .i64 x.2.1) ∧ w.cell? ⟨g, j * 3 + 2, none⟩ = some (.int .i64 x.2.2) := by
  have hlt : j < l.length := (List.getElem?_eq_some_iff.1 hj).1
  rcases h.2 with ⟨h1, h2⟩ | ⟨g, cap, cur, h1, h2, h3, h4, _⟩
  · omega
  · have hc := World.ownsRow.cells h (g := g) (by rw [h1]; rfl)
    have ha : ∀ i, (⟨g, 0, none⟩ : Addr).add i = ⟨g, i, none⟩ := fun i => by unfold Addr.add; split <;> simp_all
    refine ⟨g, cap, h1, ?_, ?_, ?_⟩
    · have := hc (j * 3 + 0) _ ((flatR_get hj 0 (by omega)).trans rfl); rwa [ha] at this
    · have := hc (j * 3 + 1) _ ((flatR_get hj 1 (by omega)).trans rfl); rwa [ha] at this
    · have := hc (j * 3 + 2) _ ((flatR_get hj 2 (by omega)).trans rfl); rwa [ha] at this

set_option maxRecDepth 100000 in
set_option maxHeartbeats 2000000 in
theorem same5_c (v vb : Value) (T : List RI) (w : World) (hv : DRow w v T) (hb : RSub w vb T) (hL : T.length ≤ 1000000) :
    Calls Try.prog 30 #[v, vb] w fun e w' => e = .returned (.bool true) ∧ ∃ n, w' = w.drewN n := by
  obtain ⟨A, c, rfl⟩ := hv.form
  obtain ⟨B, d, rfl, hc⟩ := hb
  obtain ⟨n, hn⟩ : ∃ n, T.length = n := ⟨_, rfl⟩
  have HV := Lib.hid hv
  have HC := Lib.hid hc
  have HN := Lib.hid hn
  rw [hn] at hL HV ⊢
  clear hv hc hn
  go_enter Try.func30, Try.ntmps30
  go_wp2_with fail
  go_loopw [5] (fun i wr => ∃ k nq : Nat, i = .int .i64 k ∧ k ≤ n ∧ wr = w.drewN nq) (fun i _ => n - (intOf i).toNat)
  case atStart => exact ⟨0, 0, rfl, Nat.zero_le _, rfl⟩
  case round =>
    obtain ⟨k, nq, rfl, hk, rfl⟩ := hrel
    by_cases hlt : k < n
    · have hkr : k < T.length := by rw [HN.out]; exact hlt
      obtain ⟨r, hr⟩ : ∃ r, T[k]? = some r := ⟨_, List.getElem?_eq_getElem hkr⟩
      obtain ⟨g1, c1, hv1, a0, a1, a2⟩ := HV.out.get hr
      obtain ⟨g2, o2, rfl, _, b0, b1, b2⟩ := HC.out k r hr
      injection hv1 with hv11 hv12 hv13
      subst hv11 hv13
      obtain ⟨x0, x1, x2⟩ := r
      simp only at a0 a1 a2 b0 b1 b2
      have a0' : (w.drewN nq).cell? ⟨g1, k * 3, none⟩ = some (.int .i64 x0) := a0
      have a1' : (w.drewN nq).cell? ⟨g1, k * 3 + 1, none⟩ = some (.int .i64 x1) := a1
      have a2' : (w.drewN nq).cell? ⟨g1, k * 3 + 2, none⟩ = some (.int .i64 x2) := a2
      have b0' : (w.drewN nq).cell? ⟨g2, o2 + k * 3, none⟩ = some (.int .i64 x0) := b0
      have b1' : (w.drewN nq).cell? ⟨g2, o2 + k * 3 + 1, none⟩ = some (.int .i64 x1) := b1
      have b2' : (w.drewN nq).cell? ⟨g2, o2 + k * 3 + 2, none⟩ = some (.int .i64 x2) := b2
      have hkm : (k : Int) < (n : Int) := by omega
      have e0 : (x0 != x0) = false := by simp
      have e1 : (x1 != x1) = false := by simp
      have e2 : (x2 != x2) = false := by simp
      clear hr hv12 hkr HV HC HN
      go_wp2_with fail
      go_big_quiet (fail)
      go_wp2_with fail
      go_roundw
      case rel => exact ⟨k + 1, _, by go_num, by omega, rfl⟩
      case measure => simp [intOf]; omega
    · obtain rfl : k = n := by omega
      go_wp2_with fail
      go_ret
      exact ⟨rfl, _, rfl⟩
end Go.Proofs.Ytaodkfnbmpbcfaa
