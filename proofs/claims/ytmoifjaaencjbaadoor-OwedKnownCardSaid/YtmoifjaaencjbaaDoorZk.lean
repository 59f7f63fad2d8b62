/- Forms: slices.Grow, slices.Concat. -/
import Derived.Test.YtmoifjaaencjbaaDoorZc
import Derived.Lib.AppendZeros
import Derived.Laws.AppendOwn
import Derived.Laws.AppendOwnNone
namespace Go.Proofs.YtmoifjaaencjbaaDoor
open Go.RowKit

theorem info_it : (Tryd.prog.info? 27).map (fun i => (i.zero, i.size, i.bytes)) = some (some (.agg #[.int .i64 0, .int .i64 0, .int .i64 0]), 3, 24) := by kernel_rfl

/-- A row of the call's own. -/
def OwnR (w : World) (base : Nat) (v : Value) (l : List RI) : Prop := w.ownsRow base 27 3 v l.length (flatR l)
theorem OwnR.row {w : World} {base : Nat} {v : Value} {l : List RI} (h : OwnR w base v l) : ∃ A c, v = .slice A l.length c ∧ l.length ≤ c ∧ c ≤ maxLen ∧ TRow w A l ∧ (A = none → c = 0) := by
  rcases h.2 with ⟨h1, h2⟩ | ⟨g, cap, cur, h1, h2, h3, h4, h5, h6⟩
  · have : l = [] := List.eq_nil_of_length_eq_zero h2
    subst this
    exact ⟨none, 0, h1, Nat.le_refl _, Nat.zero_le _, TRow.nil, fun _ => rfl⟩
  · subst h1
    exact ⟨some ⟨g, 0, none⟩, cap, rfl, h4, h5, TRow.of_own h, fun e => by cases e⟩

/-- A value that is a slice of items. -/
def PartAt (w : World) (v : Value) (l : List RI) : Prop := ∃ A c, v = .slice A l.length c ∧ TRow w A l ∧ (A = none → c = 0)
theorem TRow.none_nil {w : World} {l : List RI} (h : TRow w none l) : l = [] := by
  cases l with
  | nil => rfl
  | cons x xs => obtain ⟨ad, e, _⟩ := h 0 x rfl; cases e
theorem TRow.flat {w : World} {ad : Addr} {l : List RI} (h : TRow w (some ad) l) : ∀ j u, (flatR l)[j]? = some u → w.cell? (ad.add j) = some u := by
  intro j u hj
  have hlt : j < (flatR l).length := (List.getElem?_eq_some_iff.1 hj).1
  rw [flatR_length] at hlt
  obtain ⟨x, hx⟩ : ∃ x, l[j / 3]? = some x := ⟨_, List.getElem?_eq_getElem (by omega)⟩
  obtain ⟨ad', e, h0, h1, h2⟩ := h _ _ hx
  obtain rfl := Option.some.inj e
  have hm : j % 3 < 3 := Nat.mod_lt _ (by omega)
  have hj2 : j / 3 * 3 + j % 3 = j := by omega
  have hf := flatR_get hx (j % 3) hm
  rw [hj2, hj] at hf
  rcases (show j % 3 = 0 ∨ j % 3 = 1 ∨ j % 3 = 2 by omega) with e | e | e
  · rw [e] at hf hj2; rw [← hj2, Nat.add_zero, h0]; simpa [encR] using hf.symm
  · rw [e] at hf hj2; rw [← hj2, h1]; simpa [encR] using hf.symm
  · rw [e] at hf hj2; rw [← hj2, h2]; simpa [encR] using hf.symm

/-- 'v = append(v, xs...)', v the call's own, xs nil or not. -/
theorem wpList_app3 {ops : Array Oper} {rest : List Oper} {o : Oper} {a : Act} {Q : Exit → Act → World → Prop} {w : World} (hgd : o.guard = none) (s x : Operand)
    (ho : o.op = .call { callee := .builtin .append, args := #[s, x], argTypes := #[23, 23] })
    (base : Nat) (v : Value) (l : List RI) (hs : a.eval s = v) (hown : OwnR w base v l) (u : Value) (l2 : List RI) (hx : a.eval x = u) (hr : PartAt w u l2) (hlen : l.length + l2.length ≤ 1000000) (hbase : base ≤ w.heap.size)
    (h : ∀ v' w', OwnR w' base v' (l ++ l2) → Below base w w' → wpList Tryd.prog ops Q rest (a.put o.dst v') w') : wpList Tryd.prog ops Q (o :: rest) a w := by
  obtain ⟨i0, hi, hz0, hz1, hz2⟩ := info_parts info_it
  obtain ⟨A, c, rfl, hr, hz⟩ := hr
  cases A with
  | none =>
    obtain rfl := hz rfl
    obtain rfl := hr.none_nil
    refine wpList_append_own_none hgd s x _ ho base 27 i0 3 Tryd.underlying23 hi v l.length (flatR l) hs hown hx ?_
    exact h v w (by rw [List.append_nil]; exact hown) (Below.refl _ _)
  | some ad =>
    refine wpList_append_own _ hgd s x _ ho base 27 i0 _ 3 24 Tryd.underlying23 hi hz0 hz1 hz2 rfl (by decide) v l.length (flatR l) hs hown ad l2.length c (flatR l2) hx (flatR_length l2) hr.flat (flatR_one l2) (by unfold maxLen; omega) (by omega) hbase ?_
    intro v' w' h1 h2 _
    refine h v' w' ?_ ?_
    · unfold OwnR
      rw [List.length_append, flatR_append]
      exact h1
    · exact (Below.refl base w).grown h2 hbase (fun g hg => (World.ownsRow.lt hown g hg).1)

def OwnRet (base : Nat) (l : List RI) (w : World) (e : Ending) (w' : World) : Prop := ∃ v, e = .returned v ∧ OwnR w' base v l ∧ Below w.heap.size w w'
set_option maxRecDepth 100000 in
set_option maxHeartbeats 2000000 in
theorem grow_c (n : Nat) (w : World) (hn : n ≤ 1000000) : Calls Tryd.prog 33 #[.slice none 0 0, .int .i64 n] w (OwnRet w.heap.size [] w) := by
  obtain ⟨i0, hi, hz0, hz1, hz2⟩ := info_parts info_it
  by_cases h0 : n = 0
  · subst h0
    clear hi hz0 hz1 hz2
    go_enter Tryd.func33, Tryd.ntmps33
    go_wp2_with fail
    go_ret
    exact ⟨_, rfl, World.ownsRow_nil _ _ _ _, Below.refl _ _⟩
  · have hrz : ∀ ty, (Builtin.append_ #[23, 3] ty #[.slice none 0 0, .int .i64 n]).run Tryd.prog w = .ok _ _ := fun ty =>
      Lib.run_append_nil_zeros w 23 3 ty 27 i0 _ .i64 .i64 Tryd.underlying23 Tryd.underlying3 hi hz0 n (by omega) (by omega) (by omega) (by rw [hz2]; omega)
    obtain ⟨G, hG⟩ : ∃ G, grownCap w n 0 27 = G := ⟨_, rfl⟩
    have hGn : n ≤ G := by rw [← hG]; exact grownCap_ge w _ _ _
    have hGm : G ≤ maxLen := by rw [← hG]; exact grownCap_le_maxLen w _ 0 _ (by unfold maxLen; omega)
    obtain ⟨ROW, hROW⟩ : ∃ ROW : Array Value, Builtin.zeroCells (Value.agg #[.int .i64 0, .int .i64 0, .int .i64 0]).cells n ++ Builtin.zeroCells (Value.agg #[.int .i64 0, .int .i64 0, .int .i64 0]).cells (G - n) = ROW := ⟨_, rfl⟩
    have hRs : ROW.size = G * 3 := by
      rw [← hROW, Array.size_append, size_zeroCells, size_zeroCells]
      show n * 3 + (G - n) * 3 = _
      omega
    rw [hG, hROW] at hrz
    have HZ := Lib.hid hrz
    have HO : Hid (OwnR (w.drew.alloc (.cells ROW 27)) w.heap.size (.slice (some ⟨w.heap.size, 0, none⟩) 0 G) []) := Lib.hid ⟨rfl, .inr ⟨w.heap.size, G, ROW, rfl, Nat.le_refl _, heap_alloc_new w.drew _, Nat.zero_le _, hGm, hRs, by simp [flatR]⟩⟩
    have HB : Hid (Below w.heap.size w (w.drew.alloc (.cells ROW 27))) := Lib.hid ((Below.refl _ w).drew.alloc (Nat.le_refl _) _)
    have hpos : (0 : Int) < (n : Int) := by omega
    clear hrz hG hROW hRs hi hz0 hz1 hz2
    unfold maxLen at hGm
    go_enter Tryd.func33, Tryd.ntmps33
    go_wp2_with (at_builtin; refine Lib.wpList_append_run _ rfl _ _ _ _ rfl _ _ rfl rfl _ _ (HZ.out _) ?_)
    go_ret
    exact ⟨_, rfl, HO.out, HB.out⟩

/-- All parts, one behind the other. -/
def catL (ps : List (Value × List RI)) : List RI := (ps.map (·.2)).flatten
theorem catL_next {ps : List (Value × List RI)} {k : Nat} {p : Value × List RI} (h : ps[k]? = some p) : catL (ps.take (k + 1)) = catL (ps.take k) ++ p.2 := by
  obtain ⟨a1, a2⟩ := List.getElem?_eq_some_iff.1 h
  unfold catL
  rw [List.take_succ_eq_append_getElem a1, a2]
  simp
theorem catL_le (ps : List (Value × List RI)) (k : Nat) : (catL (ps.take k)).length ≤ (catL ps).length := by
  have h : catL ps = catL (ps.take k) ++ catL (ps.drop k) := by
    unfold catL
    rw [← List.flatten_append, ← List.map_append, List.take_append_drop]
  rw [h, List.length_append]
  omega

set_option maxRecDepth 100000 in
set_option maxHeartbeats 4000000 in
theorem concat_c (g m c : Nat) (ps : List (Value × List RI)) (w : World) (hm : ps.length = m) (hm2 : m ≤ 1000) (hl : (catL ps).length ≤ 100000) (hg : g < w.heap.size)
    (hc : ∀ j p, ps[j]? = some p → w.cell? ⟨g, j, none⟩ = some p.1 ∧ PartAt w p.1 p.2) :
    Calls Tryd.prog 20 #[.slice (some ⟨g, 0, none⟩) m c] w (OwnRet w.heap.size (catL ps) w) := by
  have HC := Lib.hid hc
  have HM := Lib.hid hm
  have HL := Lib.hid hl
  clear hc hm hl
  go_enter Tryd.func20, Tryd.ntmps20
  go_wp2_with fail
  go_loop [3, 11] (fun sz i => ∃ k N : Nat, i = .int .i64 k ∧ k ≤ m ∧ sz = .int .i64 N ∧ (catL (ps.take k)).length = N) (fun _ i => m - (intOf i).toNat)
  case atStart => exact ⟨0, 0, rfl, Nat.zero_le _, rfl, rfl⟩
  case round =>
    obtain ⟨k, N, rfl, hk, rfl, hN⟩ := hrel
    have HN := Lib.hid hN
    have hNl : N ≤ 100000 := by rw [← hN]; exact Nat.le_trans (catL_le ps k) HL.out
    clear hN
    by_cases hlt : k < m
    · obtain ⟨p, hx⟩ : ∃ p, ps[k]? = some p := ⟨_, List.getElem?_eq_getElem (by rw [HM.out]; exact hlt)⟩
      obtain ⟨hp1, A, cc, hp2, hp3, hp4⟩ := HC.out k p hx
      obtain ⟨q, hq⟩ : ∃ q, p.2.length = q := ⟨_, rfl⟩
      have HNX : Hid ((catL (ps.take (k + 1))).length = N + q) := Lib.hid (by rw [catL_next hx, List.length_append, HN.out, hq])
      have hNq : N + q ≤ 100000 := by rw [← HNX.out]; exact Nat.le_trans (catL_le ps (k + 1)) HL.out
      rw [hp2, hq] at hp1
      clear hx hp2 hp3 hp4 hq
      have hlt' : (k : Int) < (m : Int) := by omega
      go_wp2_with fail
      go_round
      case rel => exact ⟨k + 1, N + q, by go_num, by omega, by simp, HNX.out⟩
      case measure => simp [intOf]; omega
    · obtain rfl : k = m := by omega
      have KG := Lib.hid (grow_c N w (by omega))
      clear HN
      go_wp2_with fail
      refine KG.out.mono ?_
      rintro e w1 ⟨v0, rfl, ho, hb⟩
      have HO := Lib.hid ho
      have HB := Lib.hid hb
      clear ho hb KG
      go_wp2_with fail
      go_loopw [6, 27] (fun t i wr => ∃ (j : Nat) (v : Value), i = .int .i64 j ∧ j ≤ k ∧ t = v ∧ OwnR wr w.heap.size v (catL (ps.take j)) ∧ Below w.heap.size w wr) (fun _ i _ => k - (intOf i).toNat)
      case atStart => exact ⟨0, v0, rfl, Nat.zero_le _, rfl, HO.out, HB.out⟩
      case round =>
        obtain ⟨j, v, rfl, hj, hv, ho, hb⟩ := hrel
        replace hv := hv.symm
        subst hv
        have HO1 := Lib.hid ho
        have HB1 := Lib.hid hb
        clear ho hb HO HB
        by_cases hlt2 : j < k
        · obtain ⟨p, hx⟩ : ∃ p, ps[j]? = some p := ⟨_, List.getElem?_eq_getElem (by rw [HM.out]; exact hlt2)⟩
          obtain ⟨hp1, A, cc, hp2, hp3, hp4⟩ := HC.out j p hx
          have hp1' := (HB1.out.cell (p := ⟨g, j, none⟩) hg).trans hp1
          have HP : Hid (PartAt wr p.1 p.2) := Lib.hid ⟨A, cc, hp2, hp3.below HB1.out (Nat.le_refl _), hp4⟩
          have HNX := Lib.hid (catL_next hx)
          have hle : (catL (ps.take j)).length + p.2.length ≤ 100000 := by
            have := Nat.le_trans (catL_le ps (j + 1)) HL.out
            rw [HNX.out, List.length_append] at this
            exact this
          have HLE : Hid ((catL (ps.take j)).length + p.2.length ≤ 1000000) := Lib.hid (by omega)
          have hsz := HB1.out.size
          have hlt2' : (j : Int) < (k : Int) := by omega
          obtain ⟨pv, pl⟩ := p
          simp only at hp1' HP HNX HLE
          clear hp1 hp2 hp3 hp4 hx hle
          go_wp2_with (at_builtin; refine wpList_app3 rfl _ _ rfl w.heap.size _ (catL (ps.take j)) rfl HO1.out pv pl rfl HP.out HLE.out hsz ?_; intro v' w2 ho2 hb2)
          go_roundw
          case rel => exact ⟨j + 1, v', by go_num, by omega, rfl, by rw [HNX.out]; exact ho2, HB1.out.trans hb2⟩
          case measure => simp [intOf]; omega
        · obtain rfl : j = k := by omega
          have HF : Hid (OwnR wr w.heap.size v (catL ps)) := Lib.hid (by have h := HO1.out; rw [List.take_of_length_le (by rw [HM.out]; exact Nat.le_refl _)] at h; exact h)
          go_wp2_with fail
          go_ret
          exact ⟨_, rfl, HF.out, HB1.out⟩
end Go.Proofs.YtmoifjaaencjbaaDoor
