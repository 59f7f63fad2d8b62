/- slices.Delete of one thing of two cells; slices.Clone. -/
import Derived.Test.YtandmngfajoinaaGreatOb
namespace Go.Proofs.YtandmngfajoinaaGreat
open Go.RowKit

theorem zero_q (w : World) : (zeroValue 136).run Tryz.prog w = .ok (.agg #[.int .i64 0, .int .i64 0]) w := by kernel_rfl
theorem zero2 : (Builtin.zeroCells (Value.agg #[.int .i64 0, .int .i64 0]).cells 1).toList = [.int .i64 0, .int .i64 0] := by simp [Builtin.zeroCells, Value.cells, Array.range, Array.ofFn]; try rfl
theorem flat_erase (L : List QI) (k : Nat) : flatQ (L.eraseIdx k) = flatQ (L.take k) ++ flatQ (L.drop (k + 1)) := by
  rw [List.eraseIdx_eq_take_drop_succ, flatQ_append]

set_option maxRecDepth 100000 in
set_option maxHeartbeats 4000000 in
/-- slices.Delete(s, i, i+1). -/
theorem qdel_c (v : Value) (L : List QI) (i : Nat) (w : World) (h : QRow w 136 v L) (hi : i < L.length) (hL : L.length ≤ 1000000) :
    Calls Tryz.prog 99 #[v, .int .i64 i, .int .i64 ((i : Int) + 1)] w (InsPost v (L.eraseIdx i) w) := by
  obtain ⟨g, c, rfl, _⟩ := h.get (List.getElem?_eq_getElem hi)
  obtain ⟨cur, hg, hlc, hcm, hcs, htk⟩ : ∃ cur, w.heap[g]? = some (.cells cur 136 (0, 0)) ∧ L.length ≤ c ∧ c ≤ maxLen ∧ cur.size = c * 2 ∧ cur.toList.take (L.length * 2) = flatQ L := by
    rcases h.2 with ⟨h1, _⟩ | ⟨g', cap, cur, h1, _, h3, h4, h5, h6, h7⟩
    · cases h1
    · injection h1 with h8 h9 h10; injection h8 with h8; injection h8 with h8; subst h8 h10; exact ⟨cur, h3, h4, h5, h6, h7⟩
  obtain ⟨i0, hi0, hz0, hz1, hz2⟩ := info_parts info_q
  obtain ⟨m, hm⟩ : ∃ m, L.length = m + 1 := ⟨L.length - 1, by omega⟩
  have hflat : ∀ j u, (flatQ L)[j]? = some u → cur[j]? = some u := fun j u hj => by
    have hlt : j < (flatQ L).length := (List.getElem?_eq_some_iff.1 hj).1
    rw [← htk, List.getElem?_take, if_pos (by rw [flatQ_length] at hlt; exact hlt)] at hj
    simpa using hj
  have hdl : (flatQ (L.drop (i + 1))).length = (m - i) * 2 := by rw [flatQ_length, List.length_drop, hm]; congr 1; omega
  have hgw : g < w.heap.size := (Array.getElem?_eq_some_iff.1 hg).1
  obtain ⟨AD, hAD⟩ : ∃ AD, (if c = i + 1 then some (⟨g, 0, none⟩ : Addr) else some ⟨g, (i + 1) * 2, none⟩) = some AD := by split <;> exact ⟨_, rfl⟩
  have hsrc : ∀ j u, (flatQ (L.drop (i + 1)))[j]? = some u → w.cell? (AD.add j) = some u := fun j u hu => by
    by_cases hcc : c = i + 1
    · have h1 : L.drop (i + 1) = [] := List.drop_eq_nil_of_le (by omega)
      rw [h1] at hu
      simp [flatQ] at hu
    · rw [if_neg hcc] at hAD
      injection hAD with hAD
      subst hAD
      rw [addr_add]
      simp only [World.cell?, hg]
      rw [flatQ_drop, List.getElem?_drop] at hu
      exact hflat _ u hu
  obtain ⟨cur1, hcur1⟩ : ∃ cur1 : Array Value, cur1 = (cur.toList.take (i * i0.size) ++ flatQ (L.drop (i + 1)) ++ cur.toList.drop (i * i0.size + (flatQ (L.drop (i + 1))).length)).toArray := ⟨_, rfl⟩
  obtain ⟨W1, hW1⟩ : ∃ W1, W1 = w.drew.setRow g cur1 := ⟨_, rfl⟩
  have him : i + (m - i) = m := by omega
  have hap : ∀ ty sc, (Builtin.append_ #[147, 147] ty #[.slice (some ⟨g, 0, none⟩) i c, .slice (some AD) (m - i) sc]).run Tryz.prog w.drew = .ok (.slice (some ⟨g, 0, none⟩) m c) W1 := fun ty sc => by
    have h := run_append_room (P := Tryz.prog) w.drew 147 ty 136 i0 Tryz.underlying147 hi0 g i c cur hg AD (m - i) sc (flatQ (L.drop (i + 1))) (by rw [hdl, hz1]) hsrc (flatQ_one _) (by omega) (by rw [hdl, hz1, hcs]; omega)
    rw [him] at h
    rw [hW1, hcur1]
    exact h
  rw [hz1] at hcur1
  have hcl1 : cur1.size = c * 2 := by rw [hcur1]; simp [hdl]; omega
  have hg1 : W1.heap[g]? = some (.cells cur1 136 (0, 0)) := by rw [hW1]; exact setRow_heap _ g cur _ _ _ hg
  have hgr1 : w.grownBy W1 (some g) := by rw [hW1]; exact ⟨rfl, rfl, rfl, by simp [World.setRow], fun k _ hk => setRow_other w.drew g k _ (fun e => hk (by rw [e]))⟩
  have hzc : (Builtin.zeroCells (Value.agg #[.int .i64 0, .int .i64 0]).cells 1).toList = [.int .i64 0, .int .i64 0] := zero2
  obtain ⟨cur2, hcur2⟩ : ∃ cur2 : Array Value, cur2 = (cur1.toList.take (m * 2) ++ (Builtin.zeroCells (Value.agg #[.int .i64 0, .int .i64 0]).cells 1).toList ++ cur1.toList.drop (m * 2 + (Builtin.zeroCells (Value.agg #[.int .i64 0, .int .i64 0]).cells 1).toList.length)).toArray := ⟨_, rfl⟩
  obtain ⟨W2, hW2⟩ : ∃ W2, W2 = W1.setRow g cur2 := ⟨_, rfl⟩
  have hclr : ∀ ty dc, (Builtin.clear_ #[147] ty #[.slice (some ⟨g, m * 2, none⟩) 1 dc]).run Tryz.prog W1 = .ok (.tuple #[]) W2 := fun ty dc => by
    rw [hW2, hcur2]
    exact run_clear_rowN W1 147 136 ty (.agg #[.int .i64 0, .int .i64 0]) Tryz.underlying147 zero_q g (m * 2) 1 dc cur1 136 hg1 (by omega) (by rw [hcl1]; show m * 2 + 1 * 2 ≤ _; omega) (by rw [hzc]; intro u hu; simp at hu; subst hu; rfl)
  rw [hzc] at hcur2
  have hcl2 : cur2.size = c * 2 := by rw [hcur2]; simp [hcl1]; omega
  have hg2 : W2.heap[g]? = some (.cells cur2 136 (0, 0)) := by rw [hW2]; exact setRow_heap _ g cur1 _ _ _ hg1
  have hgr2 : w.grownBy W2 (some g) := by
    rw [hW2]
    exact ⟨hgr1.os, hgr1.tape, hgr1.output, by simpa [World.setRow] using hgr1.size, fun k hk hne => (setRow_other W1 g k _ (fun e => hne (by rw [e]))).trans (hgr1.block k hk hne)⟩
  have htk2 : cur2.toList.take (m * 2) = flatQ (L.eraseIdx i) := by
    have l1 : cur1.toList.length = c * 2 := by rw [Array.length_toList, hcl1]
    have e1 : flatQ (L.take i) = cur.toList.take (i * 2) := by rw [flatQ_take, ← htk, List.take_take]; congr 1; omega
    rw [hcur2, flat_erase, e1]
    simp only
    rw [List.append_assoc, List.take_append_of_le_length (by rw [List.length_take, l1]; omega), List.take_take, Nat.min_self, hcur1]
    simp only
    rw [List.take_left' (by rw [List.length_append, List.length_take, Array.length_toList, hcs, hdl]; omega)]
  have hle : (L.eraseIdx i).length = m := by rw [List.length_eraseIdx, if_pos hi, hm]; omega
  have POST : Hid (InsPost (.slice (some ⟨g, 0, none⟩) (m + 1) c) (L.eraseIdx i) w (.returned (.slice (some ⟨g, 0, none⟩) m c)) W2) :=
    Lib.hid ⟨_, rfl, QRow.mk hg2 hle (by omega) hcm hcl2 htk2, hgr2, fun g' h' => .inl h'⟩
  unfold maxLen at hcm
  rw [hm] at hi hlc hL ⊢
  have hin : i ≤ m := by omega
  have hci : (i : Int) + 1 ≤ (m : Int) + 1 := by omega
  have hcj : (m : Int) + 1 ≤ (c : Int) := by omega
  have hcm' : ¬ (c = m) := by omega
  have hne : ¬ ((i : Int) = (i : Int) + 1) := by omega
  have hb1 : (0 : Int) ≤ (i : Int) + 1 := by omega
  have htn : ((i : Int) + 1).toNat = i + 1 := by omega
  have hmc : m + 1 ≤ c := by omega
  have hic : i + 1 ≤ c := by omega
  have hic0 : i ≤ c := by omega
  clear h hg hcs htk hgw hdl hcur1 hcl1 hg1 hgr1 hcur2 hW2 hg2 hgr2 hcl2 htk2 hm hsrc hflat him hzc hle hz0 hz1 hz2 hi0 hW1
  go_enter Tryz.func99, Tryz.ntmps99
  go_wp2
  go_region_law (refine step_appN rfl _ _ 147 147 rfl (hap _ (c - (i + 1))) (by simp [Act.eval, Act.put]) (by simp [Act.eval, Act.put]) ?_)
  all_goals
    go_wp2_with (at_builtin; refine wpList_clearN rfl _ 147 rfl (hclr _ _) rfl ?_)
    go_ret
    exact POST.out
end Go.Proofs.YtandmngfajoinaaGreat
