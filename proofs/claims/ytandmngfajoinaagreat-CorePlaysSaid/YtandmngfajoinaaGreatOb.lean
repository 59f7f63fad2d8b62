/- slices.Insert of one thing of two cells. -/
import Derived.Test.YtandmngfajoinaaGreatOa
import Derived.Test.YtandmngfajoinaaGreatChecked
import Derived.Lib.Overlaps
import Derived.Laws.Externs
import Derived.Deep.RegionLaw
import Derived.Shelf.RegionOpenPlain
namespace Go.Proofs.YtandmngfajoinaaGreat
open Go.RowKit

theorem info_q : (Tryz.prog.info? 136).map (fun i => (i.zero, i.size, i.bytes)) = some (some (.agg #[.int .i64 0, .int .i64 0]), 2, 16) := by kernel_rfl
theorem size_q (w : World) : (Go.sizeOf 136).run Tryz.prog w = .ok 2 w := by kernel_rfl
theorem addr_add (g o i : Nat) : (⟨g, o, none⟩ : Addr).add i = ⟨g, o + i, none⟩ := by unfold Addr.add; split <;> simp_all

/-- The list with x at place i. -/
def insAt (L : List QI) (i : Nat) (x : QI) : List QI := L.take i ++ x :: L.drop i
theorem insAt_length (L : List QI) (i : Nat) (x : QI) (hi : i ≤ L.length) : (insAt L i x).length = L.length + 1 := by simp [insAt]; omega
theorem flat_insAt (L : List QI) (i : Nat) (x : QI) : flatQ (insAt L i x) = flatQ (L.take i) ++ (encQ x ++ flatQ (L.drop i)) := by unfold insAt; rw [flatQ_append, flatQ]
theorem encQ_cells {w : World} {vb : Nat} {x : QI} {t : TypeId} (hx : w.heap[vb]? = some (.cells (encQ x).toArray t (0, 0))) : ∀ j u, (encQ x)[j]? = some u → w.cell? ((⟨vb, 0, none⟩ : Addr).add j) = some u := by
  intro j u hj
  rw [addr_add, Nat.zero_add]
  simp only [World.cell?, hx]
  simpa using hj
theorem encQ_one (x : QI) : ∀ u ∈ encQ x, u.oneCell' = true := by intro u hu; simp [encQ] at hu; rcases hu with rfl | rfl <;> rfl

/-- What Insert hands back. -/
def InsPost (v : Value) (L' : List QI) (w : World) (e : Ending) (w' : World) : Prop :=
  ∃ v', e = .returned v' ∧ QRow w' 136 v' L' ∧ w.grownBy w' v.ownBlock ∧ (∀ g, v'.ownBlock = some g → v.ownBlock = some g ∨ w.heap.size ≤ g)

set_option maxRecDepth 100000 in
set_option maxHeartbeats 1000000 in
/-- At the end. -/
theorem qins_end (v : Value) (L : List QI) (x : QI) (vb : Nat) (w : World) (h : QRow w 136 v L) (hL : L.length ≤ 1000000) (hx : w.heap[vb]? = some (.cells (encQ x).toArray 136 (0, 0))) :
    Calls Tryz.prog 97 #[v, .int .i64 L.length, .slice (some ⟨vb, 0, none⟩) 1 1] w (InsPost v (insAt L L.length x) w) := by
  obtain ⟨i0, hi, hz0, hz1, hz2⟩ := info_parts info_q
  have hcx := Lib.hid (encQ_cells hx)
  have H := Lib.hid h
  have hins : Hid (flatQ (insAt L L.length x) = flatQ L ++ encQ x ∧ (insAt L L.length x).length = L.length + 1) := Lib.hid ⟨by rw [flat_insAt, List.take_length, List.drop_length]; simp [flatQ], insAt_length _ _ _ (Nat.le_refl _)⟩
  obtain ⟨A, c, rfl, hc1, hc2⟩ := h.form
  obtain ⟨n, hn⟩ : ∃ n, L.length = n := ⟨_, rfl⟩
  have hnil : A = none → n = 0 ∧ c = 0 := fun e => by
    subst e
    rcases h.2 with ⟨h1, h2⟩ | ⟨g, cap, cur, h1, _⟩
    · injection h1 with _ h3 h4; exact ⟨by omega, h4⟩
    · cases h1
  have hA : ∀ ad, A = some ad → ∃ g, ad = ⟨g, 0, none⟩ := fun ad e => by
    subst e
    rcases h.2 with ⟨h1, h2⟩ | ⟨g, cap, cur, h1, _⟩
    · cases h1
    · injection h1 with h3; injection h3 with h3; exact ⟨g, h3⟩
  have HO : Hid (w.ownsRow 0 136 2 (.slice A n c) n (flatQ L)) := Lib.hid (by have := H.out; unfold QRow at this; rw [hn] at this; exact this)
  rw [hn] at hins hc1 hL ⊢
  have HN := Lib.hid hn
  unfold maxLen at hc2
  clear h hx hn H
  have fin : ∀ v' w', w'.ownsRow 0 136 2 v' (n + 1) (flatQ L ++ encQ x) → w.grownBy w' (Value.slice A n c).ownBlock → (∀ g, v'.ownBlock = some g → (Value.slice A n c).ownBlock = some g ∨ w.heap.size ≤ g) → InsPost (.slice A n c) (insAt L n x) w (.returned v') w' := fun v' w' h1 h2 h3 =>
    ⟨v', rfl, by unfold QRow; rw [hins.out.1, hins.out.2]; exact h1, h2, h3⟩
  have FIN := Lib.hid fin
  clear fin
  cases A with
  | none =>
    obtain ⟨rfl, rfl⟩ := hnil rfl
    clear hnil hA
    go_enter Tryz.func97, Tryz.ntmps97
    go_wp2_with (at_builtin; refine wpList_where _ rfl _ _ 147 rfl 0 136 i0 (.agg #[.int .i64 0, .int .i64 0]) 2 16 Tryz.underlying147 hi hz0 hz1 hz2 rfl (by decide) _ 0 (flatQ L) rfl HO.out ⟨vb, 0, none⟩ 1 1 (encQ x) rfl rfl hcx.out (encQ_one x) (by unfold maxLen; omega) (by omega) (Nat.zero_le _) ?_; intro v' w' h1 h2 h3; obtain ⟨g', cap', rfl⟩ := ownsRow_succ h1; have H1 := Lib.hid h1; have H2 := Lib.hid h2; have H3 := Lib.hid h3; clear h1 h2 h3)
    go_ret
    exact FIN.out _ _ H1.out H2.out H3.out
  | some ad =>
    obtain ⟨g, rfl⟩ := hA ad rfl
    clear hnil hA
    go_enter Tryz.func97, Tryz.ntmps97
    go_wp2_with (at_builtin; refine wpList_where _ rfl _ _ 147 rfl 0 136 i0 (.agg #[.int .i64 0, .int .i64 0]) 2 16 Tryz.underlying147 hi hz0 hz1 hz2 rfl (by decide) _ n (flatQ L) rfl HO.out ⟨vb, 0, none⟩ 1 1 (encQ x) rfl rfl hcx.out (encQ_one x) (by unfold maxLen; omega) (by omega) (Nat.zero_le _) ?_; intro v' w' h1 h2 h3; obtain ⟨g', cap', rfl⟩ := ownsRow_succ h1; have H1 := Lib.hid h1; have H2 := Lib.hid h2; have H3 := Lib.hid h3; clear h1 h2 h3)
    all_goals
      go_ret
      exact FIN.out _ _ H1.out H2.out H3.out

theorem shift_cells {α : Type} (cur D E R : List α) (k : Nat) (hk : k + E.length ≤ cur.length) : (cur.take (k + E.length) ++ D ++ R).take k ++ E ++ (cur.take (k + E.length) ++ D ++ R).drop (k + E.length) = cur.take k ++ (E ++ (D ++ R)) := by
  rw [List.append_assoc (cur.take _) D R, List.take_append_of_le_length (by rw [List.length_take]; omega), List.take_take, List.drop_left' (by rw [List.length_take]; omega), List.append_assoc]
  congr 2; omega
theorem take_parts {α : Type} (A E D R : List α) (n : Nat) (hn : n = A.length + E.length + D.length) : (A ++ (E ++ (D ++ R))).take n = A ++ (E ++ D) := by
  have e : A ++ (E ++ (D ++ R)) = (A ++ (E ++ D)) ++ R := by simp
  rw [e, List.take_left' (by simp; omega)]

set_option maxRecDepth 100000 in
set_option maxHeartbeats 4000000 in
/-- There is room: in place. -/
theorem qins_shift (g c i vb : Nat) (L : List QI) (x : QI) (w : World) (h : QRow w 136 (.slice (some ⟨g, 0, none⟩) L.length c) L) (hi : i < L.length) (hroom : L.length + 1 ≤ c) (hx : w.heap[vb]? = some (.cells (encQ x).toArray 136 (0, 0))) (hvb : vb ≠ g) :
    Calls Tryz.prog 97 #[.slice (some ⟨g, 0, none⟩) L.length c, .int .i64 i, .slice (some ⟨vb, 0, none⟩) 1 1] w (InsPost (.slice (some ⟨g, 0, none⟩) L.length c) (insAt L i x) w) := by
  obtain ⟨cur, hg, hcm, hcs, htk⟩ : ∃ cur, w.heap[g]? = some (.cells cur 136 (0, 0)) ∧ c ≤ maxLen ∧ cur.size = c * 2 ∧ cur.toList.take (L.length * 2) = flatQ L := by
    rcases h.2 with ⟨h1, _⟩ | ⟨g', cap, cur, h1, _, h3, _, h5, h6, h7⟩
    · cases h1
    · injection h1 with h8 h9 h10; injection h8 with h8; injection h8 with h8; subst h8 h10; exact ⟨cur, h3, h5, h6, h7⟩
  have hsz : (Tryz.prog.info? 136).map (·.size) = some 2 := by kernel_rfl
  have hgw : g < w.heap.size := (Array.getElem?_eq_some_iff.1 hg).1
  have hcells : ∀ j u, (flatQ (L.drop i))[j]? = some u → w.cell? ((⟨g, i * 2, none⟩ : Addr).add j) = some u := fun j u hj => by
    rw [addr_add]
    simp only [World.cell?, hg]
    rw [flatQ_drop, List.getElem?_drop] at hj
    have hlt : i * 2 + j < (flatQ L).length := (List.getElem?_eq_some_iff.1 hj).1
    rw [← htk, List.getElem?_take, if_pos (by rw [flatQ_length] at hlt; exact hlt)] at hj
    simpa using hj
  have hdl : (flatQ (L.drop i)).length = (L.length - i) * 2 := by rw [flatQ_length, List.length_drop]
  obtain ⟨cur1, hcur1⟩ : ∃ cur1 : Array Value, cur1 = (cur.toList.take ((i + 1) * 2) ++ flatQ (L.drop i) ++ cur.toList.drop ((i + 1) * 2 + (flatQ (L.drop i)).length)).toArray := ⟨_, rfl⟩
  obtain ⟨W1, hW1⟩ : ∃ W1, W1 = w.drew.setRow g cur1 := ⟨_, rfl⟩
  have hcp1 : ∀ ty dc sc, (Builtin.copy_ #[147, 147] ty #[.slice (some ⟨g, (i + 1) * 2, none⟩) (L.length - i) dc, .slice (some ⟨g, i * 2, none⟩) (L.length + 1 - i) sc]).run Tryz.prog w.drew = .ok (goInt (Nat.min (L.length + 1 - i) (L.length - i))) W1 := fun ty dc sc => by
    rw [hW1, hcur1]
    exact run_copy_rowN w.drew _ _ ty 136 2 g ((i + 1) * 2) (L.length - i) dc ⟨g, i * 2, none⟩ (L.length + 1 - i) sc cur 136 (flatQ (L.drop i)) Tryz.underlying147 hsz hg (by rw [hdl]; congr 1; show _ = min _ _; omega) hcells (by rw [hdl, hcs]; omega) (flatQ_one _)
  have hcl1 : cur1.size = c * 2 := by rw [hcur1]; simp [hdl]; omega
  have hg1 : W1.heap[g]? = some (.cells cur1 136 (0, 0)) := by rw [hW1]; exact setRow_heap _ g cur _ _ _ hg
  have hgr1 : w.grownBy W1 (some g) := by rw [hW1]; exact ⟨rfl, rfl, rfl, by simp [World.setRow], fun k _ hk => setRow_other w.drew g k _ (fun e => hk (by rw [e]))⟩
  have hx1 : W1.heap[vb]? = some (.cells (encQ x).toArray 136 (0, 0)) := (hgr1.block vb (Array.getElem?_eq_some_iff.1 hx).1 (fun e => hvb (by injection e))).trans hx
  obtain ⟨cur2, hcur2⟩ : ∃ cur2 : Array Value, cur2 = (cur1.toList.take (i * 2) ++ encQ x ++ cur1.toList.drop (i * 2 + (encQ x).length)).toArray := ⟨_, rfl⟩
  obtain ⟨W2, hW2⟩ : ∃ W2, W2 = W1.setRow g cur2 := ⟨_, rfl⟩
  have hmin : Nat.min 1 (L.length + 1 - i) = 1 := by show min _ _ = _; omega
  have hcp2 : ∀ ty dc, (Builtin.copy_ #[147, 147] ty #[.slice (some ⟨g, i * 2, none⟩) (L.length + 1 - i) dc, .slice (some ⟨vb, 0, none⟩) 1 1]).run Tryz.prog W1 = .ok (goInt (Nat.min 1 (L.length + 1 - i))) W2 := fun ty dc => by
    rw [hW2, hcur2]
    exact run_copy_rowN W1 _ _ ty 136 2 g (i * 2) (L.length + 1 - i) dc ⟨vb, 0, none⟩ 1 1 cur1 136 (encQ x) Tryz.underlying147 hsz hg1 (by rw [hmin]; rfl) (encQ_cells hx1) (by rw [hcl1]; simp [encQ]; omega) (encQ_one x)
  have hg2 : W2.heap[g]? = some (.cells cur2 136 (0, 0)) := by rw [hW2]; exact setRow_heap _ g cur1 _ _ _ hg1
  have hgr2 : w.grownBy W2 (some g) := by
    rw [hW2]
    exact ⟨hgr1.os, hgr1.tape, hgr1.output, by simpa [World.setRow] using hgr1.size, fun k hk hne => (setRow_other W1 g k _ (fun e => hne (by rw [e]))).trans (hgr1.block k hk hne)⟩
  have hcl2 : cur2.size = c * 2 := by rw [hcur2]; simp [hcl1, encQ]; omega
  have htk2 : cur2.toList.take ((L.length + 1) * 2) = flatQ (insAt L i x) := by
    rw [flat_insAt, hcur2, hcur1]
    have e1 : flatQ (L.take i) = cur.toList.take (i * 2) := by rw [flatQ_take, ← htk, List.take_take]; congr 1; omega
    rw [e1]
    have hcsl : cur.toList.length = c * 2 := by rw [Array.length_toList]; exact hcs
    simp only
    have e2 : (i + 1) * 2 = i * 2 + (encQ x).length := by simp [encQ]; omega
    rw [e2, shift_cells _ _ _ _ _ (by rw [hcsl, ← e2]; omega)]
    refine take_parts _ _ _ _ _ ?_
    rw [List.length_take, hdl, hcsl]
    have : (encQ x).length = 2 := rfl
    omega
  have hov : ∀ lb cb, (callFunc 100 #[.slice (some ⟨vb, 0, none⟩) 1 1, .slice (some ⟨g, (i + 1) * 2, none⟩) lb cb]).run Tryz.prog w = .ok (.value (.bool false)) w := fun lb cb => by
    rw [run_callFunc_extern Tryz.func100 (by kernel_rfl) (by kernel_rfl) (by kernel_rfl) (e := Extern.SlicesOverlaps.overlaps #[147, 147] #[4]) (by kernel_rfl),
      Lib.run_overlaps_apart w 147 4 136 Tryz.underlying147 2 size_q ⟨vb, 0, none⟩ ⟨g, (i + 1) * 2, none⟩ 1 1 lb cb hvb 136 136 2 (c * 2) (by simp [World.shape?, hx, encQ]) (by simp [World.shape?, hg, hcs]) (by omega) (by simp [World.frozen?, hx]) (by simp [World.frozen?, hx])]
    rfl
  have POST : Hid (InsPost (.slice (some ⟨g, 0, none⟩) L.length c) (insAt L i x) w (.returned (.slice (some ⟨g, 0, none⟩) (L.length + 1) c)) W2) :=
    Lib.hid ⟨_, rfl, QRow.mk hg2 (insAt_length _ _ _ (by omega)) (by omega) hcm hcl2 htk2, hgr2, fun g' h' => .inl h'⟩
  unfold maxLen at hcm
  obtain ⟨n, hn⟩ : ∃ n, L.length = n := ⟨_, rfl⟩
  rw [hn] at POST hcp1 hcp2 hroom hi ⊢
  have hz2 : ¬ ((i : Int) = (n : Int)) := by omega
  have hw1 : IntKind.i64.wrap ((i : Int) + 1) = (i : Int) + 1 := by rw [IntKind.wrap_i64]; omega
  have hb1 : (0 : Int) ≤ (i : Int) + 1 := by omega
  have htn : ((i : Int) + 1).toNat = i + 1 := by omega
  have hb2 : ¬ (c = i + 1) := by omega
  have hb3 : (i : Int) ≤ (n : Int) + 1 := by omega
  have hb4 : ¬ (c = i) := by omega
  have hin : i ≤ n := by omega
  clear h hx hg hcs htk hsz hgw hcells hdl hcur1 hcl1 hg1 hgr1 hx1 hcur2 hW2 hg2 hgr2 hcl2 htk2 hvb hmin hn
  have HW := Lib.hid hW1
  clear hW1
  go_enter Tryz.func97, Tryz.ntmps97
  go_wp2_with (simp only [hov])
  go_region_law (refine step_copyN rfl _ _ 147 147 rfl (hcp1 _ (c - (i + 1)) (c - i)) (by simp [Act.eval, Act.put]) (by simp [Act.eval, Act.put]) ?_)
  go_wp2_with (at_builtin; refine wpList_copyN rfl _ _ 147 147 rfl (hcp2 _ _) rfl rfl ?_)
  go_ret
  exact POST.out

set_option maxRecDepth 100000 in
set_option maxHeartbeats 4000000 in
/-- There is no room: a new row. -/
theorem qins_grow (g c i vb : Nat) (L : List QI) (x : QI) (w : World) (h : QRow w 136 (.slice (some ⟨g, 0, none⟩) L.length c) L) (hi : i < L.length) (hroom : c < L.length + 1) (hL : L.length ≤ 1000000) (hx : w.heap[vb]? = some (.cells (encQ x).toArray 136 (0, 0))) :
    Calls Tryz.prog 97 #[.slice (some ⟨g, 0, none⟩) L.length c, .int .i64 i, .slice (some ⟨vb, 0, none⟩) 1 1] w (InsPost (.slice (some ⟨g, 0, none⟩) L.length c) (insAt L i x) w) := by
  obtain ⟨cur, hg, hlc, hcm, hcs, htk⟩ : ∃ cur, w.heap[g]? = some (.cells cur 136 (0, 0)) ∧ L.length ≤ c ∧ c ≤ maxLen ∧ cur.size = c * 2 ∧ cur.toList.take (L.length * 2) = flatQ L := by
    rcases h.2 with ⟨h1, _⟩ | ⟨g', cap, cur, h1, _, h3, h4, h5, h6, h7⟩
    · cases h1
    · injection h1 with h8 h9 h10; injection h8 with h8; injection h8 with h8; subst h8 h10; exact ⟨cur, h3, h4, h5, h6, h7⟩
  obtain ⟨i0, hi0, hz0, hz1, hz2⟩ := info_parts info_q
  have hsz : (Tryz.prog.info? 136).map (·.size) = some 2 := by kernel_rfl
  have hgw : g < w.heap.size := (Array.getElem?_eq_some_iff.1 hg).1
  have hvw : vb < w.heap.size := (Array.getElem?_eq_some_iff.1 hx).1
  have hflat : ∀ j u, (flatQ L)[j]? = some u → cur[j]? = some u := fun j u hj => by
    have hlt : j < (flatQ L).length := (List.getElem?_eq_some_iff.1 hj).1
    rw [← htk, List.getElem?_take, if_pos (by rw [flatQ_length] at hlt; exact hlt)] at hj
    simpa using hj
  have hdl : (flatQ (L.drop i)).length = (L.length - i) * 2 := by rw [flatQ_length, List.length_drop]
  have htl : (flatQ (L.take i)).length = i * 2 := by rw [flatQ_length, List.length_take]; congr 1; omega
  have hold : (Builtin.firstCells i0.size i (.slice (some ⟨g, 0, none⟩) i c)).run Tryz.prog w.drew = .ok (flatQ (L.take i)).toArray w.drew := by
    rw [hz1]
    refine run_firstCells_some w.drew 2 i ⟨g, 0, none⟩ i c (flatQ (L.take i)) htl (fun j u hj => ?_)
    rw [addr_add, Nat.zero_add]
    show w.cell? _ = _
    simp only [World.cell?, hg]
    rw [flatQ_take, List.getElem?_take] at hj
    split at hj
    · exact hflat j u hj
    · cases hj
  obtain ⟨G, hG⟩ : ∃ G, G = grownCap w (L.length + 1) c 136 := ⟨_, rfl⟩
  have hik : i + (L.length + 1 - i) = L.length + 1 := by omega
  have hkk : (L.length : Int) + 1 - (i : Int) = ((L.length + 1 - i : Nat) : Int) := by omega
  obtain ⟨ROW, hROW⟩ : ∃ ROW : Array Value, ROW = (flatQ (L.take i)).toArray ++ Builtin.zeroCells (Value.agg #[.int .i64 0, .int .i64 0]).cells (L.length + 1 - i) ++ Builtin.zeroCells (Value.agg #[.int .i64 0, .int .i64 0]).cells (G - (L.length + 1)) := ⟨_, rfl⟩
  obtain ⟨W1, hW1⟩ : ∃ W1, W1 = w.drew.alloc (.cells ROW 136) := ⟨_, rfl⟩
  have hrz : ∀ ty, (Builtin.append_ #[147, 3] ty #[.slice (some ⟨g, 0, none⟩) i c, .int .i64 ((L.length : Int) + 1 - (i : Int))]).run Tryz.prog w = .ok (.slice (some ⟨w.heap.size, 0, none⟩) (L.length + 1) G) W1 := fun ty => by
    have h := Lib.run_append_grow_zeros w 147 3 ty 136 i0 _ .i64 .i64 Tryz.underlying147 Tryz.underlying3 hi0 hz0 (some ⟨g, 0, none⟩) i c (flatQ (L.take i)) hold (L.length + 1 - i) (by omega) (by rw [hz1]; omega) (by omega) (by omega) (by rw [hz2]; omega) (by rw [hz2, hik]; exact growslice_fits hroom (by omega))
    rw [hik] at h
    rw [hkk, hW1, hROW, hG]
    exact h
  have hGn : L.length + 1 ≤ G := by rw [hG]; exact grownCap_ge w _ _ _
  have hGm : G ≤ maxLen := by rw [hG]; exact grownCap_le_maxLen w _ c _ (by unfold maxLen; omega)
  have hRs : ROW.size = G * 2 := by
    rw [hROW]
    simp only [Array.size_append, List.size_toArray, htl, size_zeroCells]
    have : (Value.agg #[.int .i64 0, .int .i64 0]).cells.size = 2 := rfl
    rw [this]
    omega
  have hRt : ROW.toList.take (i * 2) = flatQ (L.take i) := by
    rw [hROW]
    simp only [Array.toList_append, List.append_assoc]
    exact List.take_left' htl
  have hg1 : W1.heap[w.heap.size]? = some (.cells ROW 136 (0, 0)) := by rw [hW1]; exact World.alloc_heap_new w.drew _
  have hold1 : ∀ k, k < w.heap.size → W1.heap[k]? = w.heap[k]? := fun k hk => by rw [hW1]; exact Below.heap_alloc w.drew _ k hk
  have hs1 : W1.heap.size = w.heap.size + 1 := by rw [hW1]; exact World.size_alloc w.drew _
  have hw1 : W1.os = w.os ∧ W1.tape = w.tape ∧ W1.output = w.output := by rw [hW1]; exact ⟨rfl, rfl, rfl⟩
  obtain ⟨cur2, hcur2⟩ : ∃ cur2 : Array Value, cur2 = (ROW.toList.take (i * 2) ++ encQ x ++ ROW.toList.drop (i * 2 + (encQ x).length)).toArray := ⟨_, rfl⟩
  obtain ⟨W2, hW2⟩ : ∃ W2, W2 = W1.setRow w.heap.size cur2 := ⟨_, rfl⟩
  have hmin : Nat.min 1 (L.length + 1 - i) = 1 := by show min _ _ = _; omega
  have hcp1 : ∀ ty dc, (Builtin.copy_ #[147, 147] ty #[.slice (some ⟨w.heap.size, i * 2, none⟩) (L.length + 1 - i) dc, .slice (some ⟨vb, 0, none⟩) 1 1]).run Tryz.prog W1 = .ok (goInt (Nat.min 1 (L.length + 1 - i))) W2 := fun ty dc => by
    rw [hW2, hcur2]
    exact run_copy_rowN W1 _ _ ty 136 2 w.heap.size (i * 2) (L.length + 1 - i) dc ⟨vb, 0, none⟩ 1 1 ROW 136 (encQ x) Tryz.underlying147 hsz hg1 (by rw [hmin]; rfl) (encQ_cells ((hold1 vb hvw).trans hx)) (by rw [hRs]; simp [encQ]; omega) (encQ_one x)
  have hcl2 : cur2.size = G * 2 := by rw [hcur2]; simp [hRs, encQ]; omega
  have hg2 : W2.heap[w.heap.size]? = some (.cells cur2 136 (0, 0)) := by rw [hW2]; exact setRow_heap _ _ ROW _ _ _ hg1
  have hold2 : ∀ k, k < w.heap.size → W2.heap[k]? = w.heap[k]? := fun k hk => by rw [hW2]; exact (setRow_other W1 _ k _ (by omega)).trans (hold1 k hk)
  obtain ⟨cur3, hcur3⟩ : ∃ cur3 : Array Value, cur3 = (cur2.toList.take ((i + 1) * 2) ++ flatQ (L.drop i) ++ cur2.toList.drop ((i + 1) * 2 + (flatQ (L.drop i)).length)).toArray := ⟨_, rfl⟩
  obtain ⟨W3, hW3⟩ : ∃ W3, W3 = W2.drew.setRow w.heap.size cur3 := ⟨_, rfl⟩
  have hcp2 : ∀ ty dc sc, (Builtin.copy_ #[147, 147] ty #[.slice (some ⟨w.heap.size, (i + 1) * 2, none⟩) (L.length - i) dc, .slice (some ⟨g, i * 2, none⟩) (L.length - i) sc]).run Tryz.prog W2.drew = .ok (goInt (Nat.min (L.length - i) (L.length - i))) W3 := fun ty dc sc => by
    rw [hW3, hcur3]
    refine run_copy_rowN W2.drew _ _ ty 136 2 w.heap.size ((i + 1) * 2) (L.length - i) dc ⟨g, i * 2, none⟩ (L.length - i) sc cur2 136 (flatQ (L.drop i)) Tryz.underlying147 hsz hg2 (by rw [hdl]; congr 1; show _ = min _ _; omega) (fun j u hj => ?_) (by rw [hdl, hcl2]; omega) (flatQ_one _)
    rw [addr_add]
    show W2.cell? _ = _
    simp only [World.cell?, (hold2 g hgw).trans hg]
    rw [flatQ_drop, List.getElem?_drop] at hj
    exact hflat _ u hj
  have hcl3 : cur3.size = G * 2 := by rw [hcur3]; simp [hcl2, hdl]; omega
  have hg3 : W3.heap[w.heap.size]? = some (.cells cur3 136 (0, 0)) := by rw [hW3]; exact setRow_heap _ _ cur2 _ _ _ hg2
  have hgr : w.grownBy W3 (some g) := by
    rw [hW3]
    refine ⟨?_, ?_, ?_, ?_, fun k hk hne => (setRow_other W2.drew _ k _ (by omega)).trans (hold2 k hk)⟩
    · rw [show (W2.drew.setRow w.heap.size cur3).os = W1.os by rw [hW2]; rfl]; exact hw1.1
    · rw [show (W2.drew.setRow w.heap.size cur3).tape = W1.tape by rw [hW2]; rfl]; exact hw1.2.1
    · rw [show (W2.drew.setRow w.heap.size cur3).output = W1.output by rw [hW2]; rfl]; exact hw1.2.2
    · have : (W2.drew.setRow w.heap.size cur3).heap.size = W1.heap.size := by rw [hW2]; simp [World.setRow, World.drew]
      omega
  have htk3 : cur3.toList.take ((L.length + 1) * 2) = flatQ (insAt L i x) := by
    rw [flat_insAt, hcur3, hcur2, hRt]
    have e2 : (i + 1) * 2 = (flatQ (L.take i) ++ encQ x).length := by rw [List.length_append, htl]; simp [encQ]; omega
    simp only
    rw [e2, List.take_left]
    simp only [List.append_assoc]
    refine take_parts _ _ _ _ _ ?_
    have : (encQ x).length = 2 := rfl
    rw [htl, hdl]; omega
  have POST : Hid (InsPost (.slice (some ⟨g, 0, none⟩) L.length c) (insAt L i x) w (.returned (.slice (some ⟨w.heap.size, 0, none⟩) (L.length + 1) G)) W3) :=
    Lib.hid ⟨_, rfl, QRow.mk hg3 (insAt_length _ _ _ (by omega)) (by omega) hGm hcl3 htk3, hgr, fun g' h' => .inr (by simp [Value.ownBlock] at h'; omega)⟩
  unfold maxLen at hcm hGm
  obtain ⟨n, hn⟩ : ∃ n, L.length = n := ⟨_, rfl⟩
  rw [hn] at POST hrz hcp1 hcp2 hroom hi hlc hL hGn ⊢
  have hne : ¬ ((i : Int) = (n : Int)) := by omega
  have hz3 : (c : Int) < (n : Int) + 1 := by omega
  have hwi : IntKind.i64.wrap ((i : Int) + 1) = (i : Int) + 1 := by rw [IntKind.wrap_i64]; omega
  have hb1 : (0 : Int) ≤ (i : Int) + 1 := by omega
  have htn : ((i : Int) + 1).toNat = i + 1 := by omega
  have hin : i ≤ n := by omega
  have hb3 : (i : Int) ≤ (n : Int) := by omega
  have hGi : ¬ (G = i) := by omega
  have hGim : ¬ (G = i + 1) := by omega
  have hci : ¬ (c = i) := by omega
  have HZ := Lib.hid hrz
  clear h hx hg hcs htk hsz hgw hdl hcur2 hcl2 hg1 hW2 hg2 hgr hmin hn hrz hold hflat htl hik hkk hROW hW1 hRs hRt hold1 hs1 hw1 hold2 hcur3 hW3 hcl3 hg3 htk3 hz0 hz1 hz2 hi0 hG hvw
  go_enter Tryz.func97, Tryz.ntmps97
  go_wp2_with (first
    | (at_builtin; refine wpList_appN rfl _ _ 147 3 rfl (HZ.out _) rfl rfl ?_)
    | (at_builtin; refine wpList_copyN rfl _ _ 147 147 rfl (hcp1 _ _) rfl rfl ?_))
  go_region_law (refine step_copyN rfl _ _ 147 147 rfl (hcp2 _ (G - (i + 1)) (c - i)) (by simp [Act.eval, Act.put]) (by simp [Act.eval, Act.put]) ?_)
  go_wp2
  go_ret
  exact POST.out

/-- slices.Insert(s, i, x). -/
theorem qins_c (v : Value) (L : List QI) (i : Nat) (x : QI) (vb : Nat) (w : World) (h : QRow w 136 v L) (hi : i ≤ L.length) (hL : L.length ≤ 1000000) (hx : w.heap[vb]? = some (.cells (encQ x).toArray 136 (0, 0))) (hvb : v.ownBlock ≠ some vb) :
    Calls Tryz.prog 97 #[v, .int .i64 i, .slice (some ⟨vb, 0, none⟩) 1 1] w (InsPost v (insAt L i x) w) := by
  rcases Nat.lt_or_ge i L.length with hlt | hge
  · obtain ⟨g, c, rfl, _⟩ := h.get (List.getElem?_eq_getElem hlt)
    have hne : vb ≠ g := fun e => hvb (by rw [e]; rfl)
    rcases Nat.lt_or_ge c (L.length + 1) with hr | hr
    · exact qins_grow g c i vb L x w h hlt hr hL hx
    · exact qins_shift g c i vb L x w h hlt hr hx hne
  · obtain rfl : i = L.length := by omega
    exact qins_end v L x vb w h hL hx
end Go.Proofs.YtandmngfajoinaaGreat
