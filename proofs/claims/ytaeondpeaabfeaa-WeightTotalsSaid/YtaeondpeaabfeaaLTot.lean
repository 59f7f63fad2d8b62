/- The walk of the law WeightTotals: it returns true. -/
import Derived.Test.YtaeondpeaabfeaaGc
import Derived.Laws.AppendOwnNone
namespace Go.Proofs.Ytaeondpeaabfeaa
open Go.RowKit Go.Sort

/-- 'v = append(v, xs...)' of numbers, v the call's own, xs nil or not. -/
theorem wpList_appI {P : Program} {ops : Array Oper} {rest : List Oper} {o : Oper} {a : Act} {Q : Exit → Act → World → Prop} {w : World} {k : IntKind} (hgd : o.guard = none) (s x : Operand) (t : TypeId)
    (ho : o.op = .call { callee := .builtin .append, args := #[s, x], argTypes := #[t, t] })
    (base : Nat) (e : TypeId) (i : TypeInfo) (bytes : Nat) (z : Int) (ht : P.underlying t = some (.slice e)) (hi : P.info? e = some i) (hz : i.zero = some (.int k z)) (hsize : i.size = 1) (hby : i.bytes = bytes)
    (v : Value) (l : List Int) (hs : a.eval s = v) (hown : OwnI k w base e v l) (A : Option Addr) (n c B : Nat) (l2 : List Int) (hx : a.eval x = .slice A n c) (hn : l2.length = n) (hr : IRow k w B A l2) (hcz : A = none → c = 0 ∧ n = 0)
    (hbytes : (l.length + n) * bytes ≤ 140737488355328) (hb0 : 1 ≤ bytes) (hbase : base ≤ w.heap.size)
    (h : ∀ v' w', OwnI k w' base e v' (l ++ l2) → Below base w w' → wpList P ops Q rest (a.put o.dst v') w') : wpList P ops Q (o :: rest) a w := by
  subst hn
  cases A with
  | none =>
    obtain ⟨hc, hl⟩ := hcz rfl
    subst hc
    have hl2 : l2 = [] := List.eq_nil_of_length_eq_zero hl
    subst hl2
    refine wpList_append_own_none hgd s x t ho base e i 1 ht hi v l.length (l.map (Value.int k)) hs hown hx ?_
    exact h v w (by rw [List.append_nil]; exact hown) (Below.refl _ _)
  | some ad =>
    have h63 : l.length + l2.length ≤ maxLen := by
      have := Nat.le_mul_of_pos_right (l.length + l2.length) hb0
      unfold maxLen; omega
    refine wpList_append_own _ hgd s x t ho base e i (.int k z) 1 bytes ht hi hz hsize hby rfl (by decide) v l.length (l.map (Value.int k)) hs hown ad l2.length c (l2.map (Value.int k)) hx (by simp) ?_ ?_ h63 hbytes hbase ?_
    · intro j u hj
      rw [List.getElem?_map] at hj
      obtain ⟨y, hy, rfl⟩ := Option.map_eq_some_iff.1 hj
      obtain ⟨ad', e', _, hc⟩ := hr j y hy
      injection e' with e'
      subst e'
      exact hc
    · intro u hu
      obtain ⟨y, _, rfl⟩ := List.mem_map.1 hu
      rfl
    · intro v' w' h1 h2 _
      refine h v' w' ?_ ?_
      · unfold OwnI; rw [List.map_append, List.length_append]; exact h1
      · exact (Below.refl base w).grown h2 hbase (fun g hg => (World.ownsRow.lt hown g hg).1)

theorem OwnI.made (k : IntKind) (w : World) (base : Nat) (e : TypeId) (hb : base ≤ w.heap.size) : OwnI k (w.alloc (.cells #[] e)) base e (.slice (some ⟨w.heap.size, 0, none⟩) 0 0) [] :=
  World.ownsRow_made w #[] 0 hb (Nat.zero_le _) rfl

theorem totB_append (a b : List Int) : totB (a ++ b) = (decide (a.length + b.length ≤ 64) && a.all goodB && b.all goodB) := by
  unfold totB; rw [List.length_append, List.all_append, Bool.and_assoc]
theorem totB_short {a : List Int} (h : a.length ≤ 40) : totB a = a.all goodB := by
  unfold totB; rw [decide_eq_true (by omega)]; rfl
/-- What the law says. -/
def TotSays (a b : List Int) (p q r : Bool) (x y z : Int) : Prop :=
  (p = false ∨ q = false → r = false) ∧ (p = true → q = true → r = decide ((a.length : Int) + (b.length : Int) ≤ 64) ∧ (r = true → z = x + y) ∧ (r = false → z = 0) ∧ 0 ≤ x ∧ x ≤ 800 ∧ 0 ≤ y ∧ y ≤ 800)
theorem totSays (a b : List Int) (ha : a.length ≤ 40) (hb : b.length ≤ 40) : TotSays a b (totB a) (totB b) (totB (a ++ b)) (totV a) (totV b) (totV (a ++ b)) := by
  have e := totB_append a b
  rw [← totB_short ha, Bool.and_assoc, ← totB_short hb] at e
  refine ⟨?_, ?_⟩
  · intro h; rw [e]; rcases h with h | h <;> simp [h]
  · intro h1 h2
    rw [h1, h2, Bool.and_true, Bool.and_true] at e
    have b1 := sum_good a (totB_true.1 h1).2
    have b2 := sum_good b (totB_true.1 h2).2
    refine ⟨by rw [e, decide_eq_decide]; omega, ?_, ?_, by rw [totV_yes h1]; omega, by rw [totV_yes h1]; omega, by rw [totV_yes h2]; omega, by rw [totV_yes h2]; omega⟩
    · intro h; rw [totV_yes h, totV_yes h1, totV_yes h2, List.sum_append]
    · intro h; exact totV_no h

theorem info_int' : (Try.prog.info? 3).map (fun i => (i.zero, i.size, i.bytes)) = some (some (.int .i64 0), 1, 8) := by kernel_rfl

set_option maxHeartbeats 1000000 in
set_option maxRecDepth 100000 in
theorem ltot_no (A A' : Option Addr) (n n' c c' : Nat) (w : World) (h : 40 < n ∨ 40 < n') :
    Calls Try.prog 8 #[.slice A n c, .slice A' n' c'] w fun e w' => e = .returned (.bool true) ∧ Below w.heap.size w w' := by
  have H := Lib.hid h
  clear h
  go_enter Try.func8, Try.ntmps8
  go_wp2_with fail
  refine (awake_c _).mono ?_
  rintro e w1 ⟨rfl, hb⟩
  have HB := Lib.hid hb
  clear hb
  by_cases h1 : 40 < n
  · go_wp2_with fail
    go_ret
    exact ⟨rfl, HB.out⟩
  · have h1' : n ≤ 40 := by omega
    have h2 : 40 < n' := by have := H.out; omega
    go_wp2_with fail
    go_ret
    exact ⟨rfl, HB.out⟩

set_option maxHeartbeats 2000000 in
set_option maxRecDepth 100000 in
theorem ltot_c (A A' : Option Addr) (c c' : Nat) (a b : List Int) (w : World) (ha : a.length ≤ 40) (hb : b.length ≤ 40) (hr : IRow .i64 w w.heap.size A a) (hr' : IRow .i64 w w.heap.size A' b) (hz : A = none → c = 0 ∧ a.length = 0) (hz' : A' = none → c' = 0 ∧ b.length = 0) :
    Calls Try.prog 8 #[.slice A a.length c, .slice A' b.length c'] w fun e w' => e = .returned (.bool true) ∧ Below w.heap.size w w' := by
  obtain ⟨i0, hi0, hz0, hz1, hz2⟩ := info_parts info_int'
  have HR := Lib.hid hr
  have HR' := Lib.hid hr'
  have HZ := Lib.hid hz
  have HZ' := Lib.hid hz'
  have HT := Lib.hid (totSays a b ha hb)
  clear hr hr' hz hz'
  go_enter Try.func8, Try.ntmps8
  go_wp2_with fail
  refine (awake_c _).mono ?_
  rintro e w1 ⟨rfl, hbel⟩
  have HB := Lib.hid hbel
  clear hbel
  go_wp2_with fail
  refine (total_c A a.length c _ a w1 rfl (by omega) (HR.out.below HB.out)).mono ?_
  rintro e w2 ⟨rfl, rfl⟩
  go_wp2_with fail
  refine (total_c A' b.length c' _ b w1 rfl (by omega) (HR'.out.below HB.out)).mono ?_
  rintro e w2 ⟨rfl, rfl⟩
  have hsz := HB.out.size
  go_wp2_with (first
    | (at_builtin; refine wpList_appI rfl _ _ 27 rfl w.heap.size 3 i0 8 0 Try.underlying27 hi0 hz0 hz1 hz2 _ [] rfl (OwnI.made _ _ _ _ hsz) A a.length c w.heap.size a rfl rfl (HR.out.below (HB.out.alloc hsz _)) HZ.out (by simp; omega) (by decide) (by simp; omega) ?_; intro v' w2 hown1 hbel1)
    | (at_builtin; refine wpList_appI rfl _ _ 27 rfl w.heap.size 3 i0 8 0 Try.underlying27 hi0 hz0 hz1 hz2 _ ([] ++ a) rfl hown1 A' b.length c' w.heap.size b rfl rfl (HR'.out.below ((HB.out.alloc hsz _).trans hbel1)) HZ'.out (by simp; omega) (by decide) (by have := hbel1.size; simp at this; omega) ?_; intro v2 w3 hown2 hbel2))
  rw [List.nil_append] at hown2
  obtain ⟨A2, c2, rfl, _, _, hr2⟩ := hown2.form
  have hk := total_c A2 (a ++ b).length c2 _ (a ++ b) w3 rfl (by rw [List.length_append]; omega) hr2
  have HB3 := Lib.hid (((HB.out.alloc hsz (.cells #[] 3)).trans hbel1).trans hbel2)
  have HK := Lib.hid hk
  clear hk hown1 hown2 hbel1 hbel2 hr2 HR HR' HZ HZ' HB hsz
  have e1 : ((a ++ b).length : Nat) = a.length + b.length := List.length_append
  refine HK.out.mono ?_
  rintro e w4 ⟨rfl, rfl⟩
  clear HK e1
  generalize totB a = p at HT
  generalize totB b = q at HT
  generalize totB (a ++ b) = r at HT
  generalize totV a = x at HT
  generalize totV b = y at HT
  generalize totV (a ++ b) = z at HT
  obtain ⟨t1, t2⟩ := HT.out
  clear HT
  cases p
  · have := t1 (.inl rfl)
    subst this
    clear t1 t2
    go_wp2_with fail
    go_ret
    exact ⟨rfl, HB3.out⟩
  · cases q
    · have := t1 (.inr rfl)
      subst this
      clear t1 t2
      go_wp2_with fail
      go_ret
      exact ⟨rfl, HB3.out⟩
    · obtain ⟨u1, u2, u3, b1, b2, b3, b4⟩ := t2 rfl rfl
      clear t1 t2
      cases r
      · have hz := u3 rfl
        subst hz
        have hd : ¬ ((a.length : Int) + (b.length : Int) ≤ 64) := by simpa using u1
        clear u1 u2 u3
        go_wp2_with fail
        all_goals go_ret
        all_goals exact ⟨ret_b (by simp; omega), HB3.out⟩
      · have hz : (z == x + y) = true := by rw [u2 rfl]; simp
        have hd : (a.length : Int) + (b.length : Int) ≤ 64 := by simpa using u1
        clear u1 u2 u3
        go_wp2_with fail
        all_goals go_ret
        all_goals exact ⟨ret_b (by simp), HB3.out⟩

theorem ltot_any (A A' : Option Addr) (c c' : Nat) (a b : List Int) (w : World) (hr : IRow .i64 w w.heap.size A a) (hr' : IRow .i64 w w.heap.size A' b) (hz : A = none → c = 0) (hz' : A' = none → c' = 0) (hl : a.length ≤ c) (hl' : b.length ≤ c') :
    Calls Try.prog 8 #[.slice A a.length c, .slice A' b.length c'] w fun e w' => e = .returned (.bool true) ∧ Below w.heap.size w w' := by
  by_cases h : 40 < a.length ∨ 40 < b.length
  · exact ltot_no A A' _ _ c c' w h
  · exact ltot_c A A' c c' a b w (by omega) (by omega) hr hr' (fun h => ⟨hz h, by have := hz h; omega⟩) (fun h => ⟨hz' h, by have := hz' h; omega⟩)
end Go.Proofs.Ytaeondpeaabfeaa
