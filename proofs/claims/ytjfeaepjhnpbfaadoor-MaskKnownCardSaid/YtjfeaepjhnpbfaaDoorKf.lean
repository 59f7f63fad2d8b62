/- Masks: Good, Of. -/
import Derived.Test.YtjfeaepjhnpbfaaDoorKd
namespace Go.Proofs.YtjfeaepjhnpbfaaDoor
open Go.RowKit Go.Shelf
attribute [local go_sem] Oper.semAt_some wide_fn wide_depth

/-- May the mask m be, of so many cores? -/
def goodB (m : Nat) (c : Int) : Bool := decide (1 ≤ c) && decide (c ≤ 16) && (match (backL m).head? with | none => false | some x => decide ((x : Int) < c))

theorem good_result (tmps : Array Value) (B : Nat) (b : Bool) (w : World) (ht : tmps.getD 4 undef = .pointer (some ⟨B, 0, none⟩)) (hc : w.cell? ⟨B, 0, none⟩ = some (.bool b)) : (results Tryd.f11 tmps).run Tryd.prog w = .ok (.bool b) w := by
  have ht' : tmps[4]?.getD undef = .pointer (some ⟨B, 0, none⟩) := by simpa using ht
  simp [results, Tryd.f11, go_sem, hc, ht']

def GoodI (s : Nat) (c : Int) (pre : List Nat) (A : Nat → Prop) (W : World) : Prop :=
  pre = [] ∧ Boxed W s 3 (.int .i64 c) ∧ Boxed W (s + 1) 4 (.bool false) ∧ ∀ k, A k ↔ k = s ∨ k = s + 1
def GoodX (s : Nat) (c : Int) (cd : Code) (pre : List Nat) (A : Nat → Prop) (W : World) : Prop :=
  cd = .ret ∧ ∃ x : Nat, pre = [x] ∧ Boxed W (s + 1) 4 (.bool (decide ((x : Int) < c))) ∧ ∀ k, A k ↔ k = s ∨ k = s + 1
theorem goodI_loc (s : Nat) (c : Int) : Loc (GoodI s c) := by
  rintro l A X Y ⟨h1, h2, h3, h4⟩ hs
  exact ⟨h1, (hs _ ((h4 _).2 (.inl rfl))).trans h2, (hs _ ((h4 _).2 (.inr rfl))).trans h3, h4⟩
theorem goodX_loc (s : Nat) (c : Int) (cd : Code) : Loc (GoodX s c cd) := by
  rintro l A X Y ⟨h0, x, h1, h3, h4⟩ hs
  exact ⟨h0, x, h1, (hs _ ((h4 _).2 (.inr rfl))).trans h3, h4⟩

set_option maxRecDepth 100000 in
set_option maxHeartbeats 1000000 in
theorem good_c (m : Nat) (c : Int) (hm : m < 65536) (w : World) : Calls Tryd.prog 11 #[.int .u16 m, .int .i64 c] w fun e w' => e = .returned (.bool (goodB m c)) ∧ Below w.heap.size w w' := by
  refine (callsIn_wide (n := 0)).1 ?_
  refine callsIn_of_wp_marks Tryd.func11 rfl trivial ?_ rfl
  simp only [Tryd.ntmps11, List.size_toArray, List.length_cons, List.length_nil, Nat.reduceAdd, Nat.reduceSub, Array.replicate_succ, Array.replicate_zero, List.push_toArray, List.append_toArray, List.nil_append, List.cons_append]
  have hb2 : Below w.heap.size w ((w.alloc (Obj.cells #[Value.int IntKind.i64 c] 3)).alloc (Obj.cells #[Value.bool false] 4)) := ((Below.refl _ w).alloc (Nat.le_refl _) _).alloc (by simp) _
  have bR : Boxed ((w.alloc (Obj.cells #[Value.int IntKind.i64 c] 3)).alloc (Obj.cells #[Value.bool false] 4)) (w.heap.size + 1) 4 (.bool false) := by
    have := Boxed.new (w.alloc (Obj.cells #[Value.int IntKind.i64 c] 3)) 4 (.bool false); rwa [World.size_alloc] at this
  have bC : Boxed ((w.alloc (Obj.cells #[Value.int IntKind.i64 c] 3)).alloc (Obj.cells #[Value.bool false] 4)) w.heap.size 3 (.int .i64 c) := (Boxed.new w 3 (.int .i64 c)).alloc _
  have HB := Lib.hid hb2
  have HR := Lib.hid bR
  have HC := Lib.hid bC
  clear hb2 bR bC
  by_cases h1 : c < 1
  · have hg : goodB m c = false := by unfold goodB; simp; omega
    rw [hg]
    gi_wp2
    exact ⟨_, good_result _ _ _ _ rfl HR.out.cell, rfl, HB.out⟩
  · by_cases h2 : 16 < c
    · have hg : goodB m c = false := by unfold goodB; simp; omega
      rw [hg]
      gi_wp2
      exact ⟨_, good_result _ _ _ _ rfl HR.out.cell, rfl, HB.out⟩
    · gi_wp2_with (gi_at_call 25; refine (callsIn_wide.2 (back_c _ _)).mono ?_; rintro e w' ⟨rfl, rfl⟩)
      obtain ⟨w2, hw2⟩ : ∃ w2, (w.alloc (Obj.cells #[Value.int IntKind.i64 c] 3)).alloc (Obj.cells #[Value.bool false] 4) = w2 := ⟨_, rfl⟩
      have hs2 : w2.heap.size = w.heap.size + 1 + 1 := by rw [← hw2]; simp
      rw [hw2] at HB HR HC ⊢
      clear hw2
      have bN := Boxed.new w2 24 (.int .u16 m)
      have bR := HR.out.alloc (Obj.cells #[Value.int IntKind.u16 m] 24)
      have bC := HC.out.alloc (Obj.cells #[Value.int IntKind.u16 m] 24)
      have hb3 := HB.out.alloc (B := w.heap.size) (by omega) (Obj.cells #[Value.int IntKind.u16 m] 24)
      obtain ⟨w3, hw3⟩ : ∃ w3, w2.alloc (Obj.cells #[Value.int IntKind.u16 m] 24) = w3 := ⟨_, rfl⟩
      have hs3 : w3.heap.size = w.heap.size + 3 := by rw [← hw3, World.size_alloc]; omega
      rw [hw3] at bN bR bC hb3 ⊢
      rw [hs2] at bN
      clear hw3 HB HR HC
      have HB3 := Lib.hid hb3
      clear hb3
      refine wpR (α := Nat) (gf := 35) (lb := #[.pointer (some ⟨w.heap.size + 1 + 1, 0, none⟩)]) rfl (enters_of Tryd.func35 (by kernel_rfl) rfl)
        (back1_gives m hm _ w3 bN.cell) (fun _ => rfl) (fun k => k = w.heap.size ∨ k = w.heap.size + 1) ?hA ?hR (GoodI w.heap.size c) (GoodX w.heap.size c) (goodI_loc _ _) (goodX_loc _ _) ?h0
        (fun x => { tmps := #[.int .u16 m, .int .i64 c, undef, .pointer (some ⟨w.heap.size, 0, none⟩), .pointer (some ⟨w.heap.size + 1, 0, none⟩), .int .i64 x, .int .i64 c, .bool false, .bool false, .int .i64 c, .bool false, .bool false, .int .u16 m,
          .func (.func 35) #[] #[.pointer (some ⟨w.heap.size + 1 + 1, 0, none⟩)], .int .i64 x, undef, undef, undef], defers := [] }) ?assign ?body ?done ?stop
      case hA => rintro k (rfl | rfl) <;> omega
      case hR => rintro k rfl; exact ⟨by omega, rfl, by omega⟩
      case h0 => exact ⟨rfl, bC, bR, fun _ => Iff.rfl⟩
      case assign =>
        intro l x W K hK
        gi_wp2
        exact hK
      case body =>
        rintro l pre x A1 W ⟨rfl, hC, hR, hA1⟩ hpre hbd
        have hc := hC.cell
        have hc2 := hR.cell
        have hf2 := hR.frozen
        have HPR := Lib.hid hpre
        have HA1 := Lib.hid hA1
        clear hpre hA1
        gi_wp2
        have ht : Trip A1 W A1 (W.setCell ⟨w.heap.size + 1, 0, none⟩ (.bool (decide ((x : Int) < c)))) := Trip.setBox _ hbd ((HA1.out _).2 (.inr rfl))
        exact ⟨A1, ht, rfl, x, rfl, hR.set _, HA1.out⟩
      case done =>
        rintro D A2 W ht hnD hD ⟨hx, hC, hR, hA2⟩ hK
        have hc2 := hR.cell
        have hf2 := hR.frozen
        have hg : goodB m c = false := by unfold goodB; rw [hx]; simp
        have HT := Lib.hid ht
        have HA2 := Lib.hid hA2
        have HK := Lib.hid hK
        have HG := Lib.hid hg
        clear ht hA2 hx hK hg
        gi_wp2
        have hDn : D ≠ w.heap.size + 1 := by omega
        have hK' : (W.setCell ⟨w.heap.size + 1, 0, none⟩ (.bool false)).heap[D]? = some (.deferred (some [])) := (setBox_other _ hDn).trans HK.out
        have ht2 := HT.out.trans (Trip.setBox (b := w.heap.size + 1) (.bool false) HT.out.bd ((HA2.out _).2 (.inr rfl)))
        refine ⟨by simp, .inl ⟨_, _, rfl, run_takeDeferred hK', ?_⟩⟩
        refine ⟨_, good_result _ _ false _ rfl ?_, by rw [HG.out], HB3.out.trans ((ht2.putObj hD _).below (fun k hk => by omega) (by omega))⟩
        exact (cell_of_heap (World.putObj_heap_other (fun e => hDn e.symm)) 0).trans (hR.set _).cell
      case stop =>
        rintro D cd pre A2 W ht hnD hD hpre ⟨rfl, x, rfl, hR, hA2⟩ hK
        have hg : goodB m c = decide ((x : Int) < c) := by
          obtain ⟨t, ht⟩ := hpre
          unfold goodB
          rw [← ht]
          have h1' : 1 ≤ c := by omega
          have h2' : c ≤ 16 := by omega
          simp [h1', h2']
        have HT := Lib.hid ht
        have HG := Lib.hid hg
        clear ht hA2 hg
        gi_wp2
        refine ⟨by simp, .inl ⟨_, _, rfl, run_takeDeferred hK, ?_⟩⟩
        refine ⟨_, good_result _ _ (decide ((x : Int) < c)) _ rfl ?_, by rw [HG.out], HB3.out.trans ((HT.out.putObj hD _).below (fun k hk => by omega) (by omega))⟩
        exact (cell_of_heap (World.putObj_heap_other (by omega)) 0).trans hR.cell

/-- The mask of a list's cores. -/
def ofStep (m : Nat) (c : Int) : Nat := if 0 ≤ c ∧ c < 16 then m ||| 2 ^ c.toNat else m
def ofN (l : List Int) : Nat := l.foldl ofStep 0
theorem ofStep_lt {m : Nat} (c : Int) (hm : m < 65536) : ofStep m c < 65536 := by
  unfold ofStep
  split
  · rename_i h
    have h1 : c.toNat < 16 := by omega
    have := pow_lt h1
    exact Nat.or_lt_two_pow (n := 16) hm this
  · exact hm
theorem ofN_take {l : List Int} {k : Nat} (h : k < l.length) : ofN (l.take (k + 1)) = ofStep (ofN (l.take k)) l[k] := by
  unfold ofN
  rw [List.take_add_one, List.getElem?_eq_getElem h, List.foldl_append]
  rfl
theorem foldl_lt (l : List Int) : ∀ m, m < 65536 → l.foldl ofStep m < 65536 := by
  induction l with
  | nil => exact fun m h => h
  | cons x xs ih => exact fun m h => ih _ (ofStep_lt x h)
theorem ofN_lt (l : List Int) : ofN l < 65536 := foldl_lt l 0 (by omega)
theorem or_pow {m k : Nat} (hm : m < 65536) (hk : k < 16) : bits BinOp.or IntKind.u16 (m : Int) (2 ^ k) = (ofStep m k : Int) := by
  have h := u16_or_nat m (2 ^ k) hm (pow_lt hk)
  have e : ofStep m (k : Int) = m ||| 2 ^ k := by unfold ofStep; rw [if_pos (by omega)]; simp
  rw [e]
  simpa using h

set_option maxHeartbeats 1000000 in
theorem of_c (A : Option Addr) (n c B : Nat) (l : List Int) (w : World) (hn : l.length = n) (hl : n ≤ 9223372036854775807) (hr : IRow .i64 w B A l) :
    Calls Tryd.prog 8 #[.slice A n c] w fun e w' => e = .returned (.int .u16 (ofN l)) ∧ w = w' := by
  have HR := Lib.hid hr
  have HN := Lib.hid hn
  clear hr hn
  go_enter Tryd.func8, Tryd.ntmps8
  go_wp2_with fail
  go_loop [3, 8] (fun x i => ∃ k q : Nat, i = .int .i64 k ∧ x = .int .u16 q ∧ k ≤ n ∧ q = ofN (l.take k)) (fun _ i => n - (intOf i).toNat)
  case atStart => exact ⟨0, 0, rfl, rfl, Nat.zero_le _, by simp [ofN]⟩
  case round =>
    obtain ⟨k, q, rfl, rfl, hk, hq⟩ := hrel
    have hqb : q < 65536 := by rw [hq]; exact ofN_lt _
    have HQ := Lib.hid hq
    clear hq
    by_cases hlt : k < n
    · have hkl : k < l.length := by rw [HN.out]; exact hlt
      obtain ⟨ad, rfl, _, hc⟩ := HR.out.at hkl
      obtain ⟨z, hz⟩ : ∃ z, z = l[k] := ⟨_, rfl⟩
      have hstep : ofN (l.take (k + 1)) = ofStep q z := by rw [ofN_take hkl, ← HQ.out, ← hz]
      rw [← hz] at hc
      have HS := Lib.hid hstep
      clear hz hstep
      by_cases hc16 : 0 ≤ z ∧ z < 16
      · obtain ⟨j, rfl⟩ := Int.eq_ofNat_of_zero_le hc16.1
        have hj : j < 16 := by omega
        have ho := or_pow hqb hj
        have hp := wrap_pow hj
        have hp2 : ((2 ^ j : Nat) : Int) = 2 ^ j := by simp
        rw [hp2] at hp
        clear hp2
        go_wp2_with (go_at_call 20; refine (isCore_b _ true (by simp; omega) _).mono ?_; rintro e w' ⟨rfl, rfl⟩)
        go_round
        case rel => exact ⟨k + 1, ofStep q j, by go_num, rfl, by omega, HS.out.symm⟩
        case measure => simp [intOf]; omega
      · have he : ofStep q z = q := by unfold ofStep; rw [if_neg hc16]
        go_wp2_with (go_at_call 20; refine (isCore_b _ false (by simp; omega) _).mono ?_; rintro e w' ⟨rfl, rfl⟩)
        go_round
        case rel => exact ⟨k + 1, q, by go_num, rfl, by omega, by rw [HS.out, he]⟩
        case measure => simp [intOf]; omega
    · obtain rfl : k = n := by omega
      go_wp2_with fail
      go_ret
      refine ⟨?_, rfl⟩
      rw [HQ.out, ← HN.out, List.take_length]
      rfl
end Go.Proofs.YtjfeaepjhnpbfaaDoor
