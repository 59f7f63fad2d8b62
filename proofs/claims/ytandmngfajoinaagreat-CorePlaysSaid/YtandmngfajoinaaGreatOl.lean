/- Queues: Clone, All, List. -/
import Derived.Test.YtandmngfajoinaaGreatOk
import Derived.Test.YtandmngfajoinaaGreatIt
import Derived.Test.YtandmngfajoinaaGreatApp
import Derived.Lib.SliceRun
import Derived.Shelf.Abstract
import Derived.Shelf.RegionOpen
import Derived.OwnWalkIn
import Derived.TacticsInMore
import Derived.LoopNIn
import Derived.LoopIn
import Derived.Test.YtandmngfajoinaaGreatApb
namespace Go.Proofs.YtandmngfajoinaaGreat
open Go.RowKit

theorem own_nought (w : World) (e : TypeId) (size : Nat) : (w.alloc (.cells #[] e)).ownsRow w.heap.size e size (.slice (some ⟨w.heap.size, 0, none⟩) 0 0) 0 [] :=
  ⟨by simp, .inr ⟨w.heap.size, 0, #[], rfl, Nat.le_refl _, World.alloc_heap_new w _, Nat.le_refl _, Nat.zero_le _, by simp, by simp⟩⟩

theorem row_form {w : World} {base : Nat} {e : TypeId} {size : Nat} {v : Value} {n : Nat} {xs : List Value} (h : w.ownsRow base e size v n xs) : ∃ A c, v = .slice A n c := by
  rcases h.2 with ⟨h1, h2⟩ | ⟨g, cap, cur, h1, _⟩
  · exact ⟨none, 0, by rw [h1, h2]⟩
  · exact ⟨_, _, h1⟩
set_option maxRecDepth 100000 in
set_option maxHeartbeats 2000000 in
theorem clone_c (v : Value) (L : List QI) (w : World) (h : QRow w 136 v L) (hL : L.length ≤ 1000000) :
    Calls Tryz.prog 81 #[v] w fun e w' => ∃ v', e = .returned v' ∧ w'.ownsRow w.heap.size 136 2 v' L.length (flatQ L) ∧ Below w.heap.size w w' := by
  obtain ⟨i0, hi, hz0, hz1, hz2⟩ := info_parts info_q
  rcases h.2 with ⟨h1, h2⟩ | ⟨g, cap, cur, h1, _, h3, h4, h5, h6, h7⟩
  · subst h1
    have hl : L = [] := List.eq_nil_of_length_eq_zero h2
    subst hl
    have hnil := Lib.run_eql_slice_nil (P := Tryz.prog) w 147 136 none 0 0 0 0 Tryz.underlying147
    simp only [Option.isNone_none] at hnil
    go_enter Tryz.func81, Tryz.ntmps81
    go_wp2
    go_ret
    exact ⟨_, rfl, ⟨rfl, .inl ⟨rfl, rfl⟩⟩, Below.refl _ w⟩
  · subst h1
    have hgw : g < w.heap.size := (Array.getElem?_eq_some_iff.1 h3).1
    have hc := World.ownsRow.cells h (g := g) rfl
    have hO := Lib.hid (own_nought w 136 2)
    have hB := Lib.hid ((Below.refl _ w).alloc (Nat.le_refl _) (.cells #[] 136))
    have HC : Hid (∀ j u, (flatQ L)[j]? = some u → (w.alloc (.cells #[] 136)).cell? ((⟨g, 0, none⟩ : Addr).add j) = some u) := Lib.hid (fun j u hj => by
      have := hc j u hj
      rw [addr_add] at this ⊢
      exact (hB.out.cell (p := ⟨g, 0 + j, none⟩) hgw).trans this)
    have HF := Lib.hid (flatQ_length L)
    obtain ⟨n, hn⟩ : ∃ n, L.length = n := ⟨_, rfl⟩
    rw [hn] at HF hL h4 ⊢
    clear h h3 h4 h5 h6 h7 hc hn
    have hnil := Lib.run_eql_slice_nil (P := Tryz.prog) w 147 136 (some ⟨g, 0, none⟩) n cap 0 0 Tryz.underlying147
    simp only [Option.isNone_some] at hnil
    go_enter Tryz.func81, Tryz.ntmps81
    go_wp2_with (at_builtin; refine wpList_where _ rfl _ _ 147 rfl w.heap.size 136 i0 (.agg #[.int .i64 0, .int .i64 0]) 2 16 Tryz.underlying147 hi hz0 hz1 hz2 rfl (by decide) _ 0 [] rfl hO.out ⟨g, 0, none⟩ n cap (flatQ L) rfl HF.out HC.out (flatQ_one L) (by unfold maxLen; omega) (by omega) (by simp) ?_; intro v' w' h1 h2 h3; simp only [Nat.zero_add, List.nil_append] at h1; obtain ⟨A', c', rfl⟩ := row_form h1; have H1 := Lib.hid h1; have H2 := Lib.hid h2; clear h1 h2 h3)
    go_ret
    exact ⟨_, rfl, H1.out, hB.out.grown H2.out (by simp) (fun k e => by cases e; exact Nat.le_refl _)⟩

theorem base_zero {w : World} {base : Nat} {e : TypeId} {size : Nat} {v : Value} {n : Nat} {xs : List Value} (h : w.ownsRow base e size v n xs) : w.ownsRow 0 e size v n xs := by
  refine ⟨h.1, ?_⟩
  rcases h.2 with h2 | ⟨g, cap, cur, h1, h2, h3⟩
  · exact .inl h2
  · exact .inr ⟨g, cap, cur, h1, Nat.zero_le _, h3⟩
/-- The things with their places. -/
def numQ : Nat → List QI → List (Nat × QI)
  | _, [] => []
  | k, x :: xs => (k, x) :: numQ (k + 1) xs
theorem numQ_append (k : Nat) (a b : List QI) : numQ k (a ++ b) = numQ k a ++ numQ (k + a.length) b := by
  induction a generalizing k with
  | nil => simp [numQ]
  | cons x xs ih => simp [numQ, ih, Nat.add_comm 1, Nat.add_assoc]
theorem numQ_take {L : List QI} {k : Nat} {x : QI} (h : L[k]? = some x) : numQ 0 (L.take (k + 1)) = numQ 0 (L.take k) ++ [(k, x)] := by
  have hk : k < L.length := (List.getElem?_eq_some_iff.1 h).1
  rw [List.take_add_one, h, Option.toList_some, numQ_append]
  simp [numQ]
  omega
theorem numQ_le {a b : List QI} (h : a <+: b) : numQ 0 a <+: numQ 0 b := by
  obtain ⟨t, rfl⟩ := h
  exact ⟨_, (numQ_append 0 a t).symm⟩
theorem numQ_snd (k : Nat) (a : List QI) : (numQ k a).map (·.2) = a := by
  induction a generalizing k with
  | nil => rfl
  | cons x xs ih => simp [numQ, ih]
theorem numQ_length (k : Nat) (a : List QI) : (numQ k a).length = a.length := by
  induction a generalizing k with
  | nil => rfl
  | cons x xs ih => simp [numQ, ih]
theorem cellq_of {W W' : World} {b : Nat} (h : W'.heap[b]? = W.heap[b]?) (o : Nat) : W'.cell? ⟨b, o, none⟩ = W.cell? ⟨b, o, none⟩ := World.cell?_of_block (w := W) h
/-- What the iterators read: the box that holds the queue's address, the queue's block, its row. -/
def QReads (r b : Nat) (v : Value) (k : Nat) : Prop := k = r ∨ k = b ∨ v.ownBlock = some k

attribute [local go_sem] Oper.semAt_some wide_fn wide_depth in
set_option maxRecDepth 100000 in
set_option maxHeartbeats 2000000 in
theorem qall1_gives (r b mp : Nat) (most s : Int) (v : Value) (L : List QI) (W0 : World) (hr : W0.heap[r]? = some (.cells #[.pointer (some ⟨b, 0, none⟩)] 125 (0, 0))) (hq : IsQ W0 b most s L v mp) (hL : L.length ≤ 1000000) :
    Gives Tryz.prog 80 #[.pointer (some ⟨r, 0, none⟩)] (fun x : Nat × QI => #[Value.int .i64 x.1, Value.agg (encQ x.2).toArray]) (numQ 0 L) (QReads r b v) W0 := by
  intro l J Jx A W hJ hJx hA hR hY h0
  obtain ⟨hR1, hR2, hR3⟩ := hR r (.inl rfl)
  obtain ⟨hS1, hS2, hS3⟩ := hR b (.inr (.inl rfl))
  have hrow : QRow W 136 v L := hq.row.keep (fun g hg => (hR g (.inr (.inr hg))).2.1)
  have c0 : W.cell? ⟨r, 0, none⟩ = some (.pointer (some ⟨b, 0, none⟩)) := by simp [World.cell?, hR2.trans hr]
  have c1 : W.cell? ⟨b, 1, none⟩ = some v := by simp [World.cell?, hS2.trans (show W0.heap[b]? = _ from hq.box)]
  obtain ⟨A0, cc, rfl, _⟩ := hrow.form
  have KC := Lib.hid (clone_c _ L W hrow hL)
  have HY := Lib.hid hY
  have HJ := Lib.hid hJ
  have HA := Lib.hid hA
  have H0 := Lib.hid h0
  obtain ⟨n, hn⟩ : ∃ n, L.length = n := ⟨_, rfl⟩
  have HN := Lib.hid hn
  rw [hn] at c1 KC hL
  clear hR hr hq hR1 hR2 hR3 hS1 hS2 hS3 hY hJ hJx hA h0 hrow hn
  refine callsIn_of_wp Tryz.func80 rfl trivial ?_ rfl
  simp only [Tryz.ntmps80, List.size_toArray, List.length_cons, List.length_nil, Nat.reduceAdd, Nat.reduceSub, Array.replicate_succ, Array.replicate_zero, List.push_toArray, List.append_toArray, List.nil_append, List.cons_append]
  gi_wp2_with (gi_at_call 81; refine (callsIn_wide.2 (KC.out)).mono ?_; rintro e W1 ⟨v', rfl, hO, hB⟩; obtain ⟨A', c', rfl⟩ := row_form hO; have HO := Lib.hid hO; have HB := Lib.hid hB; clear hO hB)
  gi_loopw [11] (fun c wr => ∃ (k : Nat) (A1 : Nat → Prop), c = .int .i64 k ∧ k ≤ n ∧ Hid (Trip A W1 A1 wr ∧ J (numQ 0 (L.take k)) A1 wr)) (fun c _ => n - (intOf c).toNat)
  case atStart => exact ⟨0, A, rfl, Nat.zero_le _, Lib.hid ⟨Trip.refl (fun k hk => by have := HA.out k hk; have := HB.out.size; omega), by simp only [List.take_zero, numQ]; exact HJ.out _ _ _ _ H0.out (fun k hk => HB.out.block k (HA.out k hk))⟩⟩
  case round =>
    obtain ⟨k, A1, rfl, hk, HK⟩ := hrel
    by_cases hlt : k < n
    · have hkl : k < L.length := by rw [HN.out]; exact hlt
      obtain ⟨x, hx⟩ : ∃ x, L[k]? = some x := ⟨_, List.getElem?_eq_getElem hkl⟩
      obtain ⟨g, c0', hv, hg, hc', d0, d1⟩ := QRow.get (e := 136) (l := L) (w := W1) (v := .slice A' n c') (by unfold QRow; rw [HN.out]; exact base_zero HO.out) hx
      injection hv with hv1 hv2 hv3
      subst hv1 hv3
      have hgA : ¬ A g := fun h => by
        have h1 := HA.out g h
        have h2 := (World.ownsRow.lt HO.out g rfl).1
        omega
      obtain ⟨ht, hj⟩ := HK.out
      have eg : wr.heap[g]? = W1.heap[g]? := ht.block g hg hgA
      have e0 := (cellq_of eg (k * 2)).trans d0
      have e1 := (cellq_of eg (k * 2 + 1)).trans d1
      obtain ⟨x0, x1⟩ := x
      simp only at e0 e1
      have hbdA : ∀ j, A1 j → j < wr.heap.size := ht.bd
      have hj' : J (numQ 0 (L.take k)) A1 (wr.alloc (.cells #[.int .i64 x0, .int .i64 x1] 136)) := HJ.out _ _ _ _ hj (fun j hj => Below.heap_alloc wr _ j (hbdA j hj))
      obtain ⟨fn, tmps, assign, body, hy, hR⟩ := HY.out (numQ 0 (L.take k)) (k, (x0, x1)) A1 _ hj' (by rw [← numQ_take hx]; exact numQ_le (List.take_prefix _ _)) (fun j hj => by rw [World.size_alloc]; have := hbdA j hj; omega)
      have HR := Lib.hid hR
      have HX := Lib.hid hx
      have HT := Lib.hid ht
      clear hR d0 d1 hj hj' hx ht hbdA eg hgA hg hv2 hkl
      simp only [encQ] at hy
      gi_wp2
      refine HR.out.mono ?_
      rintro e W3 ⟨A2, ht3, ⟨rfl, hj3⟩ | ⟨rfl, hj3⟩⟩
      · have HN3 : Hid (Trip A W1 A2 W3 ∧ J (numQ 0 (L.take (k + 1))) A2 W3) := Lib.hid ⟨(HT.out.alloc _).trans ht3, by rw [numQ_take HX.out]; exact hj3⟩
        clear hj3 ht3
        gi_wp2
        go_roundw
        case rel => exact ⟨k + 1, A2, by go_num, by omega, HN3⟩
        case measure => simp [intOf]; omega
      · have HT3 := Lib.hid ht3
        have HJ3 := Lib.hid hj3
        clear ht3 hj3
        gi_wp2
        refine bodyPost_ret (results_none rfl _ _ _) rfl ?_
        exact ⟨⟨_, rfl⟩, A2, (below_trip HB.out HA.out).trans ((HT.out.alloc _).trans HT3.out), .inr ⟨_, by rw [← numQ_take HX.out]; exact numQ_le (List.take_prefix _ _), HJ3.out⟩⟩
    · obtain rfl : k = n := by omega
      obtain ⟨ht, hj⟩ := HK.out
      have HT := Lib.hid ht
      have HJ2 := Lib.hid hj
      clear ht hj
      gi_wp2
      go_end0
      refine ⟨⟨_, rfl⟩, A1, ?_, .inl (by have := HJ2.out; rwa [← HN.out, List.take_length] at this)⟩
      have hb := HB.out
      have ht := HT.out
      exact (below_trip hb HA.out).trans ht
end Go.Proofs.YtandmngfajoinaaGreat
