/- Slots: places. -/
import Derived.Test.YtmjffgkolcdoeaaTb
namespace Go.Proofs.Ytmjffgkolcdoeaa
open Go.RowKit

def placesTo (S : List SL) (c : Bool) (k : Nat) : List Nat := (List.range k).filter (fun j => (S[j]?.map (·.2)) == some c)
def placesL (S : List SL) (c : Bool) : List Nat := placesTo S c S.length
theorem placesTo_yes {S : List SL} {c : Bool} {k t : Nat} (h : S[k]? = some (t, c)) : placesTo S c (k + 1) = placesTo S c k ++ [k] := by
  unfold placesTo
  rw [List.range_succ, List.filter_append]
  simp [h]
theorem placesTo_no {S : List SL} {c x : Bool} {k t : Nat} (h : S[k]? = some (t, x)) (hx : x ≠ c) : placesTo S c (k + 1) = placesTo S c k := by
  unfold placesTo
  rw [List.range_succ, List.filter_append]
  simp [h, hx]
theorem placesTo_le (S : List SL) (c : Bool) {k n : Nat} (h : k ≤ n) : placesTo S c k <+: placesTo S c n := by
  induction n with
  | zero => obtain rfl : k = 0 := by omega
            exact List.prefix_refl _
  | succ n ih =>
    by_cases e : k = n + 1
    · subst e; exact List.prefix_refl _
    · refine (ih (by omega)).trans ?_
      unfold placesTo
      rw [List.range_succ, List.filter_append]
      exact ⟨_, rfl⟩
theorem mem_placesL {S : List SL} {c : Bool} {k : Nat} (h : k ∈ placesL S c) : ∃ t, S[k]? = some (t, c) := by
  unfold placesL placesTo at h
  rw [List.mem_filter] at h
  have h1 := List.mem_range.1 h.1
  have h2 := h.2
  obtain ⟨y, hy⟩ : ∃ y, S[k]? = some y := ⟨_, List.getElem?_eq_getElem h1⟩
  obtain ⟨t, x⟩ := y
  rw [hy] at h2 ⊢
  simp at h2
  exact ⟨t, by rw [h2]⟩
theorem cells_of {W W' : World} {b : Nat} (h : W'.heap[b]? = W.heap[b]?) (o : Nat) : W'.cell? ⟨b, o, none⟩ = W.cell? ⟨b, o, none⟩ := World.cell?_of_block (w := W) h
/-- What the iterator reads. -/
def SReads (rs rc b g : Nat) (k : Nat) : Prop := k = rs ∨ k = rc ∨ k = b ∨ k = g

attribute [local go_sem] Oper.semAt_some wide_fn wide_depth in
set_option maxRecDepth 100000 in
set_option maxHeartbeats 2000000 in
theorem places1_gives (rs rc b g : Nat) (c : Bool) (S : List SL) (W0 : World) (hr : W0.heap[rs]? = some (.cells #[.pointer (some ⟨b, 0, none⟩)] 23 (0, 0))) (hc : W0.heap[rc]? = some (.cells #[.bool c] 4 (0, 0))) (hs : IsS W0 b g S) :
    Gives3 Try.prog 22 #[.pointer (some ⟨rs, 0, none⟩), .pointer (some ⟨rc, 0, none⟩)] (fun x : Nat => #[Value.int .i64 x]) (placesL S c) (SReads rs rc b g) W0 := by
  intro l J Jx A W hJ hJx hA hR hY h0
  have hall : ∀ pre A1 W1, J pre A1 W1 → IsS W1 b g S ∧ W1.cell? ⟨rs, 0, none⟩ = some (.pointer (some ⟨b, 0, none⟩)) ∧ W1.cell? ⟨rc, 0, none⟩ = some (.bool c) := fun pre A1 W1 h1 => by
    refine ⟨hs.keep (hR _ _ _ h1 b (.inr (.inr (.inl rfl)))).2 (hR _ _ _ h1 g (.inr (.inr (.inr rfl)))).2, ?_, ?_⟩
    · simp [World.cell?, (hR _ _ _ h1 rs (.inl rfl)).2.trans hr]
    · simp [World.cell?, (hR _ _ _ h1 rc (.inr (.inl rfl))).2.trans hc]
  obtain ⟨hs1, c0, _⟩ := hall _ _ _ h0
  have cb := hs1.cb
  have hle := hs.le
  have HALL := Lib.hid hall
  have HY := Lib.hid hY
  have HJ := Lib.hid hJ
  have HA := Lib.hid hA
  have H0 := Lib.hid h0
  obtain ⟨n, hn⟩ : ∃ n, S.length = n := ⟨_, rfl⟩
  have HN := Lib.hid hn
  rw [hn] at cb hle
  clear hR hr hc hs hs1 hall hY hJ hJx hA h0 hn
  refine callsIn_of_wp Try.func22 rfl trivial ?_ rfl
  simp only [Try.ntmps22, List.size_toArray, List.length_cons, List.length_nil, Nat.reduceAdd, Nat.reduceSub, Array.replicate_succ, Array.replicate_zero, List.push_toArray, List.append_toArray, List.nil_append, List.cons_append]
  gi_wp2
  gi_loopw [11] (fun x wr => ∃ (k : Nat) (A1 : Nat → Prop), x = .int .i64 k ∧ k ≤ n ∧ Hid (Trip A W A1 wr ∧ J (placesTo S c k) A1 wr)) (fun x _ => n - (intOf x).toNat)
  case atStart => exact ⟨0, A, rfl, Nat.zero_le _, Lib.hid ⟨Trip.refl HA.out, by simpa [placesTo] using H0.out⟩⟩
  case round =>
    obtain ⟨k, A1, rfl, hk, HK⟩ := hrel
    by_cases hlt : k < n
    · have hkl : k < S.length := by rw [HN.out]; exact hlt
      obtain ⟨⟨t, x⟩, hx⟩ : ∃ x, S[k]? = some x := ⟨_, List.getElem?_eq_getElem hkl⟩
      obtain ⟨ht, hj⟩ := HK.out
      obtain ⟨hsr, _, e2⟩ := HALL.out _ _ _ hj
      have e0 := hsr.c0 hx
      have e1 := hsr.c1 hx
      simp only at e0 e1
      have hj' : J (placesTo S c k) A1 (wr.alloc (.cells #[.int .i64 t, .bool x] 47)) := HJ.out _ _ _ _ hj (fun j hj => Below.heap_alloc wr _ j (ht.bd j hj))
      obtain ⟨_, _, e3⟩ := HALL.out _ _ _ hj'
      have ht' := ht.alloc (.cells #[.int .i64 t, .bool x] 47)
      by_cases hxc : x = c
      · subst hxc
        obtain ⟨fn, tmps, assign, body, hy, hR⟩ := HY.out (placesTo S x k) k A1 _ hj' (by rw [← placesTo_yes hx]; exact placesTo_le _ _ (by omega)) (fun j hj => by rw [World.size_alloc]; have := ht.bd j hj; omega)
        have HR := Lib.hid hR
        have HX := Lib.hid hx
        have HT := Lib.hid ht'
        clear hR hj hj' hx ht ht' hsr hkl
        gi_wp2
        refine HR.out.mono ?_
        rintro e W3 ⟨A2, ht3, ⟨rfl, hj3⟩ | ⟨rfl, hj3⟩⟩
        · have HN3 : Hid (Trip A W A2 W3 ∧ J (placesTo S x (k + 1)) A2 W3) := Lib.hid ⟨HT.out.trans ht3, by rw [placesTo_yes HX.out]; exact hj3⟩
          clear hj3 ht3
          gi_wp2
          go_roundw
          case rel => exact ⟨k + 1, A2, by go_num, by omega, HN3⟩
          case measure => simp [intOf]; omega
        · have HT3 := Lib.hid ht3
          have HJ3 := Lib.hid hj3
          clear ht3 hj3
          gi_wp2
          refine bodyPost_ret (results_none rfl _ _ _) rfl ?_
          exact ⟨⟨_, rfl⟩, A2, HT.out.trans HT3.out, .inr ⟨_, by rw [← placesTo_yes HX.out]; exact placesTo_le _ _ (by have := HN.out; omega), HJ3.out⟩⟩
      · have HN3 : Hid (Trip A W A1 (wr.alloc (.cells #[.int .i64 t, .bool x] 47)) ∧ J (placesTo S c (k + 1)) A1 (wr.alloc (.cells #[.int .i64 t, .bool x] 47))) := Lib.hid ⟨ht', by rw [placesTo_no hx hxc]; exact hj'⟩
        clear hj hj' hx ht ht' hsr hkl
        cases x <;> cases c <;> first | exact absurd rfl hxc | skip
        all_goals
          gi_wp2
          go_roundw
          case rel => exact ⟨k + 1, A1, by go_num, by omega, HN3⟩
          case measure => simp [intOf]; omega
    · obtain rfl : k = n := by omega
      obtain ⟨ht, hj⟩ := HK.out
      have HT := Lib.hid ht
      have HJ2 := Lib.hid hj
      clear ht hj
      gi_wp2
      go_end0
      exact ⟨⟨_, rfl⟩, A1, HT.out, .inl (by have := HJ2.out; rwa [← HN.out] at this)⟩

theorem places_c (b : Nat) (c : Bool) (w : World) (n : Nat) (hn : n = w.heap.size) :
    Calls Try.prog 20 #[.pointer (some ⟨b, 0, none⟩), .bool c] w fun e w' => e = .returned (.func (.func 22) #[] #[.pointer (some ⟨n, 0, none⟩), .pointer (some ⟨n + 1, 0, none⟩)]) ∧
      w'.heap[n]? = some (.cells #[.pointer (some ⟨b, 0, none⟩)] 23 (0, 0)) ∧ w'.heap[n + 1]? = some (.cells #[.bool c] 4 (0, 0)) ∧ w'.heap.size = n + 2 ∧ Below n w w' := by
  subst hn
  go_enter Try.func20, Try.ntmps20
  go_wp2
  go_ret
  refine ⟨rfl, ?_, ?_, by simp, ((Below.refl _ w).alloc (Nat.le_refl _) _).alloc (by simp) _⟩
  · exact (Below.heap_alloc _ _ _ (by simp)).trans (World.alloc_heap_new w _)
  · have := World.alloc_heap_new (w.alloc (.cells #[.pointer (some ⟨b, 0, none⟩)] 23)) (.cells #[.bool c] 4)
    rwa [World.size_alloc] at this
end Go.Proofs.Ytmjffgkolcdoeaa
