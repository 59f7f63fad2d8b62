/- The reference's Names: Has, Free, Take, All. -/
import Derived.Test.YtmjffgkolcdoeaaUa
namespace Go.Proofs.Ytmjffgkolcdoeaa
open Go.RowKit

def NPost (p a o : Nat) (S : List SL) (w w' : World) : Prop := IsN w' p a o S ∧ Trip (NOf p a o) w (NOf p a o) w'
theorem NPost.refl {p a o : Nat} {S : List SL} {w : World} (h : IsN w p a o S) : NPost p a o S w w := ⟨h, Trip.refl h.lt⟩

set_option maxHeartbeats 1000000 in
theorem nhas_c (p a o : Nat) (S : List SL) (id : Int) (w : World) (h : IsN w p a o S) (h3 : -9223372036854775808 ≤ id) (h4 : id ≤ 9223372036854775807) (hb : ∀ x ∈ S, x.1 ≤ 1000000) :
    Calls Try.prog 19 #[.pointer (some ⟨p, 0, none⟩), .int .i64 id] w fun e w' => e = .returned (.bool (hasS S id)) ∧ w = w' := by
  have c0 := h.c0
  have c1 := h.c1
  have hle := h.le
  by_cases hn : id < 0
  · rw [hasS_neg hn]
    clear h hb
    go_enter Try.func19, Try.ntmps19
    go_wp2_with fail
    go_ret
    exact ⟨rfl, rfl⟩
  · obtain ⟨k, q, hkq, hk64⟩ : ∃ k q : Nat, id = ((k + 64 * q : Nat) : Int) ∧ k < 64 := ⟨(id % 64).toNat, (id / 64).toNat, by omega, by omega⟩
    have e1 : id.tmod 64 = (k : Int) := by rw [Int.tmod_eq_emod_of_nonneg (by omega)]; omega
    have e2 : id.tdiv 64 = (q : Int) := by rw [Int.tdiv_eq_ediv_of_nonneg (by omega)]; omega
    have hq : q ≤ 144115188075855872 := by omega
    by_cases hkn : S.length ≤ k
    · rw [hasS_out (S := S) (id := id) (by omega)]
      obtain ⟨n, hn'⟩ : ∃ n, S.length = n := ⟨_, rfl⟩
      rw [hn'] at c0 c1 hle hkn
      clear h hkq hn' hb
      go_enter Try.func19, Try.ntmps19
      go_wp2_with fail
      go_ret
      exact ⟨rfl, rfl⟩
    · have hkn' : k < S.length := by omega
      obtain ⟨⟨t, c⟩, hx⟩ : ∃ x, S[k]? = some x := ⟨_, List.getElem?_eq_getElem hkn'⟩
      rw [hkq, hasS_in hk64 hx, ← hkq]
      have d0 := h.ct hx
      have d1 := h.co hx
      have ht : t ≤ 1000000 := hb (t, c) (List.mem_of_getElem? hx)
      obtain ⟨n, hn'⟩ : ∃ n, S.length = n := ⟨_, rfl⟩
      rw [hn'] at c0 c1 hle hkn'
      clear h hkq hn' hkn hx hb
      cases c with
      | false =>
        go_enter Try.func19, Try.ntmps19
        go_wp2_with fail
        go_ret
        exact ⟨by simp, rfl⟩
      | true =>
        have d2 : w.cell? ⟨a, k, none⟩ = some (.int .i64 ((t : Int) + 1)) := by rw [d0]; simp [tnV]
        clear d0
        have e3 : (t : Int) + 1 - 1 = (t : Int) := by omega
        have e4 : (((t : Int) == (q : Int)) : Bool) = (decide (t = q) && true) := by
          by_cases e : t = q
          · subst e; simp
          · rw [decide_eq_false e]; simp; omega
        obtain ⟨z, hz⟩ : ∃ z : Bool, (decide (t = q) && true) = z := ⟨_, rfl⟩
        rw [hz] at e4 ⊢
        clear hz
        go_enter Try.func19, Try.ntmps19
        go_wp2_with fail
        go_ret
        exact ⟨rfl, rfl⟩

theorem setCell_list {w : World} {r i : Nat} {t : TypeId} {cs : List Value} (v : Value) (h : w.heap[r]? = some (.cells cs.toArray t (0, 0))) : (w.setCell ⟨r, i, none⟩ v).heap[r]? = some (.cells (cs.set i v).toArray t (0, 0)) := by
  rw [setCell_s v h]; simp
theorem turns_set (S : List SL) (k : Nat) (x : SL) : (turnsC S).set k (.int .i64 (tnV x : Nat)) = turnsC (S.set k x) := by unfold turnsC; rw [List.map_set]
theorem outs_set (S : List SL) (k : Nat) (x : SL) : (outsC S).set k (.bool x.2) = outsC (S.set k x) := by unfold outsC; rw [List.map_set]
theorem turns_same {S : List SL} {k : Nat} {x y : SL} (h : S[k]? = some x) (e : tnV y = tnV x) : turnsC (S.set k y) = turnsC S := by
  rw [← turns_set, e]
  apply List.ext_getElem?
  intro i
  rw [List.getElem?_set]
  split
  · rename_i e'
    subst e'
    have hl := (List.getElem?_eq_some_iff.1 h).1
    rw [List.getElem?_eq_getElem hl] at h
    injection h with h
    simp [turnsC, hl, h]
  · rfl
theorem IsN.freed {w : World} {p a o : Nat} {S : List SL} (h : IsN w p a o S) {k q : Nat} (hk : S[k]? = some (q, true)) : NPost p a o (S.set k (q + 1, false)) w (w.setCell ⟨o, k, none⟩ (.bool false)) := by
  refine ⟨⟨?_, ?_, ?_, by rw [List.length_set]; exact h.pos, by rw [List.length_set]; exact h.le, h.n1, h.n2, h.n3⟩, Trip.setAt _ h.lt (.inr (.inr rfl))⟩
  · rw [setCell_o _ h.n2, List.length_set]; exact h.box
  · rw [setCell_o _ h.n3, turns_same hk (by simp [tnV])]; exact h.turns
  · rw [setCell_list _ h.outs, ← outs_set S k (q + 1, false)]
theorem IsN.taken {w : World} {p a o : Nat} {S : List SL} (h : IsN w p a o S) {k t : Nat} (_hk : S[k]? = some (t, false)) : NPost p a o (S.set k (t, true)) w ((w.setCell ⟨o, k, none⟩ (.bool true)).setCell ⟨a, k, none⟩ (.int .i64 ((t : Int) + 1))) := by
  refine ⟨⟨?_, ?_, ?_, by rw [List.length_set]; exact h.pos, by rw [List.length_set]; exact h.le, h.n1, h.n2, h.n3⟩, (Trip.setAt _ h.lt (.inr (.inr rfl))).trans (Trip.setAt _ (fun k hk => by rw [setCell_z]; exact h.lt k hk) (.inr (.inl rfl)))⟩
  · rw [setCell_o _ h.n1, setCell_o _ h.n2, List.length_set]; exact h.box
  · rw [setCell_list _ ((setCell_o _ h.n3).trans h.turns), ← turns_set S k (t, true)]; simp [tnV]
  · rw [setCell_o _ h.n3.symm, setCell_list _ h.outs, ← outs_set S k (t, true)]

set_option maxHeartbeats 1000000 in
theorem nfree_c (p a o : Nat) (S : List SL) (id : Int) (w : World) (h : IsN w p a o S) (h3 : -9223372036854775808 ≤ id) (h4 : id ≤ 9223372036854775807) (hb : ∀ x ∈ S, x.1 ≤ 1000000) :
    Calls Try.prog 17 #[.pointer (some ⟨p, 0, none⟩), .int .i64 id] w fun e w' => e = .returned (.int .i64 (freeS S id).1) ∧ NPost p a o (freeS S id).2 w w' := by
  have KH := Lib.hid (nhas_c p a o S id w h h3 h4 hb)
  unfold freeS
  cases hs : hasS S id with
  | false =>
    rw [hs] at KH
    have P := Lib.hid (NPost.refl h)
    simp only [Bool.false_eq_true, if_false]
    clear h
    go_enter Try.func17, Try.ntmps17
    go_wp2_with fail
    refine (KH.out).mono ?_
    rintro e w' ⟨rfl, rfl⟩
    go_wp2_with fail
    go_ret
    exact ⟨rfl, P.out⟩
  | true =>
    rw [hs] at KH
    have hs' := hs
    unfold hasS at hs'
    simp only [Bool.and_eq_true, decide_eq_true_eq, beq_iff_eq] at hs'
    obtain ⟨hn, hx⟩ := hs'
    obtain ⟨k, hk⟩ : ∃ k, (id % 64).toNat = k := ⟨_, rfl⟩
    obtain ⟨q, hq⟩ : ∃ q, (id / 64).toNat = q := ⟨_, rfl⟩
    rw [hk, hq] at hx
    rw [hk, hq]
    simp only [if_true]
    have hkn : k < S.length := (List.getElem?_eq_some_iff.1 hx).1
    have e1 : id.tmod 64 = (k : Int) := by rw [Int.tmod_eq_emod_of_nonneg (by omega)]; omega
    have P := Lib.hid (h.freed hx)
    have c1 := h.c1
    have d1 := h.co hx
    have f1 := h.fo k
    have hle := h.le
    obtain ⟨n, hn'⟩ : ∃ n, S.length = n := ⟨_, rfl⟩
    rw [hn'] at c1 hle hkn
    clear h hn' hs hx hk hq hb
    go_enter Try.func17, Try.ntmps17
    go_wp2_with fail
    refine (KH.out).mono ?_
    rintro e w' ⟨rfl, rfl⟩
    go_wp2_with fail
    go_ret
    exact ⟨rfl, P.out⟩

set_option maxHeartbeats 2000000 in
theorem ntake_c (p a o : Nat) (S : List SL) (w : World) (h : IsN w p a o S) (hb : ∀ x ∈ S, x.1 ≤ 1000000) :
    Calls Try.prog 16 #[.pointer (some ⟨p, 0, none⟩)] w fun e w' => e = .returned (.tuple #[.int .i64 (takeS S).1, .int .i64 (takeS S).2.1]) ∧ NPost p a o (takeS S).2.2 w w' := by
  have c1 := h.c1
  have hle := h.le
  obtain ⟨n, hn⟩ : ∃ n, S.length = n := ⟨_, rfl⟩
  have H := Lib.hid h
  have HN := Lib.hid hn
  have HB := Lib.hid hb
  rw [hn] at c1 hle
  clear h hn hb
  go_enter Try.func16, Try.ntmps16
  go_wp2_with fail
  go_loopw [4] (fun i wr => ∃ k : Nat, i = .int .i64 k ∧ k ≤ n ∧ wr = w ∧ Hid (∀ j, j < k → ∃ t', S[j]? = some (t', true))) (fun i _ => n - (intOf i).toNat)
  case atStart => exact ⟨0, rfl, Nat.zero_le _, rfl, Lib.hid (fun j hj => by omega)⟩
  case round =>
    obtain ⟨k, rfl, hk, hw, HK⟩ := hrel
    replace hw := hw.symm
    subst hw
    by_cases hlt : k < n
    · have hkl : k < S.length := by rw [HN.out]; exact hlt
      obtain ⟨⟨t, c⟩, hx⟩ : ∃ x, S[k]? = some x := ⟨_, List.getElem?_eq_getElem hkl⟩
      have d1 := H.out.co hx
      have f1 := H.out.fo k
      cases c with
      | true =>
        have HK' : Hid (∀ j, j < k + 1 → ∃ t', S[j]? = some (t', true)) := Lib.hid (fun j hj => by
          by_cases e : j = k
          · subst e; exact ⟨t, hx⟩
          · exact HK.out j (by omega))
        clear hx hkl
        go_wp2_with fail
        go_roundw
        case rel => exact ⟨k + 1, by go_num, by omega, trivial, HK'⟩
        case measure => simp [intOf]; omega
      | false =>
        have P := Lib.hid (H.out.taken hx)
        have HE := Lib.hid (takeS_at HK.out hx)
        have ht : t ≤ 1000000 := HB.out (t, false) (List.mem_of_getElem? hx)
        have hne := H.out.n3
        have hpo := H.out.n2
        have hpa := H.out.n1
        have c0 : (w.setCell ⟨o, k, none⟩ (.bool true)).cell? ⟨p, 0, none⟩ = some (.slice (some ⟨a, 0, none⟩) n n) := by
          have := H.out.c0
          rw [HN.out] at this
          exact (cells_of (setCell_o _ hpo) 0).trans this
        have d0 : (w.setCell ⟨o, k, none⟩ (.bool true)).cell? ⟨a, k, none⟩ = some (.int .i64 t) := (cells_of (setCell_o _ hne) k).trans (by have := H.out.ct hx; simpa [tnV] using this)
        have f0 : (w.setCell ⟨o, k, none⟩ (.bool true)).frozen? ⟨a, k, none⟩ = false := by
          have h1 : (w.setCell ⟨o, k, none⟩ (.bool true)).heap[a]? = _ := (setCell_o _ hne).trans H.out.turns
          simp [World.frozen?, h1]
        have c0' : ((w.setCell ⟨o, k, none⟩ (.bool true)).setCell ⟨a, k, none⟩ (.int .i64 ((t : Int) + 1))).cell? ⟨p, 0, none⟩ = some (.slice (some ⟨a, 0, none⟩) n n) := (cells_of (setCell_o _ hpa) 0).trans c0
        have d0' : ((w.setCell ⟨o, k, none⟩ (.bool true)).setCell ⟨a, k, none⟩ (.int .i64 ((t : Int) + 1))).cell? ⟨a, k, none⟩ = some (.int .i64 ((t : Int) + 1)) := by
          have hl : k < (turnsC S).length := by simpa [turnsC] using hkl
          have h1 := setCell_list (i := k) (.int .i64 ((t : Int) + 1)) (show (w.setCell ⟨o, k, none⟩ (.bool true)).heap[a]? = _ from (setCell_o _ hne).trans H.out.turns)
          simp [World.cell?, h1, hl]
        clear hx hkl HK
        go_wp2_with fail
        go_ret2
        refine ⟨?_, by rw [HE.out]; exact P.out⟩
        rw [HE.out]
        simp
    · obtain rfl : k = n := by omega
      have HE := Lib.hid (takeS_full (S := S) (fun j hj => HK.out j (by have := HN.out; omega)))
      go_wp2_with fail
      go_ret2
      exact ⟨by rw [HE.out]; rfl, by rw [HE.out]; exact NPost.refl H.out⟩

def namesTo (S : List SL) (k : Nat) : List Int := (placesTo S true k).map (nameAt S)
theorem namesTo_le (S : List SL) (k : Nat) : (namesTo S k).length ≤ k := by
  unfold namesTo placesTo
  rw [List.length_map]
  exact Nat.le_trans (List.length_filter_le _ _) (by simp)

set_option maxHeartbeats 2000000 in
theorem nall_c (p a o : Nat) (S : List SL) (w : World) (h : IsN w p a o S) (hb : ∀ x ∈ S, x.1 ≤ 1000000) :
    Calls Try.prog 18 #[.pointer (some ⟨p, 0, none⟩)] w fun e w' => ∃ v, e = .returned v ∧ OwnI .i64 w' w.heap.size 3 v (namesL S) ∧ Below w.heap.size w w' := by
  obtain ⟨i0, hi, hz0, hz1, hz2⟩ := info_parts info_intS
  have hle := h.le
  obtain ⟨n, hn⟩ : ∃ n, S.length = n := ⟨_, rfl⟩
  have H := Lib.hid h
  have HN := Lib.hid hn
  have HB := Lib.hid hb
  rw [hn] at hle
  clear h hn hb
  go_enter Try.func18, Try.ntmps18
  go_wp2_with fail
  go_loopw [4, 3] (fun i v wr => ∃ k : Nat, i = .int .i64 k ∧ k ≤ n ∧ Hid (OwnI .i64 wr w.heap.size 3 v (namesTo S k) ∧ Below w.heap.size w wr)) (fun i _ _ => n - (intOf i).toNat)
  case atStart => exact ⟨0, rfl, Nat.zero_le _, Lib.hid ⟨OwnI.nil _ _ _ _, Below.refl _ _⟩⟩
  case round =>
    obtain ⟨k, rfl, hk, HK⟩ := hrel
    have hIs := H.out.below HK.out.2
    have c1 := hIs.c1
    rw [HN.out] at c1
    by_cases hlt : k < n
    · have hkl : k < S.length := by rw [HN.out]; exact hlt
      obtain ⟨⟨t, c⟩, hx⟩ : ∃ x, S[k]? = some x := ⟨_, List.getElem?_eq_getElem hkl⟩
      have d1 := hIs.co hx
      cases c with
      | false =>
        have HK' := Lib.hid (show OwnI .i64 _ w.heap.size 3 _ (namesTo S (k + 1)) ∧ Below w.heap.size w _ from ⟨by unfold namesTo; rw [placesTo_no hx (by decide)]; exact HK.out.1, HK.out.2⟩)
        clear hx hkl hIs
        go_wp2_with fail
        go_roundw
        case rel => exact ⟨k + 1, by go_num, by omega, HK'⟩
        case measure => simp [intOf]; omega
      | true =>
        have c0 := hIs.c0
        rw [HN.out] at c0
        have d0 := hIs.ct hx
        have ht : t ≤ 1000000 := HB.out (t, true) (List.mem_of_getElem? hx)
        have d2 : ((tnV (t, true) : Nat) : Int) = (t : Int) + 1 := by simp [tnV]
        rw [d2] at d0
        clear d2
        have hnx : namesTo S (k + 1) = namesTo S k ++ [(k : Int) + 64 * (t : Int)] := by
          unfold namesTo; rw [placesTo_yes hx, List.map_append]; simp [nameAt_of hx]
        have HNX := Lib.hid hnx
        have hll := namesTo_le S k
        have e3 : (t : Int) + 1 - 1 = (t : Int) := by omega
        have hsz := HK.out.2.size
        clear hx hkl hIs hnx
        go_wp2_with (at_builtin; refine wpList_app1 rfl _ _ 33 rfl w.heap.size 3 i0 8 0 Try.underlying33 hi hz0 hz1 hz2 _ (namesTo S k) rfl HK.out.1 ((k : Int) + 64 * (t : Int)) rfl (by omega) (by omega) hsz ?_; intro v' w' hown' hbel'; have HO := Lib.hid hown'; have HBL := Lib.hid hbel'; clear hown' hbel')
        go_roundw
        case rel => exact ⟨k + 1, by go_num, by omega, Lib.hid ⟨by rw [HNX.out]; exact HO.out, HK.out.2.trans HBL.out⟩⟩
        case measure => simp [intOf]; omega
    · obtain rfl : k = n := by omega
      have HK' := Lib.hid (show OwnI .i64 _ w.heap.size 3 _ (namesL S) ∧ Below w.heap.size w _ from ⟨by unfold namesL placesL; rw [HN.out]; exact HK.out.1, HK.out.2⟩)
      clear hIs
      go_wp2_with fail
      go_ret
      exact ⟨_, rfl, HK'.out.1, HK'.out.2⟩
end Go.Proofs.Ytmjffgkolcdoeaa
