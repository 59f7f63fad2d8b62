/- Slots and names side by side, and a map of what was given out. -/
import Derived.Test.YtmjffgkolcdoeaaUb
import Derived.Maps.OwnSet
namespace Go.Proofs.Ytmjffgkolcdoeaa
open Go.RowKit Go.Maps

/-- Block m is a map in which only what G says is noted. -/
def GMap (w : World) (m n : Nat) (G : Int → Prop) : Prop := ∃ D : DataW Unit, w.ownsMap Try.prog 3 (plainElem Try.prog 4) m n D ∧ ∀ z, Maps.has D (.int .i64 z) = true → G z
theorem GMap.keep {w w' : World} {m n : Nat} {G : Int → Prop} (h : GMap w m n G) (hs : w'.heap[m]? = w.heap[m]?) : GMap w' m n G := by
  obtain ⟨D, ⟨es, clock, hb, r⟩, h2⟩ := h
  exact ⟨D, ⟨es, clock, hs.trans hb, r⟩, h2⟩
theorem GMap.lt {w : World} {m n : Nat} {G : Int → Prop} (h : GMap w m n G) : m < w.heap.size := by
  obtain ⟨D, h1, _⟩ := h
  exact h1.lt
theorem GMap.weak {w : World} {m n n' : Nat} {G G' : Int → Prop} (h : GMap w m n G) (hn : n ≤ n') (hG : ∀ z, G z → G' z) : GMap w m n' G' := by
  obtain ⟨D, h1, h2⟩ := h
  exact ⟨D, h1.mono hn, fun z hz => hG z (h2 z hz)⟩
theorem GMap.new (w : World) (G : Int → Prop) : GMap (w.alloc (.map #[] 0)) w.heap.size 0 G :=
  ⟨.map [], World.ownsMap_made w Try.prog 3 (plainElem Try.prog 4), fun z hz => by simp [Maps.has] at hz⟩
theorem keyed_int : Keyed Try.prog 3 := int_keyed Try.underlying3
theorem zero_bool (w : World) : (zeroValue 4).run Try.prog w = .ok (.bool false) w := by kernel_rfl
theorem wf_of {a : Int} (h3 : -9223372036854775808 ≤ a) (h4 : a ≤ 9223372036854775807) : (Lit.int .i64 a).wf = true := by
  have e1 : IntKind.i64.min = -9223372036854775808 := by decide
  have e2 : IntKind.i64.max = 9223372036854775807 := by decide
  simp only [Lit.wf, e1, e2, Bool.and_eq_true, decide_eq_true_eq]
  exact ⟨h3, h4⟩
set_option maxRecDepth 100000 in
theorem GMap.look {w : World} {m n : Nat} {G : Int → Prop} (h : GMap w m n G) {id : Int} (hw : (Lit.int .i64 id).wf = true) (hG : ¬ G id) :
    (Instr.lookup 38 (.map (some m)) (.int .i64 id) false).run Try.prog w = .ok (.bool false) w := by
  obtain ⟨D, h1, h2⟩ := h
  obtain ⟨v, ps, hrun, hv⟩ := h1.lookup keyed_int Try.underlying38 (zero_bool w) (plainElem_bool Try.underlying4 false) (keyOf_int_mk Try.underlying3 hw)
  have hno : Maps.has D (.int .i64 id) = false := by
    cases hh : Maps.has D (.int .i64 id) with
    | false => rfl
    | true => exact absurd (h2 _ hh) hG
  rw [atKey_of_not_has hno] at hv
  rw [hrun]
  unfold plainElem at hv
  rw [Try.underlying4] at hv
  cases v <;> simp at hv
  rw [hv.1]
theorem GMap.store {w : World} {m n : Nat} {G : Int → Prop} (h : GMap w m n G) {id : Int} (hw : (Lit.int .i64 id).wf = true) (hn : n ≤ 1000000) :
    ∃ w', (Instr.mapUpdate 38 (.map (some m)) (.int .i64 id) (.bool true)).run Try.prog w = .ok () w' ∧ GMap w' m (n + 1) (fun z => G z ∨ z = id) ∧ w.grownBy w' (some m) ∧ w'.heap.size = w.heap.size := by
  obtain ⟨D, h1, h2⟩ := h
  obtain ⟨w', hrun, h3, h4⟩ := h1.store keyed_int Try.underlying38 (by unfold maxLen; omega) (keyOf_int_mk Try.underlying3 hw) (plainElem_bool Try.underlying4 true)
  refine ⟨w', hrun, ⟨_, h3, fun z hz => ?_⟩, h4.grown, ?_⟩
  · by_cases e : z = id
    · exact .inr e
    · rw [has_put_other (by intro e'; injection e' with _ e'; exact e e')] at hz
      exact .inl (h2 z hz)
  · obtain ⟨_, _, _, _, _, rfl⟩ := h4
    simp [ChangeMaps.setBlock]

structure PS (W w : World) (b g p a o m : Nat) (S T : List SL) (G : Int → Prop) (N : Nat) : Prop where
  s : IsS w b g S
  n : IsN w p a o T
  gm : GMap w m N G
  d1 : ∀ k, k = b ∨ k = g → ¬ NOf p a o k ∧ k ≠ m
  d2 : ∀ k, NOf p a o k → k ≠ m
  f1 : ∀ k, k = b ∨ k = g → W.heap.size ≤ k
  f2 : ∀ k, NOf p a o k → W.heap.size ≤ k
  f3 : W.heap.size ≤ m
  fr : Below W.heap.size W w
theorem PS.slots {W w w' : World} {b g p a o m : Nat} {S S' T : List SL} {G : Int → Prop} {N : Nat} (h : PS W w b g p a o m S T G N) (hp : SPost b g S' w w') : PS W w' b g p a o m S' T G N :=
  ⟨hp.1, h.n.keep (fun k hk => hp.2.block k (h.n.lt k hk) (fun hh => (h.d1 k hh).1 hk)), h.gm.keep (hp.2.block m h.gm.lt (fun hh => (h.d1 m hh).2 rfl)), h.d1, h.d2, h.f1, h.f2, h.f3, h.fr.trans (hp.2.below h.f1 h.fr.size)⟩
theorem PS.names {W w w' : World} {b g p a o m : Nat} {S T T' : List SL} {G : Int → Prop} {N : Nat} (h : PS W w b g p a o m S T G N) (hp : NPost p a o T' w w') : PS W w' b g p a o m S T' G N :=
  ⟨h.s.keep (hp.2.block b h.s.ltb (h.d1 b (.inl rfl)).1) (hp.2.block g h.s.ltg (h.d1 g (.inr rfl)).1), hp.1, h.gm.keep (hp.2.block m h.gm.lt (fun hh => h.d2 m hh rfl)), h.d1, h.d2, h.f1, h.f2, h.f3, h.fr.trans (hp.2.below h.f2 h.fr.size)⟩
theorem PS.below {W w w' : World} {b g p a o m : Nat} {S T : List SL} {G : Int → Prop} {N : Nat} (h : PS W w b g p a o m S T G N) (hb : Below w.heap.size w w') : PS W w' b g p a o m S T G N :=
  ⟨h.s.below hb, h.n.below hb, h.gm.keep (hb.block m h.gm.lt), h.d1, h.d2, h.f1, h.f2, h.f3, h.fr.trans (hb.mono h.fr.size)⟩
theorem PS.drew {W w : World} {b g p a o m : Nat} {S T : List SL} {G : Int → Prop} {N : Nat} (h : PS W w b g p a o m S T G N) : PS W w.drew b g p a o m S T G N := h.below ((Below.refl _ w).drew)
theorem PS.stored {W w w' : World} {b g p a o m : Nat} {S T : List SL} {G G' : Int → Prop} {N N' : Nat} (h : PS W w b g p a o m S T G N) (hm : GMap w' m N' G') (hg : w.grownBy w' (some m)) : PS W w' b g p a o m S T G' N' :=
  ⟨h.s.keep (hg.block b h.s.ltb (fun e => (h.d1 b (.inl rfl)).2 (Option.some.inj e))) (hg.block g h.s.ltg (fun e => (h.d1 g (.inr rfl)).2 (Option.some.inj e))),
    h.n.keep (fun k hk => hg.block k (h.n.lt k hk) (fun e => h.d2 k hk (Option.some.inj e))), hm, h.d1, h.d2, h.f1, h.f2, h.f3,
    h.fr.grown hg h.fr.size (fun k e => by injection e with e; subst e; exact h.f3)⟩
theorem PS.weak {W w : World} {b g p a o m : Nat} {S T : List SL} {G G' : Int → Prop} {N N' : Nat} (h : PS W w b g p a o m S T G N) (hn : N ≤ N') (hG : ∀ z, G z → G' z) : PS W w b g p a o m S T G' N' :=
  ⟨h.s, h.n, h.gm.weak hn hG, h.d1, h.d2, h.f1, h.f2, h.f3, h.fr⟩

/-- What has been given out. -/
def gaveS (S : List SL) (z : Int) : Prop := ∃ k j t c, S[k]? = some (t, c) ∧ j < tnV (t, c) ∧ z = ((k + 64 * j : Nat) : Int)
theorem gave_not {S : List SL} (hl : S.length ≤ 64) {k t : Nat} (hk : S[k]? = some (t, false)) : ¬ gaveS S ((k : Int) + 64 * (t : Int)) := by
  rintro ⟨k', j, t', c', h1, h2, h3⟩
  have l1 := (List.getElem?_eq_some_iff.1 hk).1
  have l2 := (List.getElem?_eq_some_iff.1 h1).1
  obtain rfl : k' = k := by omega
  rw [hk] at h1
  injection h1 with h1
  injection h1 with h1 h4
  subst h1 h4
  simp [tnV] at h2
  omega
theorem gave_take {S : List SL} {k t : Nat} (hk : S[k]? = some (t, false)) {z : Int} (h : gaveS S z ∨ z = (k : Int) + 64 * (t : Int)) : gaveS (S.set k (t, true)) z := by
  have l1 := (List.getElem?_eq_some_iff.1 hk).1
  rcases h with ⟨k', j, t', c', h1, h2, rfl⟩ | rfl
  · by_cases e : k' = k
    · subst e
      rw [hk] at h1
      injection h1 with h1
      injection h1 with h1 h4
      subst h1 h4
      simp [tnV] at h2
      exact ⟨k', j, t, true, by simp [l1], by simp [tnV]; omega, rfl⟩
    · exact ⟨k', j, t', c', by rw [List.getElem?_set_ne (Ne.symm e)]; exact h1, h2, rfl⟩
  · exact ⟨k, t, t, true, by simp [l1], by simp [tnV], by omega⟩
theorem gave_free {S : List SL} {id z : Int} (h : gaveS S z) : gaveS (freeS S id).2 z := by
  unfold freeS
  cases hs : hasS S id with
  | false => exact h
  | true =>
    unfold hasS at hs
    simp only [Bool.and_eq_true, decide_eq_true_eq, beq_iff_eq] at hs
    obtain ⟨hn, hx⟩ := hs
    have l1 := (List.getElem?_eq_some_iff.1 hx).1
    simp only [if_true]
    obtain ⟨k', j, t', c', h1, h2, rfl⟩ := h
    by_cases e : k' = (id % 64).toNat
    · subst e
      rw [hx] at h1
      injection h1 with h1
      injection h1 with h1 h4
      subst h1 h4
      simp [tnV] at h2
      exact ⟨_, j, (id / 64).toNat + 1, false, by simp [l1], by simp [tnV]; omega, rfl⟩
    · exact ⟨k', j, t', c', by rw [List.getElem?_set_ne (Ne.symm e)]; exact h1, h2, rfl⟩
theorem free_bd {S : List SL} {id : Int} {N : Nat} (h : ∀ x ∈ S, x.1 ≤ N) : ∀ x ∈ (freeS S id).2, x.1 ≤ N + 1 := by
  unfold freeS
  cases hs : hasS S id with
  | false => intro x hx; have := h x hx; omega
  | true =>
    unfold hasS at hs
    simp only [Bool.and_eq_true, decide_eq_true_eq, beq_iff_eq] at hs
    obtain ⟨hn, hx0⟩ := hs
    have := h _ (List.mem_of_getElem? hx0)
    simp only at this
    simp only [if_true]
    intro x hx
    rcases List.mem_or_eq_of_mem_set hx with h1 | h1
    · have := h x h1; omega
    · subst h1; simp only; omega
theorem take_bd {S : List SL} {N k t : Nat} {c c' : Bool} (h : ∀ x ∈ S, x.1 ≤ N) (hk : S[k]? = some (t, c)) : ∀ x ∈ S.set k (t, c'), x.1 ≤ N := by
  intro x hx
  rcases List.mem_or_eq_of_mem_set hx with h1 | h1
  · exact h x h1
  · subst h1; exact h (t, c) (List.mem_of_getElem? hk)
/-- What Take does: nothing is free, or the least free place goes. -/
theorem take_cases (S : List SL) : takeS S = (0, 3, S) ∨ ∃ k t : Nat, S[k]? = some (t, false) ∧ takeS S = ((k : Int) + 64 * (t : Int), 0, S.set k (t, true)) := by
  cases hp : placesL S false with
  | nil => exact .inl (takeS_none hp)
  | cons k r =>
    obtain ⟨t, ht⟩ := mem_placesL (S := S) (c := false) (k := k) (by rw [hp]; simp)
    refine .inr ⟨k, t, ht, ?_⟩
    rw [takeS_some hp ht]
    simp
theorem ps_new {W w w' : World} {b g p a o n : Nat} {S : List SL} (h : SAt W w b g S) (hb : Below w.heap.size w w') (hn : IsN w' p a o S) (hf : ∀ k, NOf p a o k → w.heap.size ≤ k) (hnn : n = w'.heap.size) :
    PS W (w'.alloc (.map #[] 0)) b g p a o n S S (gaveS S) 0 := by
  subst hnn
  have hba : Below w'.heap.size w' (w'.alloc (.map #[] 0)) := (Below.refl _ w').alloc (Nat.le_refl _) _
  have h1 := h.is.ltb
  have h2 := h.is.ltg
  have h3 := hb.size
  have h4 := h.fr.size
  have h5 := h.below hb
  refine ⟨(h5.below hba).is, hn.below hba, GMap.new w' _, fun k hk => ⟨fun hh => ?_, ?_⟩, fun k hk => ?_, fun k hk => ?_, fun k hk => ?_, by omega, (h5.below hba).fr⟩
  · have := hf k hh; omega
  · omega
  · have := hn.lt k hk; omega
  · rcases hk with rfl | rfl
    · exact h.nb
    · exact h.ng
  · have := hf k hk; omega
end Go.Proofs.Ytmjffgkolcdoeaa
