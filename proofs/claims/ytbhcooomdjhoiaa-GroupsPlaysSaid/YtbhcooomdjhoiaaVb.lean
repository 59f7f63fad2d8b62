/- Groups: numbers. -/
import Derived.Test.YtbhcooomdjhoiaaVa
namespace Go.Proofs.Ytbhcooomdjhoiaa
open Go.RowKit

def numsTo (G : List GR) (c : Bool) (k : Nat) : List Nat := (List.range k).filter (fun j => (G[j]?.map (·.2)) == some c)
def numsL (G : List GR) (c : Bool) : List Nat := numsTo G c G.length
theorem numsTo_yes {S : List GR} {c : Bool} {k t : Nat} (h : S[k]? = some (t, c)) : numsTo S c (k + 1) = numsTo S c k ++ [k] := by
  unfold numsTo
  rw [List.range_succ, List.filter_append]
  simp [h]
theorem numsTo_no {S : List GR} {c x : Bool} {k t : Nat} (h : S[k]? = some (t, x)) (hx : x ≠ c) : numsTo S c (k + 1) = numsTo S c k := by
  unfold numsTo
  rw [List.range_succ, List.filter_append]
  simp [h, hx]
theorem numsTo_le (S : List GR) (c : Bool) {k n : Nat} (h : k ≤ n) : numsTo S c k <+: numsTo S c n := by
  induction n with
  | zero => obtain rfl : k = 0 := by omega
            exact List.prefix_refl _
  | succ n ih =>
    by_cases e : k = n + 1
    · subst e; exact List.prefix_refl _
    · refine (ih (by omega)).trans ?_
      unfold numsTo
      rw [List.range_succ, List.filter_append]
      exact ⟨_, rfl⟩
theorem mem_numsL {S : List GR} {c : Bool} {k : Nat} (h : k ∈ numsL S c) : ∃ t, S[k]? = some (t, c) := by
  unfold numsL numsTo at h
  rw [List.mem_filter] at h
  have h1 := List.mem_range.1 h.1
  have h2 := h.2
  obtain ⟨y, hy⟩ : ∃ y, S[k]? = some y := ⟨_, List.getElem?_eq_getElem h1⟩
  obtain ⟨t, x⟩ := y
  rw [hy] at h2 ⊢
  simp at h2
  exact ⟨t, by rw [h2]⟩
theorem cells_of {W W' : World} {b : Nat} (h : W'.heap[b]? = W.heap[b]?) (o : Nat) : W'.cell? ⟨b, o, none⟩ = W.cell? ⟨b, o, none⟩ := World.cell?_of_block (w := W) h

/-- The array of the groups, out of their block. -/
theorem info_garr : (Try.prog.info? 47).map (·.size) = some 32 := by kernel_rfl
theorem wpListIn_load_row {F : Fence} {n : Nat} {P : Program} {w : World} {ops : Array Oper} {rest : List Oper} {o : Oper} {a : Act} {Q : Exit → Act → World → Prop} (hgd : o.guard = none) (ty : TypeId) (x : Operand) (ho : o.op = .load ty x)
    (g : Nat) (hx : a.eval x = .pointer (some ⟨g, 0, none⟩)) (t : TypeId) (cs : Array Value) (fr : Nat × Nat) (d : TypeDesc) (hg : w.heap[g]? = some (.cells cs t fr))
    (hu : P.underlying ty = some d) (hd : (match d with | .struct _ | .array _ _ => true | _ => false) = true) (hi : (P.info? ty).map (·.size) = some cs.size)
    (h : wpListIn F n P ops Q rest (a.put o.dst (.agg cs)) w) : wpListIn F n P ops Q (o :: rest) a w := by
  refine wpListIn_plain hgd fun K hK' => ?_
  unfold Oper.wpIn
  refine ⟨?_, ?_⟩
  · simp [Oper.about, ho]
  · rw [Oper.semAt_plain F _ _ (by rw [ho]; intro c hc'; cases hc')]
    unfold execOp
    simp only [ho, hx, Instr.loadAt, Instr.sureAddr, Sem.run_bind, Sem.run_pure, Result.andThen_ok, run_loadVar_row w g t ty cs fr d hg hu hd hi]
    exact hK' _ _ h
theorem info_grp : (Try.prog.info? 46).map (·.size) = some 2 := by kernel_rfl
theorem arr_index {G : List GR} {k u : Nat} {c : Bool} (hl : G.length = 16) (h : G[k]? = some (u, c)) (w : World) :
    (Instr.index 47 (.agg (flatG G).toArray) (.int .i64 k)).run Try.prog w = .ok (.agg #[.int .i64 u, .bool c]) w := by
  have h1 := flatG_get0 h
  have h2 := flatG_get1 h
  have hk : k < 16 := by rw [← hl]; exact (List.getElem?_eq_some_iff.1 h).1
  have hf : (flatG G).length = 32 := by rw [flatG_length, hl]
  obtain ⟨i, hi⟩ : ∃ i, Try.prog.info? 46 = some i := by cases hq : Try.prog.info? 46 with | none => have := info_grp; rw [hq] at this; simp at this | some i => exact ⟨i, rfl⟩
  have hi2 : i.size = 2 := by have := info_grp; rw [hi] at this; simpa using this
  have e : (flatG G).toArray.extract (k * 2) (k * 2 + 2) = #[.int .i64 u, .bool c] := by
    apply Array.ext_getElem?
    intro j
    rw [Array.getElem?_extract]
    match j with
    | 0 => simp [hf, h1]; omega
    | 1 => simp [hf, h2]; omega
    | j + 2 => simp; omega
  unfold Instr.index
  have e' : List.take 2 (List.drop (k * 2) (flatG G)) = [.int .i64 u, .bool c] := by
    have := congrArg Array.toList e
    simpa using this
  simp [go_sem, asIntOf, part, isAgg, sizeOf, typeInfo, hi, hi2, hk, e']

/-- What the iterator reads. -/
def NReads (rs rc b : Nat) (k : Nat) : Prop := k = rs ∨ k = rc ∨ k = b

attribute [local go_sem] Oper.semAt_some wide_fn wide_depth in
set_option maxRecDepth 100000 in
set_option maxHeartbeats 2000000 in
theorem nums1_gives (rs rc b : Nat) (c : Bool) (S : List GR) (W0 : World) (hr : W0.heap[rs]? = some (.cells #[.pointer (some ⟨b, 0, none⟩)] 23 (0, 0))) (hc : W0.heap[rc]? = some (.cells #[.bool c] 4 (0, 0))) (hs : IsG W0 b S) :
    Gives3 Try.prog 27 #[.pointer (some ⟨rs, 0, none⟩), .pointer (some ⟨rc, 0, none⟩)] (fun x : Nat => #[Value.int .i64 x]) (numsL S c) (NReads rs rc b) W0 := by
  intro l J Jx A W hJ hJx hA hR hY h0
  have hall : ∀ pre A1 W1, J pre A1 W1 → IsG W1 b S ∧ W1.cell? ⟨rs, 0, none⟩ = some (.pointer (some ⟨b, 0, none⟩)) ∧ W1.cell? ⟨rc, 0, none⟩ = some (.bool c) := fun pre A1 W1 h1 => by
    refine ⟨hs.keep (hR _ _ _ h1 b (.inr (.inr rfl))).2, ?_, ?_⟩
    · simp [World.cell?, (hR _ _ _ h1 rs (.inl rfl)).2.trans hr]
    · simp [World.cell?, (hR _ _ _ h1 rc (.inr (.inl rfl))).2.trans hc]
  obtain ⟨hs1, c0, _⟩ := hall _ _ _ h0
  have hbx := hs1.box
  have HIX := Lib.hid (fun k u c h w => arr_index (k := k) (u := u) (c := c) hs.len h w)
  have HALL := Lib.hid hall
  have HY := Lib.hid hY
  have HJ := Lib.hid hJ
  have HA := Lib.hid hA
  have H0 := Lib.hid h0
  have HN := Lib.hid hs.len
  obtain ⟨cs, hcs⟩ : ∃ cs, (flatG S).toArray = cs := ⟨_, rfl⟩
  have hcz : cs.size = 32 := by rw [← hcs, List.size_toArray, flatG_length, hs.len]
  rw [hcs] at hbx HIX
  clear hR hr hc hs hs1 hall hY hJ hJx hA h0 hcs
  refine callsIn_of_wp Try.func27 rfl trivial ?_ rfl
  simp only [Try.ntmps27, List.size_toArray, List.length_cons, List.length_nil, Nat.reduceAdd, Nat.reduceSub, Array.replicate_succ, Array.replicate_zero, List.push_toArray, List.append_toArray, List.nil_append, List.cons_append]
  have HBX := Lib.hid hbx
  have HCZ := Lib.hid (show (Try.prog.info? 47).map (·.size) = some cs.size by rw [hcz]; exact info_garr)
  clear hbx hcz
  gi_wp2_with (refine wpListIn_load_row rfl 47 _ rfl b rfl _ cs (0, 0) _ HBX.out Try.underlying47 rfl HCZ.out ?_)
  gi_loopw [10] (fun x wr => ∃ (k : Nat) (A1 : Nat → Prop), x = .int .i64 k ∧ k ≤ 16 ∧ Hid (Trip A W A1 wr ∧ J (numsTo S c k) A1 wr)) (fun x _ => 16 - (intOf x).toNat)
  case atStart => exact ⟨0, A, rfl, Nat.zero_le _, Lib.hid ⟨Trip.refl HA.out, by simpa [numsTo] using H0.out⟩⟩
  case round =>
    obtain ⟨k, A1, rfl, hk, HK⟩ := hrel
    by_cases hlt : k < 16
    · have hkl : k < S.length := by rw [HN.out]; exact hlt
      obtain ⟨⟨t, x⟩, hx⟩ : ∃ x, S[k]? = some x := ⟨_, List.getElem?_eq_getElem hkl⟩
      obtain ⟨ht, hj⟩ := HK.out
      have hix := HIX.out k t x hx
      have hj' : J (numsTo S c k) A1 (wr.alloc (.cells #[.int .i64 t, .bool x] 46)) := HJ.out _ _ _ _ hj (fun j hj => Below.heap_alloc wr _ j (ht.bd j hj))
      obtain ⟨_, _, e3⟩ := HALL.out _ _ _ hj'
      have ht' := ht.alloc (.cells #[.int .i64 t, .bool x] 46)
      by_cases hxc : x = c
      · subst hxc
        obtain ⟨fn, tmps, assign, body, hy, hR⟩ := HY.out (numsTo S x k) k A1 _ hj' (by rw [← numsTo_yes hx]; exact numsTo_le _ _ (by omega)) (fun j hj => by rw [World.size_alloc]; have := ht.bd j hj; omega)
        have HR := Lib.hid hR
        have HX := Lib.hid hx
        have HT := Lib.hid ht'
        clear hR hj hj' hx ht ht' hkl
        gi_wp2
        refine HR.out.mono ?_
        rintro e W3 ⟨A2, ht3, ⟨rfl, hj3⟩ | ⟨rfl, hj3⟩⟩
        · have HN3 : Hid (Trip A W A2 W3 ∧ J (numsTo S x (k + 1)) A2 W3) := Lib.hid ⟨HT.out.trans ht3, by rw [numsTo_yes HX.out]; exact hj3⟩
          clear hj3 ht3
          gi_wp2
          go_roundw
          case rel => exact ⟨k + 1, A2, by go_num, by omega, HN3⟩
          case measure => simp [intOf]; omega
        · have HT3 := Lib.hid ht3
          have HJ3 := Lib.hid hj3
          clear ht3 hj3
          gi_wp2
          refine bodyPost_ret (results_none rfl _ _ _) rfl ?_
          exact ⟨⟨_, rfl⟩, A2, HT.out.trans HT3.out, .inr ⟨_, by rw [← numsTo_yes HX.out]; exact numsTo_le _ _ (by have := HN.out; omega), HJ3.out⟩⟩
      · have HN3 : Hid (Trip A W A1 (wr.alloc (.cells #[.int .i64 t, .bool x] 46)) ∧ J (numsTo S c (k + 1)) A1 (wr.alloc (.cells #[.int .i64 t, .bool x] 46))) := Lib.hid ⟨ht', by rw [numsTo_no hx hxc]; exact hj'⟩
        clear hj hj' hx ht ht' hkl
        cases x <;> cases c <;> first | exact absurd rfl hxc | skip
        all_goals
          gi_wp2
          go_roundw
          case rel => exact ⟨k + 1, A1, by go_num, by omega, HN3⟩
          case measure => simp [intOf]; omega
    · obtain rfl : k = 16 := by omega
      obtain ⟨ht, hj⟩ := HK.out
      have HT := Lib.hid ht
      have HJ2 := Lib.hid hj
      clear ht hj
      gi_wp2
      go_end0
      exact ⟨⟨_, rfl⟩, A1, HT.out, .inl (by have := HJ2.out; rwa [← HN.out] at this)⟩

theorem numbers_c (b : Nat) (c : Bool) (w : World) (n : Nat) (hn : n = w.heap.size) :
    Calls Try.prog 23 #[.pointer (some ⟨b, 0, none⟩), .bool c] w fun e w' => e = .returned (.func (.func 27) #[] #[.pointer (some ⟨n, 0, none⟩), .pointer (some ⟨n + 1, 0, none⟩)]) ∧
      w'.heap[n]? = some (.cells #[.pointer (some ⟨b, 0, none⟩)] 23 (0, 0)) ∧ w'.heap[n + 1]? = some (.cells #[.bool c] 4 (0, 0)) ∧ w'.heap.size = n + 2 ∧ Below n w w' := by
  subst hn
  go_enter Try.func23, Try.ntmps23
  go_wp2
  go_ret
  refine ⟨rfl, ?_, ?_, by simp, ((Below.refl _ w).alloc (Nat.le_refl _) _).alloc (by simp) _⟩
  · exact (Below.heap_alloc _ _ _ (by simp)).trans (World.alloc_heap_new w _)
  · have := World.alloc_heap_new (w.alloc (.cells #[.pointer (some ⟨b, 0, none⟩)] 23)) (.cells #[.bool c] 4)
    rwa [World.size_alloc] at this
end Go.Proofs.Ytbhcooomdjhoiaa
