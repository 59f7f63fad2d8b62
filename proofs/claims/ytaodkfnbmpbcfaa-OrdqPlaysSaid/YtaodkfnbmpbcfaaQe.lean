/- Rows of the reference: Put. -/
import Derived.Test.YtaodkfnbmpbcfaaQb
import Derived.Test.YtaodkfnbmpbcfaaDc
import Derived.Test.YtaodkfnbmpbcfaaPh
import Derived.Laws.OwnMore
import Derived.BigQuiet
import Derived.StillTailTactics
import Derived.Deep.RegionHeld3
namespace Go.Proofs.Ytaodkfnbmpbcfaa
open Go.RowKit

theorem atR_none {id : Int} : ∀ {l : List RI} {j : Nat}, atR id l j = -1 → ∀ z ∈ l, z.2.2 ≠ id
  | [], _, _, z, hz => by cases hz
  | y :: ys, j, h, z, hz => by
    unfold atR at h
    split at h
    · omega
    · rename_i hne
      rcases List.mem_cons.1 hz with rfl | hz
      · exact hne
      · exact atR_none h z hz
theorem keyV_at {l : List RI} {id : Int} : ((keyV (qL l) id).2 = true ∧ ∃ k x, atR id l 0 = ((k : Nat) : Int) ∧ l[k]? = some x ∧ x.2.2 = id) ∨ ((keyV (qL l) id).2 = false ∧ atR id l 0 = -1 ∧ ∀ z ∈ qL l, z.2 ≠ id) := by
  rcases atR_found id l 0 with h | ⟨k, x, h1, h2, h3⟩
  · have hn : ∀ z ∈ qL l, z.2 ≠ id := fun z hz => by
      obtain ⟨r, hr, rfl⟩ := mem_qL.1 hz
      exact atR_none h r hr
    exact .inr ⟨by rw [keyV_no hn], h, hn⟩
  · refine .inl ⟨?_, k, x, by simpa using h1, h2, h3⟩
    cases hk : (keyV (qL l) id).2 with
    | true => rfl
    | false => exact absurd h3 (keyV_none hk (x.1, x.2.2) (mem_qL.2 ⟨x, List.mem_of_getElem? h2, rfl⟩))
theorem insT_split {l : List RI} {x : RI} : ∀ {k : Nat}, k ≤ l.length → (∀ z ∈ l.take k, befB z x = true) → insT l x = l.take k ++ insT (l.drop k) x := by
  induction l with
  | nil => intro k _ _; simp
  | cons y ys ih =>
    intro k hk h
    cases k with
    | zero => simp
    | succ k =>
      have hy : befQ (y.1, y.2.2) (x.1, x.2.2) = true := h y (by simp)
      rw [insT, if_pos hy, ih (k := k) (by simpa using hk) (fun z hz => h z (by rw [List.take_succ_cons]; exact List.mem_cons_of_mem _ hz))]
      rfl
theorem insT_here {l : List RI} {x : RI} {k : Nat} (hk : k ≤ l.length) (h : ∀ z ∈ l.take k, befB z x = true) (hx : ∀ y, l[k]? = some y → befB y x = false) : insT l x = l.take k ++ [x] ++ l.drop k := by
  rw [insT_split hk h]
  have e : insT (l.drop k) x = [x] ++ l.drop k := by
    cases hd : l.drop k with
    | nil => rfl
    | cons y ys =>
      have hy : l[k]? = some y := by
        have := congrArg (fun t => t[0]?) hd
        simpa using this
      have hb : befQ (y.1, y.2.2) (x.1, x.2.2) = false := hx y hy
      rw [insT, if_neg (by rw [hb]; simp)]
      rfl
  rw [e, List.append_assoc]

/-- What is appended: nil, or cells that lie somewhere. -/
def SrcAt (w : World) (X : Option Addr) (m c : Nat) (news : List Value) : Prop :=
  (X = none ∧ m = 0 ∧ c = 0 ∧ news = []) ∨ ∃ ad, X = some ad ∧ ∀ j u, news[j]? = some u → w.cell? (ad.add j) = some u
/-- append in a region that draws its order, to a slice that is not nil, of a slice that may be. -/
theorem stepw_src {P : Program} {w : World} {ops : Array Oper} {o : Oper} {a : Act} {K : Act → World → Prop} {Q : Exit → Act → World → Prop} {E : Prop}
    (hg : o.guard = none) (s x : Operand) (t : TypeId) (hop : o.op = Op.call { callee := Callee.builtin Builtin.append, args := #[s, x], argTypes := #[t, t] })
    (base : Nat) (e : TypeId) (i : TypeInfo) (z : Value) (size bytes : Nat) (h1 : P.underlying t = some (.slice e)) (h2 : P.info? e = some i) (h3 : i.zero = some z) (h4 : i.size = size) (h5 : i.bytes = bytes) (h6 : z.cells.size = size) (h7 : 0 < size)
    (g0 cap0 k : Nat) (xs : List Value) (hs : a.eval s = .slice (some ⟨g0, 0, none⟩) k cap0) (hown : w.ownsRow base e size (.slice (some ⟨g0, 0, none⟩) k cap0) k xs) (X : Option Addr) (m c : Nat) (news : List Value) (hx : a.eval x = .slice X m c) (hn : news.length = m * size)
    (hc : SrcAt w X m c news) (h1c : ∀ u ∈ news, u.oneCell' = true) (b1 : k + m ≤ maxLen) (b2 : (k + m) * bytes ≤ 140737488355328) (b3 : base ≤ w.heap.size)
    (hK : ∀ g1 c1 w', w'.ownsRow base e size (.slice (some ⟨g1, 0, none⟩) (k + m) c1) (k + m) (xs ++ news) → w.grownBy w' (some g0) → (g1 = g0 ∨ w.heap.size ≤ g1) → K (a.put o.dst (.slice (some ⟨g1, 0, none⟩) (k + m) c1)) w') :
    if Region.wanted o (yielded ops a.tmps) = true then Oper.wp P o a w K Q else E := by
  rcases hc with ⟨rfl, rfl, rfl, rfl⟩ | ⟨ad, rfl, hc⟩
  · have hw : Region.wanted o (yielded ops a.tmps) = true := by simp [Region.wanted, hg]
    rw [if_pos hw]
    have hrun := run_append_owned_none (P := P) (w := w) base t o.type e i size h1 h2 _ k xs hown
    unfold Oper.wp execOp
    simp only [hop, resolve, invoke, builtin, Sem.run_bind, Sem.run_pure, Result.andThen_ok, List.map_toArray, List.map_cons, List.map_nil, hs, hx, hrun]
    exact hK g0 cap0 w (by simpa using hown) ⟨rfl, rfl, rfl, Nat.le_refl _, fun _ _ _ => rfl⟩ (.inl rfl)
  · exact stepw_where hg s x t hop base e i z size bytes h1 h2 h3 h4 h5 h6 h7 g0 cap0 k xs hs hown ad m c news hx hn hc h1c b1 b2 b3 hK
theorem grown_other {w w' : World} {g k : Nat} (h : w.grownBy w' (some g)) (hk : k < w.heap.size) (hne : k ≠ g) : w'.heap[k]? = w.heap[k]? := h.block k hk (fun e => hne (Option.some.inj e))
theorem grown_below {B : Nat} {a w w' : World} {g : Nat} (hb : Below B a w) (h : w.grownBy w' (some g)) (hg : B ≤ g) (hB : B ≤ w.heap.size) : Below B a w' := hb.grown h hB (fun k e => by cases e; exact hg)

set_option maxRecDepth 100000 in
set_option maxHeartbeats 1000000 in
theorem rowPut_old (b : Nat) (most : Int) (x : RI) (v : Value) (l : List RI) (w : World) (h : IsRow w b most v l) (hl : l.length ≤ 1000000) (hk : 0 ≤ atR x.2.2 l 0) :
    Calls Try.prog 9 #[.pointer (some ⟨b, 0, none⟩), .agg (encR x).toArray] w fun e w' => e = .returned (.int .i64 4) ∧ IsRow w' b most v l ∧ Trip (fun j => j = b) w (fun j => j = b) w' := by
  have K1 := Lib.hid (fun (o : Obj) => rowAt_c b most x.2.2 v l (w.alloc o) (h.alloc o) hl)
  have HROW := Lib.hid h
  have hbl : b < w.heap.size := (Array.getElem?_eq_some_iff.1 h.1).1
  obtain ⟨x0, x1, x2⟩ := x
  simp only [encR] at hk K1 ⊢
  generalize atR x2 l 0 = at0 at *
  have hd : decide (0 ≤ at0) = true := decide_eq_true hk
  clear h
  go_enter Try.func9, Try.ntmps9
  go_wp2_with fail
  refine (K1.out _).mono ?_
  rintro e w' ⟨rfl, rfl⟩
  go_wp2_with fail
  go_ret
  exact ⟨rfl, HROW.out.alloc _, (Trip.refl (fun j hj => by omega)).alloc _⟩

set_option maxRecDepth 100000 in
set_option maxHeartbeats 1000000 in
theorem rowPut_full (b : Nat) (most : Int) (x : RI) (v : Value) (l : List RI) (w : World) (h : IsRow w b most v l) (hl : l.length ≤ 1000000) (hk : atR x.2.2 l 0 = -1) (hf : most ≤ (l.length : Int)) :
    Calls Try.prog 9 #[.pointer (some ⟨b, 0, none⟩), .agg (encR x).toArray] w fun e w' => e = .returned (.int .i64 3) ∧ IsRow w' b most v l ∧ Trip (fun j => j = b) w (fun j => j = b) w' := by
  have k1 := fun (o : Obj) => rowAt_c b most x.2.2 v l (w.alloc o) (h.alloc o) hl
  rw [hk] at k1
  have K1 := Lib.hid k1
  have HROW := Lib.hid h
  have hbl : b < w.heap.size := (Array.getElem?_eq_some_iff.1 h.1).1
  obtain ⟨A, c, rfl⟩ := h.2.1.form
  obtain ⟨n, hn⟩ : ∃ n, l.length = n := ⟨_, rfl⟩
  have c0 : w.cell? ⟨b, 0, none⟩ = some (.int .i64 most) := by simp [World.cell?, h.1]
  have c1 : w.cell? ⟨b, 1, none⟩ = some (.slice A n c) := by simp [World.cell?, h.1, hn]
  rw [hn] at hf
  obtain ⟨x0, x1, x2⟩ := x
  simp only [encR] at K1 ⊢
  have hd : decide (most ≤ (n : Int)) = true := decide_eq_true hf
  have w1c0 : (w.alloc (.cells #[.int .i64 x0, .int .i64 x1, .int .i64 x2] 38)).cell? ⟨b, 0, none⟩ = some (.int .i64 most) := ((((Below.refl _ w).alloc (Nat.le_refl _) _)).cell (p := ⟨b, 0, none⟩) hbl).trans c0
  have w1c1 : (w.alloc (.cells #[.int .i64 x0, .int .i64 x1, .int .i64 x2] 38)).cell? ⟨b, 1, none⟩ = some (.slice A n c) := ((((Below.refl _ w).alloc (Nat.le_refl _) _)).cell (p := ⟨b, 1, none⟩) hbl).trans c1
  clear h hn k1 hk
  go_enter Try.func9, Try.ntmps9
  go_wp2_with fail
  refine (K1.out _).mono ?_
  rintro e w' ⟨rfl, rfl⟩
  go_wp2_with fail
  go_big_quiet (fail)
  go_wp2_with fail
  go_ret
  refine ⟨rfl, (HROW.out.alloc _).keep (fun _ _ => rfl), ?_⟩
  have ht : Trip (fun j => j = b) w (fun j => j = b) (w.alloc (.cells #[.int .i64 x0, .int .i64 x1, .int .i64 x2] 38)) := (Trip.refl (fun j hj => by omega)).alloc _
  exact ⟨ht.os, ht.tape, ht.output, ht.size, ht.block, ht.sub, ht.bd⟩
end Go.Proofs.Ytaodkfnbmpbcfaa
