/- Groups: the way up. -/
import Derived.Test.YtbhcooomdjhoiaaVb
import Derived.Sort.QuietIn
namespace Go.Proofs.Ytbhcooomdjhoiaa
open Go.RowKit

/-- The way up from a group. -/
inductive Chn (G : List GR) : Nat → List Nat → Prop
  | root {u : Nat} : G[0]? = some (u, true) → Chn G 0 [0]
  | up {i u : Nat} {l : List Nat} : i ≠ 0 → G[i]? = some (u, true) → Chn G u l → Chn G i (i :: l)
def chainN (G : List GR) : Nat → Nat → List Nat
  | 0, _ => []
  | n + 1, i => match G[i]? with
    | some (u, true) => i :: (if i = 0 then [] else chainN G n u)
    | _ => []
theorem Chn.fn {G : List GR} {i : Nat} {l : List Nat} (h : Chn G i l) : ∀ n, l.length ≤ n → chainN G n i = l := by
  induction h with
  | root h =>
    rintro (_ | n) hn
    · simp at hn
    · simp [chainN, h]
  | up h0 h1 _ ih =>
    rintro (_ | n) hn
    · simp at hn
    · simp at hn; simp [chainN, h1, h0, ih n hn]
theorem Chn.ne {G : List GR} {i : Nat} {l : List Nat} (h : Chn G i l) : ∃ u r, l = i :: r ∧ G[i]? = some (u, true) := by
  cases h with
  | root h => exact ⟨_, _, rfl, h⟩
  | up _ h _ => exact ⟨_, _, rfl, h⟩
theorem Chn.inj {G : List GR} {i : Nat} {l l' : List Nat} (h : Chn G i l) (h' : Chn G i l') : l = l' := by
  have a := h.fn (l.length + l'.length) (by omega)
  have b := h'.fn (l.length + l'.length) (by omega)
  rw [← a, b]
theorem Chn.mem {G : List GR} {i : Nat} {l : List Nat} (h : Chn G i l) : ∀ x ∈ l, ∃ u, G[x]? = some (u, true) := by
  induction h with
  | root h => intro x hx; simp at hx; subst hx; exact ⟨_, h⟩
  | up _ h _ ih =>
    intro x hx
    rcases List.mem_cons.1 hx with rfl | hx
    · exact ⟨_, h⟩
    · exact ih x hx
/-- A tree, no more than four deep. -/
structure WfG (G : List GR) : Prop where
  len : G.length = 16
  root : ∃ u, G[0]? = some (u, true)
  all : ∀ i u, G[i]? = some (u, true) → ∃ l, Chn G i l ∧ l.length ≤ 4
/-- The way up from whatever number. -/
def chI (G : List GR) (id : Int) : List Nat := if hasG G id then chainN G 4 id.toNat else []
theorem chI_no {G : List GR} {id : Int} (h : hasG G id = false) : chI G id = [] := by unfold chI; rw [h]; rfl
theorem chI_of {G : List GR} {i : Nat} {l : List Nat} (h : Chn G i l) (hl : l.length ≤ 4) : chI G i = l := by
  obtain ⟨u, r, _, h1⟩ := h.ne
  unfold chI
  rw [hasG_in h1, if_pos rfl, Int.toNat_natCast, h.fn 4 hl]
theorem WfG.chn {G : List GR} (h : WfG G) {id : Int} (hh : hasG G id = true) : ∃ i : Nat, id = i ∧ Chn G i (chI G id) ∧ (chI G id).length ≤ 4 := by
  obtain ⟨k, u, rfl, hx⟩ := hasG_yes hh
  obtain ⟨l, h1, h2⟩ := h.all k u hx
  rw [chI_of h1 h2]
  exact ⟨k, rfl, h1, h2⟩
theorem WfG.len_ch {G : List GR} (h : WfG G) (id : Int) : (chI G id).length ≤ 4 := by
  cases hh : hasG G id with
  | false => rw [chI_no hh]; simp
  | true => obtain ⟨_, _, _, h3⟩ := h.chn hh; exact h3

theorem Trip.drewN {A A' : Nat → Prop} {W W' : World} (h : Trip A W A' W') (n : Nat) : Trip A W A' (W'.drewN n) := ⟨h.os, h.tape, h.output, h.size, h.block, h.sub, h.bd⟩
theorem hasq_c (b : Nat) (G : List GR) (id : Int) (w : World) (n : Nat) (h : IsG w b G) :
    Calls Try.prog 22 #[.pointer (some ⟨b, 0, none⟩), .int .i64 id] (w.drewN n) fun e w' => e = .returned (.bool (hasG G id)) ∧ w' = w.drewN n :=
  (has_c b G id (w.drewN n) ⟨h.box, h.len⟩).mono fun _ _ ⟨h1, h2⟩ => ⟨h1, h2.symm⟩

def muC (G : List GR) (x m : Value) : Nat := match m with
  | .bool true => (chI G (intOf x)).length
  | _ => 0

attribute [local go_sem] Oper.semAt_some wide_fn wide_depth in
set_option maxRecDepth 100000 in
set_option maxHeartbeats 2000000 in
theorem climb1_gives (ri rg b : Nat) (id : Int) (G : List GR) (W0 : World) (hi : W0.heap[ri]? = some (.cells #[.int .i64 id] 3 (0, 0))) (hr : W0.heap[rg]? = some (.cells #[.pointer (some ⟨b, 0, none⟩)] 23 (0, 0))) (hs : IsG W0 b G) (hw : WfG G) :
    Gives3 Try.prog 29 #[.pointer (some ⟨ri, 0, none⟩), .pointer (some ⟨rg, 0, none⟩)] (fun x : Nat => #[Value.int .i64 x]) (chI G id) (NReads ri rg b) W0 := by
  intro l J Jx A W hJ hJx hA hR hY h0
  have hall : ∀ pre A1 W1, J pre A1 W1 → IsG W1 b G ∧ W1.cell? ⟨ri, 0, none⟩ = some (.int .i64 id) ∧ W1.cell? ⟨rg, 0, none⟩ = some (.pointer (some ⟨b, 0, none⟩)) := fun pre A1 W1 h1 => by
    refine ⟨hs.keep (hR _ _ _ h1 b (.inr (.inr rfl))).2, ?_, ?_⟩
    · simp [World.cell?, (hR _ _ _ h1 ri (.inl rfl)).2.trans hi]
    · simp [World.cell?, (hR _ _ _ h1 rg (.inr (.inl rfl))).2.trans hr]
  obtain ⟨hs1, c0, c1⟩ := hall _ _ _ h0
  have KH := Lib.hid (fun n => hasq_c b G id W n hs1)
  have HW := Lib.hid hw
  have HALL := Lib.hid hall
  have HY := Lib.hid hY
  have HJ := Lib.hid hJ
  have HA := Lib.hid hA
  have H0 := Lib.hid h0
  clear hR hr hi hs hs1 hall hY hJ hJx hA h0 hw
  obtain ⟨mo, hmo⟩ : ∃ mo, hasG G id = mo := ⟨_, rfl⟩
  have HMO := Lib.hid hmo
  rw [hmo] at KH
  clear hmo
  refine callsIn_of_wp Try.func29 rfl trivial ?_ rfl
  simp only [Try.ntmps29, List.size_toArray, List.length_cons, List.length_nil, Nat.reduceAdd, Nat.reduceSub, Array.replicate_succ, Array.replicate_zero, List.push_toArray, List.append_toArray, List.nil_append, List.cons_append]
  gi_wp2
  gi_quiet ((gi_at_call 22; exact CallsIn.quiet_of_same (callsIn_wide.2 (KH.out _))))
  have H1 : Hid (∃ (pre rest : List Nat) (A1 : Nat → Prop), chI G id = pre ++ rest ∧ (mo = true → ∃ i : Nat, id = i ∧ Chn G i rest) ∧ (mo = false → rest = []) ∧ Trip A W A1 (W.drewN nq) ∧ J pre A1 (W.drewN nq)) := by
    refine Lib.hid ⟨[], chI G id, A, rfl, ?_, ?_, (Trip.refl HA.out).drewN _, HJ.out _ _ _ _ H0.out (fun _ _ => rfl)⟩
    · intro h; obtain ⟨i, h1, h2, _⟩ := HW.out.chn (HMO.out.trans h); exact ⟨i, h1, h2⟩
    · intro h; exact chI_no (HMO.out.trans h)
  clear KH HMO c0 c1
  gi_wp2
  gi_loopw [4, 5] (fun x m wr => ∃ (z : Int) (mo : Bool), x = .int .i64 z ∧ m = .bool mo ∧ Hid (∃ (pre rest : List Nat) (A1 : Nat → Prop), chI G id = pre ++ rest ∧ (mo = true → ∃ i : Nat, z = i ∧ Chn G i rest) ∧ (mo = false → rest = []) ∧ Trip A W A1 wr ∧ J pre A1 wr)) (fun x m _ => muC G x m)
  case atStart => exact ⟨_, _, rfl, rfl, H1⟩
  case round =>
    obtain ⟨z, mo, rfl, rfl, HK⟩ := hrel
    obtain ⟨pre, rest, A1, hL, ht, hf, hT, hJ1⟩ := HK.out
    clear HK
    cases mo with
    | false =>
      have hr0 := hf rfl
      subst hr0
      have HT := Lib.hid hT
      have HJ2 := Lib.hid hJ1
      have HL := Lib.hid hL
      clear hT hJ1 hL ht hf
      gi_wp2
      go_end0
      exact ⟨⟨_, rfl⟩, A1, HT.out, .inl (by rw [HL.out, List.append_nil]; exact HJ2.out)⟩
    | true =>
      obtain ⟨i, rfl, hc⟩ := ht rfl
      obtain ⟨u, r, rfl, hx⟩ := hc.ne
      have hle : (chI G id).length ≤ 4 := HW.out.len_ch id
      obtain ⟨fn, tmps, assign, body, hy, hR⟩ := HY.out pre i A1 wr hJ1 (by rw [hL]; exact ⟨r, by simp⟩) hT.bd
      have HR := Lib.hid hR
      have HT := Lib.hid hT
      have HL := Lib.hid hL
      have HC := Lib.hid hc
      have HX := Lib.hid hx
      clear hR hT hL hc hx ht hf hJ1
      gi_wp2
      refine HR.out.mono ?_
      rintro e W3 ⟨A2, ht3, ⟨rfl, hj3⟩ | ⟨rfl, hj3⟩⟩
      · obtain ⟨hg3, _, c1⟩ := HALL.out _ _ _ hj3
        have KU := up_c b G i W3 hg3
        have hq : ∃ v : Bool, upG G i = (((if v = true then u else 0 : Nat) : Int), v) ∧ (v = true → Chn G u r ∧ (i : Int) ≠ 0) ∧ (v = false → r = []) := by
          cases HC.out with
          | root h => exact ⟨false, by unfold upG; simp, by simp, fun _ => rfl⟩
          | up h0 h1 h2 =>
            rw [HX.out] at h1
            obtain rfl : u = _ := by simpa using h1
            refine ⟨true, ?_, fun _ => ⟨h2, by omega⟩, by simp⟩
            unfold upG
            rw [if_pos ⟨by omega, hasG_in HX.out⟩, Int.toNat_natCast, HX.out]
            rfl
        obtain ⟨v, hv, hv1, hv2⟩ := hq
        rw [hv] at KU
        simp only at KU
        obtain ⟨uu, huu⟩ : ∃ uu, (if v = true then u else 0 : Nat) = uu := ⟨_, rfl⟩
        rw [huu] at KU
        have HN3 : Hid (∃ (pre rest : List Nat) (A1 : Nat → Prop), chI G id = pre ++ rest ∧ (v = true → ∃ i : Nat, (uu : Int) = i ∧ Chn G i rest) ∧ (v = false → rest = []) ∧ Trip A W A1 W3 ∧ J pre A1 W3) :=
          Lib.hid ⟨pre ++ [i], r, A2, by rw [HL.out]; simp, fun h => ⟨u, by rw [← huu, if_pos h], (hv1 h).1⟩, hv2, HT.out.trans ht3, hj3⟩
        have hmu : muC G (.int .i64 uu) (.bool v) < muC G (.int .i64 i) (.bool true) := by
          have e1 : chI G i = i :: r := chI_of HC.out (by rw [HL.out] at hle; simp at hle ⊢; omega)
          unfold muC
          simp only [intOf]
          rw [e1]
          cases v with
          | false => simp
          | true =>
            obtain ⟨h1, _⟩ := hv1 rfl
            rw [← huu, if_pos rfl, chI_of h1 (by rw [HL.out] at hle; simp at hle ⊢; omega)]
            simp
        have KU' := Lib.hid KU
        have HMU := Lib.hid hmu
        clear hj3 ht3 KU hv hv1 hv2 huu hg3 hmu
        gi_wp2_with (gi_at_call 11; refine (callsIn_wide.2 (KU'.out)).mono ?_; rintro e w' ⟨rfl, rfl⟩)
        go_roundw
        case rel => exact ⟨_, _, rfl, rfl, HN3⟩
        case measure => exact HMU.out
      · have HT3 := Lib.hid ht3
        have HJ3 := Lib.hid hj3
        clear ht3 hj3
        gi_wp2
        go_end0
        exact ⟨⟨_, rfl⟩, A2, HT.out.trans HT3.out, .inr ⟨pre ++ [i], by rw [HL.out]; exact ⟨r, by simp⟩, HJ3.out⟩⟩

theorem climb_c (b : Nat) (id : Int) (w : World) (n : Nat) (hn : n = w.heap.size) :
    Calls Try.prog 25 #[.pointer (some ⟨b, 0, none⟩), .int .i64 id] w fun e w' => e = .returned (.func (.func 29) #[] #[.pointer (some ⟨n + 1, 0, none⟩), .pointer (some ⟨n, 0, none⟩)]) ∧
      w'.heap[n + 1]? = some (.cells #[.int .i64 id] 3 (0, 0)) ∧ w'.heap[n]? = some (.cells #[.pointer (some ⟨b, 0, none⟩)] 23 (0, 0)) ∧ w'.heap.size = n + 2 ∧ Below n w w' := by
  subst hn
  go_enter Try.func25, Try.ntmps25
  go_wp2
  go_ret
  refine ⟨rfl, ?_, ?_, by simp, ((Below.refl _ w).alloc (Nat.le_refl _) _).alloc (by simp) _⟩
  · have := World.alloc_heap_new (w.alloc (.cells #[.pointer (some ⟨b, 0, none⟩)] 23)) (.cells #[.int .i64 id] 3)
    rwa [World.size_alloc] at this
  · exact (Below.heap_alloc _ _ _ (by simp)).trans (World.alloc_heap_new w _)
end Go.Proofs.Ytbhcooomdjhoiaa
