/- stride's queue: Seed; queues that a law makes. -/
import Derived.Test.YtandmngfajoinaaGreatSw
namespace Go.Proofs.YtandmngfajoinaaGreat
open Go.RowKit Go.Maps

def seedR (base : Int) (l : List RI) : List RI := l.map (fun r => (r.1, r.2.1, base - r.2.2))
theorem seedR_length (base : Int) (l : List RI) : (seedR base l).length = l.length := by unfold seedR; simp
theorem seedR_asc {base : Int} {l : List RI} (h : AscR l) : AscR (seedR base l) := asc_map (f := fun r => (r.1, r.2.1, base - r.2.2)) h (fun _ => rfl)
theorem formL_seed (base : Int) (l : List RI) : formL base (seedR base l) = l := by
  unfold formL seedR
  rw [List.map_map]
  conv => rhs; rw [← List.map_id l]
  refine List.map_congr_left (fun r _ => ?_)
  obtain ⟨r0, r1, r2⟩ := r
  simp only [Function.comp, id]
  congr 2
  omega
theorem ascB_asc : ∀ {l : List RI} {q : Int}, ascB q l = true → AscR l ∧ (∀ r ∈ l, q < r.1 ∧ itemB r = true)
  | [], _, _ => ⟨List.Pairwise.nil, fun r hr => by simp at hr⟩
  | x :: xs, q, h => by
    rw [ascB] at h
    simp at h
    obtain ⟨⟨h1, h2⟩, h3⟩ := h
    obtain ⟨h4, h5⟩ := ascB_asc h3
    refine ⟨List.pairwise_cons.2 ⟨fun r hr => (h5 r hr).1, h4⟩, fun r hr => ?_⟩
    rcases List.mem_cons.1 hr with rfl | hr
    · exact ⟨h1, h2⟩
    · have := h5 r hr; exact ⟨by omega, this.2⟩
theorem idxL_pos : ∀ {l : List RI} {p : RI → Bool} {k : Nat}, (0 ≤ idxL p l k) ↔ ∃ r ∈ l, p r = true
  | [], p, k => by simp [idxL]
  | x :: xs, p, k => by
    rw [idxL]
    by_cases hp : p x = true
    · rw [if_pos hp]; simp [hp]
    · rw [if_neg hp, idxL_pos (l := xs)]
      simp [hp]
theorem hasL_hasI (id : Int) (l : List RI) : hasL id l = hasI l id := by
  rw [Bool.eq_iff_iff]
  unfold hasL
  rw [decide_eq_true_iff, idxL_pos, hasI_iff]
  unfold idIs
  simp
/-- What a good form holds. -/
structure GoodF (c : Int) (l : List RI) : Prop where
  len : l.length ≤ 64
  asc : AscR l
  each : ∀ r ∈ l, itemB r = true
  cur : c = -1 ∨ hasI l c = true
theorem goodV_of {c : Int} {l : List RI} (h : goodV c l = true) : GoodF c l := by
  unfold goodV at h
  simp at h
  obtain ⟨⟨⟨h1, h2⟩, h3⟩, _⟩ := h
  obtain ⟨h5, h6⟩ := ascB_asc h2
  exact ⟨h1, h5, fun r hr => (h6 r hr).2, h3.imp id (fun h => by rw [← hasL_hasI]; exact h)⟩
theorem insR_last : ∀ {R : List RI} {x : RI}, (∀ r ∈ R, r.1 < x.1) → insR R x = R ++ [x]
  | [], _, _ => rfl
  | y :: ys, x, h => by
    unfold insR
    rw [if_pos (h y (by simp)), insR_last (fun r hr => h r (by simp [hr]))]
    rfl
/-- One more of the form's items. -/
theorem seed_next {base : Int} {l : List RI} {k : Nat} {x : RI} (ha : AscR l) (hk : l[k]? = some x) : insR ((seedR base l).take k) (x.1, x.2.1, base - x.2.2) = (seedR base l).take (k + 1) ∧ hasI ((seedR base l).take k) x.1 = false := by
  have hlt : ∀ r ∈ (seedR base l).take k, r.1 < x.1 := fun r hr => by
    obtain ⟨i, hi⟩ := List.mem_iff_getElem?.1 hr
    have hik : i < k := by
      have := (List.getElem?_eq_some_iff.1 hi).1
      rw [List.length_take] at this
      omega
    rw [List.getElem?_take, if_pos hik] at hi
    unfold seedR at hi
    rw [List.getElem?_map] at hi
    cases hl : l[i]? with
    | none => rw [hl] at hi; cases hi
    | some y =>
      rw [hl] at hi
      have hr' : r = (y.1, y.2.1, base - y.2.2) := (Option.some.inj hi).symm
      obtain ⟨h1, h2⟩ := List.getElem?_eq_some_iff.1 hl
      obtain ⟨h3, h4⟩ := List.getElem?_eq_some_iff.1 hk
      have := List.pairwise_iff_getElem.1 ha i k h1 h3 hik
      rw [h2, h4] at this
      rw [hr']; exact this
  refine ⟨?_, hasI_no.2 (fun r hr => by have := hlt r hr; omega)⟩
  rw [insR_last (x := (x.1, x.2.1, base - x.2.2)) (fun r hr => hlt r hr)]
  have : (seedR base l)[k]? = some (x.1, x.2.1, base - x.2.2) := by unfold seedR; rw [List.getElem?_map, hk]; rfl
  rw [List.take_add_one, this]
  rfl

/-- What Seed answers. -/
def SeedPostP (base f0 : Int) (l : List RI) (w : World) (e : Ending) (w' : World) : Prop :=
  if goodV f0 l = true ∧ -1152921504606846976 ≤ base ∧ base ≤ 1152921504606846976 then
    ∃ s b mp mw v st L, e = .returned (.tuple #[.pointer (some ⟨s, 0, none⟩), .int .i64 0]) ∧ IsS w' s b mp mw v st base f0 L (seedR base l) ∧ 0 ≤ st ∧ st ≤ 1000 ∧ (∀ k, SOf s b mp mw v k → w.heap.size ≤ k) ∧ Below w.heap.size w w'
  else e = .returned (.tuple #[.pointer none, .int .i64 1]) ∧ Below w.heap.size w w'

set_option maxRecDepth 100000 in
set_option maxHeartbeats 8000000 in
theorem pseed_c (f0 base : Int) (A : Option Addr) (n c : Nat) (l : List RI) (w : World) (hn : l.length = n) (hl : n ≤ 4611686018427387904) (hr : TRow w A l) :
    Calls Tryz.prog 62 #[.agg #[.int .i64 f0, .slice A n c], .int .i64 base] w (SeedPostP base f0 l w) := by
  have hb1 := (Below.refl _ w).alloc (Nat.le_refl _) (.cells #[.int .i64 f0, .slice A n c] 47)
  have hf1 : FoAt (w.alloc (.cells #[.int .i64 f0, .slice A n c] 47)) w.heap.size f0 A n c := heap_alloc_new w _
  obtain ⟨w1, hw1⟩ : ∃ w1, w.alloc (.cells #[.int .i64 f0, .slice A n c] 47) = w1 := ⟨_, rfl⟩
  have hs1 : w1.heap.size = w.heap.size + 1 := by rw [← hw1]; simp
  rw [hw1] at hb1 hf1
  by_cases hbase : -1152921504606846976 ≤ base ∧ base ≤ 1152921504606846976
  · have KN := Lib.hid (pnew_c base w1 hbase.1 hbase.2)
    have HP1 : Hid (goodV f0 l = false → ∀ w', Below w.heap.size w w' → SeedPostP base f0 l w (.returned (.tuple #[.pointer none, .int .i64 1])) w') := Lib.hid (fun hg w' hb => by unfold SeedPostP; rw [if_neg (by simp [hg])]; exact ⟨rfl, hb⟩)
    have HP2 : Hid (goodV f0 l = true → ∀ e w', (∃ s b mp mw v st L, e = .returned (.tuple #[.pointer (some ⟨s, 0, none⟩), .int .i64 0]) ∧ IsS w' s b mp mw v st base f0 L (seedR base l) ∧ 0 ≤ st ∧ st ≤ 1000 ∧ (∀ k, SOf s b mp mw v k → w.heap.size ≤ k) ∧ Below w.heap.size w w') → SeedPostP base f0 l w e w') := Lib.hid (fun hg e w' h => by unfold SeedPostP; rw [if_pos ⟨hg, hbase⟩]; exact h)
    have KG : Hid (∀ W, Below w.heap.size w W → Calls Tryz.prog 67 #[.agg #[.int .i64 f0, .slice A n c]] W (Ret10 (.bool (goodV f0 l)) W)) := Lib.hid (fun W hb => good_c f0 A n c l W hn hl (hr.below hb (Nat.le_refl _)))
    have HBA := Lib.hid hbase
    have HB1 := Lib.hid hb1
    have HF1 := Lib.hid hf1
    have HR := Lib.hid hr
    have HN := Lib.hid hn
    cases hg : goodV f0 l with
    | false =>
      rw [hg] at KG
      have HG := Lib.hid hg
      clear hbase hb1 hf1 hr hn hg HP2
      go_enter Tryz.func62, Tryz.ntmps62
      go_wp2_with fail
      refine KN.out.mono ?_
      rintro e w2 ⟨s, b, mp, mw, rfl, -, -, hb2⟩
      have hb2' := HB1.out.trans (hb2.mono (by omega))
      have HB2 := Lib.hid hb2'
      have hf2 : FoAt w2 w.heap.size f0 A n c := BoxAt.next HF1.out hb2 (Nat.le_refl _)
      obtain ⟨d0, d1, -, -⟩ := FoAt.cells hf2
      clear hb2 hb2' hf2 KN
      go_wp2_with fail
      refine (KG.out _ HB2.out).mono ?_
      rintro e w3 ⟨rfl, hb3⟩
      have HB3 := Lib.hid (HB2.out.trans (hb3.mono HB2.out.size))
      clear hb3
      go_wp2_with fail
      go_ret2
      exact HP1.out HG.out _ HB3.out
    | true =>
      rw [hg] at KG
      have HG := Lib.hid hg
      clear hbase hb1 hf1 hr hn hg HP1
      go_enter Tryz.func62, Tryz.ntmps62
      go_wp2_with fail
      refine KN.out.mono ?_
      rintro e w2 ⟨s, b, mp, mw, rfl, hq2, hn2, hb2⟩
      have hb2' := HB1.out.trans (hb2.mono (by omega))
      have HB2 := Lib.hid hb2'
      have hf2 : FoAt w2 w.heap.size f0 A n c := BoxAt.next HF1.out hb2 (Nat.le_refl _)
      obtain ⟨d0, d1, -, -⟩ := FoAt.cells hf2
      have HF2 := Lib.hid hf2
      have HQ2 := Lib.hid (And.intro hq2 hn2)
      clear hb2 hb2' hf2 KN hq2 hn2
      go_wp2_with fail
      refine (KG.out _ HB2.out).mono ?_
      rintro e w3 ⟨rfl, hb3⟩
      have HB3 := Lib.hid (HB2.out.trans (hb3.mono HB2.out.size))
      have hf3 : FoAt w3 w.heap.size f0 A n c := BoxAt.next HF2.out hb3 (Nat.le_refl _)
      obtain ⟨d0, d1, -, -⟩ := FoAt.cells hf3
      have HL0 : Hid (∃ v L q, ∃ st : Int, 0 ≤ st ∧ st ≤ 8 * ((0 : Nat) : Int) ∧ IsS w3 s b mp mw v st base (-1) L ((seedR base l).take q) ∧ q = 0 ∧ (∀ j, SOf s b mp mw v j → w1.heap.size ≤ j) ∧ Below w.heap.size w w3 ∧ FoAt w3 w.heap.size f0 A n c) := Lib.hid ⟨_, _, 0, 0, by omega, by omega, by rw [List.take_zero]; exact HQ2.out.1.below hb3, rfl, HQ2.out.2, HB3.out, hf3⟩
      clear hb3 hf3 HF2 HQ2 HB3 KG
      go_wp2_with fail
      go_loopw [24] (fun i wr => ∃ k : Nat, i = .int .i64 k ∧ k ≤ n ∧ Hid (∃ v L q, ∃ st : Int, 0 ≤ st ∧ st ≤ 8 * (k : Int) ∧ IsS wr s b mp mw v st base (-1) L ((seedR base l).take q) ∧ q = k ∧ (∀ j, SOf s b mp mw v j → w1.heap.size ≤ j) ∧ Below w.heap.size w wr ∧ FoAt wr w.heap.size f0 A n c)) (fun i _ => n - (intOf i).toNat)
      case atStart => exact ⟨0, rfl, Nat.zero_le _, HL0⟩
      case round =>
        obtain ⟨k, rfl, hk, HQ⟩ := hrel
        clear HL0
        by_cases hlt : k < n
        · obtain ⟨y, hx⟩ : ∃ y, l[k]? = some y := ⟨_, List.getElem?_eq_getElem (by rw [HN.out]; exact hlt)⟩
          obtain ⟨v, L, q, st, hst0, hst1, hq, rfl, hnw, hb, hf⟩ := HQ.out
          obtain ⟨ad, rfl, c0, c1, c2⟩ := (HR.out.below hb (Nat.le_refl _)).at hx
          have hgf := goodV_of HG.out
          have hin := hgf.each y (List.mem_of_getElem? hx)
          obtain ⟨sn1, sn2⟩ := seed_next (base := base) hgf.asc hx
          have hb4 : Below wr.heap.size wr (wr.alloc (.cells #[.int .i64 y.1, .int .i64 y.2.1, .int .i64 y.2.2] 69)) := (Below.refl _ wr).alloc (Nat.le_refl _) _
          have hlen : ((seedR base l).take q).length < 64 := by rw [List.length_take, seedR_length]; have := hgf.len; have := HN.out; omega
          have hlim := HBA.out
          have KA : Hid (Calls Tryz.prog 68 #[.pointer (some ⟨s, 0, none⟩), .agg #[.int .i64 y.1, .int .i64 y.2.1, .int .i64 y.2.2]] (wr.alloc (.cells #[.int .i64 y.1, .int .i64 y.2.1, .int .i64 y.2.2] 69)) fun e w' => e = .returned (.int .i64 0) ∧
              ∃ v L q', ∃ st : Int, 0 ≤ st ∧ st ≤ 8 * ((q + 1 : Nat) : Int) ∧ IsS w' s b mp mw v st base (-1) L ((seedR base l).take q') ∧ q' = q + 1 ∧ (∀ j, SOf s b mp mw v j → w1.heap.size ≤ j) ∧ Below w.heap.size w w' ∧ FoAt w' w.heap.size f0 (some ad) n c) := Lib.hid (by
            refine (sadd_c y.1 y.2.1 y.2.2 _ (hq.below hb4) hin (by omega) (by omega) hst0 (by have := hgf.len; have := HN.out; omega)).mono ?_
            rintro e w' ⟨rfl, v', L', k', hk', hq', ht'⟩
            have ea : addM base ((seedR base l).take q) (y.1, y.2.1, y.2.2) = (0, (seedR base l).take (q + 1)) := by
              unfold addM
              rw [if_neg (by rw [sn2]; decide), if_neg (by omega), ← sn1]
            rw [ea] at hq' ⊢
            have ht2 := (hq.self hb4).trans ht'
            have hbs := hb.size
            refine ⟨rfl, v', L', q + 1, st + k', by omega, by omega, hq', rfl, fun j hj => ?_, hb.trans ((ht2.below (B := w1.heap.size) hnw (by have := hnw _ (.inl rfl); have := hq.box.lt; omega)).mono (by omega)), ?_⟩
            · rcases ht2.sub j hj with h | h
              · exact hnw j h
              · have := hnw _ (.inl rfl); have := hq.box.lt; omega
            · refine (ht2.block _ (by have := hf.lt; omega) (fun h => ?_)).trans hf
              have := hnw _ h
              omega)
          clear hx hst0 hst1 hq hnw hb hf hgf hin sn1 sn2 hb4 hlen hlim HQ
          obtain ⟨y0, y1, y2⟩ := y
          simp only at c0 c1 c2 KA
          go_wp2_with fail
          refine KA.out.mono ?_
          rintro e w5 ⟨rfl, hP⟩
          have HP := Lib.hid hP
          clear hP KA c0 c1 c2
          go_wp2_with fail
          go_roundw
          case rel => exact ⟨q + 1, by go_num, by omega, HP⟩
          case measure => simp [intOf]; omega
        · obtain rfl : k = n := by omega
          obtain ⟨v, L, q, st, hst0, hst1, hq, rfl, hnw, hb, hf⟩ := HQ.out
          have hgf := goodV_of HG.out
          have hall : (seedR base l).take q = seedR base l := List.take_of_length_le (by rw [seedR_length, HN.out]; exact Nat.le_refl _)
          rw [hall] at hq
          have hc : f0 = -1 ∨ hasI (seedR base l) f0 = true := hgf.cur.imp id (fun h => by unfold seedR; rw [has_map (f := fun r => (r.1, r.2.1, base - r.2.2)) (fun _ => rfl)]; exact h)
          have FIN : Hid (∃ s' b mp mw v st L, Ending.returned (.tuple #[.pointer (some ⟨s, 0, none⟩), .int .i64 0]) = Ending.returned (.tuple #[.pointer (some ⟨s', 0, none⟩), .int .i64 0]) ∧ IsS (wr.setCell ⟨s, 1, none⟩ (.int .i64 f0)) s' b mp mw v st base f0 L (seedR base l) ∧ 0 ≤ st ∧ st ≤ 1000 ∧ (∀ k, SOf s' b mp mw v k → w.heap.size ≤ k) ∧ Below w.heap.size w (wr.setCell ⟨s, 1, none⟩ (.int .i64 f0))) := Lib.hid ⟨s, b, mp, mw, v, st, L, rfl, hq.set1 hc, hst0, by have := hgf.len; have := HN.out; omega, fun j hj => by have := hnw j hj; omega, hb.setCell (by have := hnw _ (.inl rfl); show w.heap.size ≤ s; omega) _⟩
          obtain ⟨-, u1, -, -, -, g1⟩ := hq.box.cells
          obtain ⟨t0, t1, -, -⟩ := FoAt.cells hf
          clear hst0 hst1 hq hnw hb hf hgf hall hc HQ
          go_wp2_with fail
          go_ret2
          exact HP2.out HG.out _ _ FIN.out
  · have KN := Lib.hid (pnew_no base w1 (by omega))
    have HP1 : Hid (∀ w', Below w.heap.size w w' → SeedPostP base f0 l w (.returned (.tuple #[.pointer none, .int .i64 1])) w') := Lib.hid (fun w' hb => by unfold SeedPostP; rw [if_neg (fun h => hbase h.2)]; exact ⟨rfl, hb⟩)
    have HB1 := Lib.hid hb1
    clear hbase hb1 hf1 hr hn
    go_enter Tryz.func62, Tryz.ntmps62
    go_wp2_with fail
    refine KN.out.mono ?_
    rintro e w2 ⟨rfl, rfl⟩
    go_wp2_with fail
    go_ret2
    exact HP1.out _ HB1.out
end Go.Proofs.YtandmngfajoinaaGreat
