/- Queues of deadlines: New, Len, Put, Get. -/
import Derived.Test.YtaodkfnbmpbcfaaDb
import Derived.Test.YtaodkfnbmpbcfaaQb
namespace Go.Proofs.Ytaodkfnbmpbcfaa
open Go.RowKit

theorem res_due {fn : Func} {p u : Tmp} (h : fn.results = #[.cell p 63, .tmp u]) (tmps : Array Value) (r : Nat) (cs : Array Value) (bb : Bool) (w : World) (h4 : tmps.getD p undef = .pointer (some ⟨r, 0, none⟩)) (h5 : tmps.getD u undef = .bool bb)
    (hc : cs.size = 3) (hr : w.heap[r]? = some (.cells cs 63 (0, 0))) : (results fn tmps).run Try.prog w = .ok (.tuple #[.agg cs, .bool bb]) w := by
  rw [results_cell_tmp h, h4, h5]
  have hl := run_loadVar_row (P := Try.prog) w r 63 63 cs (0, 0) _ hr Try.underlying63 rfl (by rw [hc]; kernel_rfl)
  simp [asAddr, hl]

/-- What is left behind a call that changes a queue of deadlines. -/
def DPost (d b m mp : Nat) (most s : Int) (v : Value) (T' : List RI) (K : Nat) (w w' : World) : Prop :=
  ∃ v', ∃ k : Nat, k ≤ K ∧ IsD w' d b m most (s + (k : Int)) T' v' mp ∧ Trip (DOf d b m v mp) w (DOf d b m v' mp) w'
/-- The queue has changed, then the days. -/
theorem IsD.step {w w1 w2 : World} {d b m : Nat} {most s : Int} {T T' : List RI} {v : Value} {mp K : Nat} (h : IsD w d b m most s T v mp) (hp : QPost b mp most s v (qL T') K w w1) (hm : QMap w2 m (qM T'))
    (ho : w2.os = w1.os ∧ w2.tape = w1.tape ∧ w2.output = w1.output) (hsz : w1.heap.size ≤ w2.heap.size) (hg : ∀ k, k < w1.heap.size → k ≠ m → w2.heap[k]? = w1.heap[k]?) (hwf : ∀ r ∈ T', wf64 r.2.1) : DPost d b m mp most s v T' K w w2 := by
  obtain ⟨v', k, hk, hq, ht⟩ := hp
  have hml := h.lt m (.inr (.inl rfl))
  have hdl := h.lt d (.inl rfl)
  have hsub : ∀ j, QOf b v' mp j → j ≠ m ∧ j ≠ d := fun j hj => by
    rcases ht.sub j hj with h1 | h1
    · exact ⟨fun e => h.n2 (e ▸ h1), fun e => h.n1 (e ▸ h1)⟩
    · exact ⟨by omega, by omega⟩
  have hs := ht.size
  refine ⟨v', k, hk, ⟨?_, hq.keep (fun j hj => hg j (ht.bd j hj) (hsub j hj).1), hm, hwf, fun hd => (hsub d hd).2 rfl, fun hm' => (hsub m hm').1 rfl, h.n3⟩, ?_⟩
  · rw [hg d (by omega) h.n3.symm, ht.block d hdl h.n1, h.box]
  · refine ⟨ho.1.trans ht.os, ho.2.1.trans ht.tape, ho.2.2.trans ht.output, by omega, fun j hj hn => ?_, ?_, ?_⟩
    · rw [hg j (by omega) (fun e => hn (.inr (.inl e))), ht.block j hj (fun hq' => hn (.inr (.inr hq')))]
    · rintro j (rfl | rfl | hj)
      · exact .inl (.inl rfl)
      · exact .inl (.inr (.inl rfl))
      · exact (ht.sub j hj).imp (fun h => .inr (.inr h)) id
    · rintro j (rfl | rfl | hj)
      · omega
      · omega
      · have := ht.bd j hj; omega
/-- The queue has changed, the days have not. -/
theorem IsD.stay {w w1 : World} {d b m : Nat} {most s : Int} {T : List RI} {v : Value} {mp K : Nat} (h : IsD w d b m most s T v mp) (hp : QPost b mp most s v (qL T) K w w1) : DPost d b m mp most s v T K w w1 := by
  have hml := h.lt m (.inr (.inl rfl))
  have hm : QMap w1 m (qM T) := h.map.keep (by obtain ⟨_, _, _, _, ht⟩ := hp; exact ht.block m hml h.n2)
  exact h.step hp hm ⟨rfl, rfl, rfl⟩ (Nat.le_refl _) (fun _ _ _ => rfl) h.wf
/-- The map of days behind the queue's change. -/
theorem IsD.days {w w1 : World} {d b m : Nat} {most s : Int} {T : List RI} {L' : List QI} {v : Value} {mp K : Nat} (h : IsD w d b m most s T v mp) (hp : QPost b mp most s v L' K w w1) : QMap w1 m (qM T) ∧ w1.cell? ⟨d, 1, none⟩ = some (.map (some m)) := by
  have hml := h.lt m (.inr (.inl rfl))
  have hdl := h.lt d (.inl rfl)
  obtain ⟨_, _, _, _, ht⟩ := hp
  refine ⟨h.map.keep (ht.block m hml h.n2), ?_⟩
  have := (ht.block d hdl h.n1).trans h.box
  simp [World.cell?, this]

set_option maxHeartbeats 1000000 in
theorem dlen_c (d b m : Nat) (most s : Int) (T : List RI) (v : Value) (mp : Nat) (w : World) (h : IsD w d b m most s T v mp) :
    Calls Try.prog 28 #[.pointer (some ⟨d, 0, none⟩)] w fun e w' => e = .returned (.int .i64 T.length) ∧ w = w' := by
  have c0 : w.cell? ⟨d, 0, none⟩ = some (.pointer (some ⟨b, 0, none⟩)) := by simp [World.cell?, h.box]
  have K := qlen_c b mp most s v (qL T) w h.q
  rw [qL_length] at K
  have K := Lib.hid K
  clear h
  go_enter Try.func28, Try.ntmps28
  go_wp2_with fail
  refine (K.out).mono ?_
  rintro e w' ⟨rfl, rfl⟩
  go_wp2_with fail
  go_ret
  exact ⟨rfl, rfl⟩

/-- What Put does. -/
def putT (most : Int) (T : List RI) (r : RI) : Int × List RI :=
  if (keyV (qL T) r.2.2).2 = true then (4, T) else if most ≤ (T.length : Int) then (3, T) else (0, insT T r)
theorem putT_V (most : Int) (T : List RI) (r : RI) : putV most (qL T) (r.1, r.2.2) = ((putT most T r).1, qL (putT most T r).2) := by
  unfold putV putT
  rw [qL_length]
  split
  · rfl
  · split
    · rfl
    · simp only [qL_ins]
theorem keyV_none {L : List QI} {id : Int} (h : (keyV L id).2 = false) : ∀ z ∈ L, z.2 ≠ id := by
  intro z hz he
  unfold keyV at h
  cases hf : L.find? (fun x => x.2 == id) with
  | none => exact absurd (List.find?_eq_none.1 hf z hz) (by simp [he])
  | some y => rw [hf] at h; cases h
theorem ins_days {T : List RI} {r : RI} (h : ∀ z ∈ qL T, z.2 ≠ r.2.2) : (∀ z, z ∈ qM (insT T r) ↔ z = (r.2.1, r.2.2) ∨ (z ∈ qM T ∧ z.2 ≠ r.2.2)) ∧ (∀ z ∈ qM T, z.2 ≠ r.2.2) := by
  have h2 : ∀ z ∈ qM T, z.2 ≠ r.2.2 := fun z hz => by
    obtain ⟨x, hx, rfl⟩ := mem_qM.1 hz
    exact h (x.1, x.2.2) (mem_qL.2 ⟨x, hx, rfl⟩)
  refine ⟨fun z => ?_, h2⟩
  constructor
  · intro hz
    obtain ⟨x, hx, rfl⟩ := mem_qM.1 hz
    rcases mem_insT.1 hx with rfl | hx
    · exact .inl rfl
    · have := mem_qM.2 ⟨x, hx, rfl⟩
      exact .inr ⟨this, h2 _ this⟩
  · rintro (rfl | ⟨hz, _⟩)
    · exact mem_qM.2 ⟨r, mem_insT.2 (.inl rfl), rfl⟩
    · obtain ⟨x, hx, rfl⟩ := mem_qM.1 hz
      exact mem_qM.2 ⟨x, mem_insT.2 (.inr hx), rfl⟩

set_option maxRecDepth 100000 in
set_option maxHeartbeats 2000000 in
/-- q.Put(key, due, id). -/
theorem dput_c (d b m : Nat) (most s : Int) (T : List RI) (v : Value) (mp : Nat) (r : RI) (B : Nat) (w : World) (h : IsD w d b m most s T v mp) (h0 : wf64 r.1) (h1 : wf64 r.2.1) (h2 : wf64 r.2.2) (hL : T.length ≤ 1000000) (hB : T.length < 2 ^ B) (hB' : B ≤ 1000) (hs : 0 ≤ s) (hs' : s < 2305843009213693952) :
    Calls Try.prog 22 #[.pointer (some ⟨d, 0, none⟩), .int .i64 r.1, .int .i64 r.2.1, .int .i64 r.2.2] w fun e w' => e = .returned (.int .i64 (putT most T r).1) ∧ DPost d b m mp most s v (putT most T r).2 (B + 1) w w' := by
  have c0 : w.cell? ⟨d, 0, none⟩ = some (.pointer (some ⟨b, 0, none⟩)) := by simp [World.cell?, h.box]
  have K := qput_c b mp most s v (qL T) (r.1, r.2.2) B w h.q h0 h2 (by rw [qL_length]; exact hL) (by rw [qL_length]; exact hB) hB' hs hs'
  rw [putT_V] at K
  have HD := Lib.hid h
  by_cases hz : (putT most T r).1 = 0
  · have hp : putT most T r = (0, insT T r) ∧ ∀ z ∈ qL T, z.2 ≠ r.2.2 := by
      unfold putT at hz ⊢
      cases hk : (keyV (qL T) r.2.2).2 with
      | true => rw [hk, if_pos rfl] at hz; cases hz
      | false =>
        rw [hk, if_neg (by simp)] at hz
        rw [if_neg (by simp)]
        split at hz
        · cases hz
        · rename_i h4
          exact ⟨by rw [if_neg h4], keyV_none hk⟩
    obtain ⟨hp, hno⟩ := hp
    rw [hp] at K ⊢
    have K := Lib.hid K
    have HNO := Lib.hid hno
    have H1 := Lib.hid h1
    have H2 := Lib.hid h2
    obtain ⟨k0, k1, k2⟩ := r
    clear h hz hp h0 h1 h2 hno
    go_enter Try.func22, Try.ntmps22
    go_wp2_with fail
    refine (K.out).mono ?_
    rintro e w1 ⟨rfl, hP⟩
    obtain ⟨hM, c1⟩ := HD.out.days hP
    have hd := ins_days (r := (k0, k1, k2)) HNO.out
    obtain ⟨w2, hrun, hM2, hgr, hsz⟩ := hM.any (L' := qM (insT T (k0, k1, k2))) (k1, k2) H1.out H2.out (by rw [qM_length]; exact hL) hd.1 (.inr ⟨hd.2, by rw [qM_length, qM_length, length_insT]⟩)
    have POST := Lib.hid (HD.out.step hP hM2 ⟨hgr.os, hgr.tape, hgr.output⟩ hgr.size (fun k hk hn => hgr.block k hk (fun e => hn (Option.some.inj e))) (fun r hr => by
      rcases mem_insT.1 hr with rfl | hr
      · exact H1.out
      · exact HD.out.wf r hr))
    clear hM hd hM2 hgr hsz hP K HNO c0
    go_wp2_with fail
    go_ret
    exact ⟨rfl, POST.out⟩
  · have hp : (putT most T r).2 = T ∧ ((putT most T r).1 != 0) = true := by
      refine ⟨?_, by simpa using hz⟩
      unfold putT at hz ⊢
      split
      · rfl
      · rename_i h3
        rw [if_neg h3] at hz
        split
        · rfl
        · rename_i h4
          rw [if_neg h4] at hz
          exact absurd rfl hz
    obtain ⟨hp, hne⟩ := hp
    rw [hp] at K ⊢
    have K := Lib.hid K
    generalize (putT most T r).1 = x at *
    clear h hp h0 h1 h2
    go_enter Try.func22, Try.ntmps22
    go_wp2_with fail
    refine (K.out).mono ?_
    rintro e w1 ⟨rfl, hP⟩
    have POST := Lib.hid (HD.out.stay hP)
    clear hP K c0
    go_wp2_with fail
    go_ret
    exact ⟨rfl, POST.out⟩
end Go.Proofs.Ytaodkfnbmpbcfaa
