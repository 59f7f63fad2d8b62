/- Queues: remove. -/
import Derived.Test.YtandmngfajoinaaGreatOh
namespace Go.Proofs.YtandmngfajoinaaGreat
open Go.RowKit

/-- Behind Delete and the store. -/
def DelMid (b mp : Nat) (most s : Int) (v : Value) (L' : List QI) (w1 : World) (wx : World) : Prop :=
  ∃ v', QBox wx b most v' mp s ∧ QRow wx 136 v' L' ∧ v'.ownBlock ≠ some b ∧ v'.ownBlock ≠ some mp ∧ Trip (QOf b v mp) w1 (QOf b v' mp) wx ∧ wx.heap[mp]? = w1.heap[mp]?

theorem delMid_of {b mp : Nat} {most s s' : Int} {v : Value} {L L' : List QI} {w1 w2 w4 : World} {v' : Value} (hq : IsQ w1 b most s L v mp) (hqb : QBox w2 b most v mp s') (ht : Trip (fun j => j = b) w1 (fun j => j = b) w2) (hI : InsPost v L' w2 (.returned v') w4) :
    DelMid b mp most s' v L' w1 (w4.setCell ⟨b, 1, none⟩ v') ∧ w4.cell? ⟨b, 1, none⟩ = some v ∧ w4.frozen? ⟨b, 1, none⟩ = false := by
  obtain ⟨v'', he, hr', hg, hwh⟩ := hI
  injection he with he
  subst he
  have hbw := hq.box.lt
  have hmw := hq.map.lt
  have s12 := ht.size
  have s34 := hg.size
  have e4 : ∀ j, j < w1.heap.size → j ≠ b → v.ownBlock ≠ some j → w4.heap[j]? = w1.heap[j]? := fun j hj hjb hjv =>
    (hg.block j (by omega) (fun e => hjv e.symm)).trans (ht.block j hj hjb)
  have hqb4 : QBox w4 b most v mp s' := (hg.block b (by omega) (fun e => hq.n1 e.symm)).trans hqb
  have hnb : v'.ownBlock ≠ some b := fun e => by
    rcases hwh b e with h | h
    · exact hq.n1 h
    · omega
  have hnm : v'.ownBlock ≠ some mp := fun e => by
    rcases hwh mp e with h | h
    · exact hq.n2 h
    · omega
  refine ⟨⟨v', hqb4.set1 v', hr'.keep (fun g hg' => Below.heap_setCell w4 _ v' g (fun e => hnb (by rw [hg', e]))), hnb, hnm, ?_, ?_⟩, by simp [World.cell?, show w4.heap[b]? = _ from hqb4], by simp [World.frozen?, show w4.heap[b]? = _ from hqb4]⟩
  · refine ⟨hg.os.trans ht.os, hg.tape.trans ht.tape, hg.output.trans ht.output, by simp [World.setCell]; omega, fun j hj hn => ?_, ?_, ?_⟩
    · exact (Below.heap_setCell w4 _ v' j (fun e => hn (.inl e))).trans (e4 j hj (fun e => hn (.inl e)) (fun e => hn (.inr (.inr e))))
    · rintro j (rfl | rfl | h)
      · exact .inl (.inl rfl)
      · exact .inl (.inr (.inl rfl))
      · rcases hwh j h with h | h
        · exact .inl (.inr (.inr h))
        · exact .inr (by omega)
    · rintro j (rfl | rfl | h)
      · simp [World.setCell]; omega
      · simp [World.setCell]; omega
      · simp [World.setCell]; exact hr'.lt h
  · exact (Below.heap_setCell w4 _ v' mp (fun e => hq.n3 e)).trans (e4 mp hmw hq.n3 hq.n2)
/-- A thing that is there is at its place. -/
theorem place_mem {L : List QI} (ho : Ord L) {x : QI} {i p : Nat} (hi : L[i]? = some x) (hp : Place L x p) : p = i := by
  have h1 : ¬ i < p := fun h => by
    have := (hp.2 i x hi).1 h
    have h2 := befQ_asymm this
    rw [this] at h2; cases h2
  rcases Nat.lt_or_ge p i with h | h
  · have hpl : p < L.length := by have := (List.getElem?_eq_some_iff.1 hi).1; omega
    have hy := List.getElem?_eq_getElem hpl
    have := (hp.2 p _ hy).2 (ho.get hy hi h)
    omega
  · omega

set_option maxRecDepth 100000 in
set_option maxHeartbeats 4000000 in
/-- q.remove(x), x in the queue. -/
theorem remove_c (b mp : Nat) (most s : Int) (v : Value) (L : List QI) (x : QI) (i : Nat) (B : Nat) (w : World) (hq : IsQ w b most s L v mp) (hx : L[i]? = some x) (hL : L.length ≤ 1000000) (hB : L.length < 2 ^ B) (hB' : B ≤ 1000) (hs : 0 ≤ s) (hs' : s < 2305843009213693952) :
    Calls Tryz.prog 94 #[.pointer (some ⟨b, 0, none⟩), .agg (encQ x).toArray] w fun e w' => (∃ u, e = .returned u) ∧ ∃ v', ∃ k : Nat, k ≤ B + 1 ∧ IsQ w' b most (s + (k : Int)) (L.eraseIdx i) v' mp ∧ Trip (QOf b v mp) w (QOf b v' mp) w' := by
  have hbw := hq.box.lt
  have hil : i < L.length := (List.getElem?_eq_some_iff.1 hx).1
  have hxm : x ∈ L := List.mem_of_getElem? hx
  obtain ⟨w1, hw1⟩ : ∃ w1, w.alloc (.cells (encQ x).toArray 136) = w1 := ⟨_, rfl⟩
  have hbel : Below w.heap.size w w1 := by rw [← hw1]; exact (Below.refl _ w).alloc (Nat.le_refl _) _
  have hq1 : IsQ w1 b most s L v mp := hq.keep (fun k hk => hbel.block k (hq.lt k hk))
  have hxb : w1.heap[w.heap.size]? = some (.cells (encQ x).toArray 136 (0, 0)) := by rw [← hw1]; exact World.alloc_heap_new _ _
  have hs1 : w1.heap.size = w.heap.size + 1 := by rw [← hw1]; simp
  have KP := Lib.hid ((placeP_c x hq1 hL hB hB' hs hs' w1 (Below.refl _ _)).mono (fun e w' ⟨p, he, hP, _⟩ => (show e = Ending.returned (.int .i64 (i : Nat)) ∧ PlaceP b mp most s v L x B w1 i w' from by
    have := place_mem hq1.ord hx hP.1
    subst this
    exact ⟨he, hP⟩)))
  have KD : Hid (∀ w2, PlaceP b mp most s v L x B w1 i w2 → Calls Tryz.prog 99 #[v, .int .i64 i, .int .i64 ((i : Int) + 1)] w2 (InsPost v (L.eraseIdx i) w2)) :=
    Lib.hid (fun w2 ⟨_, k, _, _, hqr, _⟩ => qdel_c v L i w2 hqr hil hL)
  have HQ := Lib.hid hq
  have HQ1 := Lib.hid hq1
  have HBEL := Lib.hid hbel
  have HXB := Lib.hid hxb
  have HX := Lib.hid hx
  have HWF := Lib.hid (hq.wf x hxm)
  obtain ⟨A, c, rfl, _⟩ := hq.row.form
  have x0 : w1.cell? ⟨w.heap.size, 0, none⟩ = some (.int .i64 x.1) := by simp [World.cell?, hxb, encQ]
  have x1 : w1.cell? ⟨w.heap.size, 1, none⟩ = some (.int .i64 x.2) := by simp [World.cell?, hxb, encQ]
  have hHb : w.heap.size ≠ b := by omega
  have hH1 : w.heap.size < w1.heap.size := by omega
  clear hq hq1 hbel hxb hx hB hxm
  obtain ⟨xk, xi⟩ := x
  simp only at x0 x1
  have hw1' : w.alloc (.cells #[.int .i64 xk, .int .i64 xi] 136) = w1 := hw1
  have hwi : IntKind.i64.wrap ((i : Int) + 1) = (i : Int) + 1 := by rw [IntKind.wrap_i64]; omega
  clear hw1
  have KP' : Hid (Calls Tryz.prog 98 #[.pointer (some ⟨b, 0, none⟩), .agg #[.int .i64 xk, .int .i64 xi]] w1 fun e w' => e = .returned (.int .i64 (i : Nat)) ∧ PlaceP b mp most s (.slice A L.length c) L (xk, xi) B w1 i w') := KP
  clear KP
  show Calls _ _ #[_, .agg #[.int .i64 xk, .int .i64 xi]] _ _
  go_enter Tryz.func94, Tryz.ntmps94
  go_wp2_with (first
    | (go_at_call 98; refine (KP'.out).mono ?_; rintro e w2 ⟨rfl, hP⟩; have HP := Lib.hid hP; obtain ⟨d1, d2, d3, _⟩ := place_cells hP hHb hH1 HXB.out; clear hP)
    | (go_at_call 99; refine (KD.out w2 HP.out).mono ?_; rintro e w4 ⟨v', rfl, hr', hg', hw'⟩; obtain ⟨A', c', rfl, _⟩ := hr'.form; obtain ⟨_, k, hk, hqb, hqr, ht⟩ := HP.out; obtain ⟨hM, m1, m2⟩ := delMid_of HQ1.out hqb ht ⟨_, rfl, hr', hg', hw'⟩; have HM := Lib.hid hM; have HK := Lib.hid hk; clear hM hr' hg' hw' hqb hqr ht hk))
  obtain ⟨wc, hwc⟩ : ∃ wc, w4.setCell ⟨b, 1, none⟩ (.slice A' (L.eraseIdx i).length c') = wc := ⟨_, rfl⟩
  rw [hwc] at HM ⊢
  clear hwc
  obtain ⟨v', hqb, hqr, hn1, hn2, ht, hmp⟩ := HM.out
  have hq1 := HQ1.out
  obtain ⟨w', hrun, hQM, hgr, hsz⟩ := QMap.drop (w := wc.drew) (hq1.map.keep (w' := wc.drew) hmp) hq1.dist HX.out HWF.out.2 0
  have hrun' := hrun
  simp only at hrun'
  have eH : wc.heap[w.heap.size]? = some (.cells #[.int .i64 xk, .int .i64 xi] 136 (0, 0)) := (ht.block _ hH1 (fun h => by
    have := HQ.out.lt _ h; omega)).trans HXB.out
  have e1 : wc.cell? ⟨w.heap.size, 1, none⟩ = some (.int .i64 xi) := by simp [World.cell?, eH]
  have e2 : wc.cell? ⟨b, 2, none⟩ = some (.map (some mp)) := by simp [World.cell?, show wc.heap[b]? = _ from hqb]
  have POST : Hid (IsQ w' b most (s + (k : Int)) (L.eraseIdx i) v' mp ∧ Trip (QOf b (.slice A L.length c) mp) w (QOf b v' mp) w') := by
    refine Lib.hid ⟨⟨?_, ?_, hQM, hq1.ord.erase i, hq1.dist.erase i, fun x hx => hq1.wf x (List.mem_of_mem_eraseIdx hx), hn1, hn2, hq1.n3⟩, ?_⟩
    · exact (hgr.block b (by show b < wc.heap.size; exact hqb.lt) (fun e => hq1.n3 (by injection e with e; exact e.symm))).trans hqb
    · exact hqr.keep (fun g hg => hgr.block g (by show g < wc.heap.size; exact hqr.lt hg) (fun e => hn2 (by rw [hg]; exact e)))
    · have hb := HBEL.out
      have hsw : w'.heap.size = wc.heap.size := hsz
      have s1 := ht.size
      refine ⟨hgr.os.trans (ht.os.trans hb.os), hgr.tape.trans (ht.tape.trans hb.tape), hgr.output.trans (ht.output.trans hb.output), by omega, fun j hj hn => ?_, fun j hj => ?_, fun j hj => by rw [hsw]; exact ht.bd j hj⟩
      · exact (hgr.block j (by show j < wc.heap.size; omega) (fun e => hn (.inr (.inl (by injection e))))).trans ((ht.block j (by omega) hn).trans (hb.block j hj))
      · rcases ht.sub j hj with h | h
        · exact .inl h
        · exact .inr (by omega)
  clear HM hqb hqr hn1 hn2 ht hmp hq1 hQM hgr hsz eH KP' KD HQ HQ1 HBEL HXB HX HWF x0 x1 hrun HP d1 d2 d3 m1 m2 hw1'
  go_region
  all_goals
    go_wp2_with fail
    go_end0
    exact ⟨⟨_, rfl⟩, v', k, HK.out, POST.out⟩
end Go.Proofs.YtandmngfajoinaaGreat
