/- Queues: insert. -/
import Derived.Test.YtandmngfajoinaaGreatOg
import Derived.Test.YtandmngfajoinaaGreatPh
import Derived.Deep.CutBlock
import Derived.Deep.RegionLaw
namespace Go.Proofs.YtandmngfajoinaaGreat
open Go.RowKit

/-- Behind place, in a world that has grown of w1. -/
def PlaceP (b mp : Nat) (most s : Int) (v : Value) (L : List QI) (x : QI) (B : Nat) (w1 : World) (p : Nat) (w' : World) : Prop :=
  Place L x p ∧ ∃ k : Nat, k ≤ B + 1 ∧ QBox w' b most v mp (s + (k : Int)) ∧ QRow w' 136 v L ∧ Trip (fun j => j = b) w1 (fun j => j = b) w'
theorem below_nil {w W : World} (h : Below w.heap.size w W) {b : Nat} (hb : b < w.heap.size) : Trip (fun j => j = b) w (fun j => j = b) W :=
  ⟨h.os, h.tape, h.output, h.size, fun k hk _ => h.block k hk, fun _ h => .inl h, fun k hk => by have := h.size; omega⟩
theorem placeP_c {b mp : Nat} {most s : Int} {v : Value} {L : List QI} (x : QI) {B : Nat} {w1 : World} (hq : IsQ w1 b most s L v mp) (hL : L.length ≤ 1000000) (hB : L.length < 2 ^ B) (hB' : B ≤ 1000) (hs : 0 ≤ s) (hs' : s < 2305843009213693952) (W : World) (hW : Below w1.heap.size w1 W) :
    Calls Tryz.prog 98 #[.pointer (some ⟨b, 0, none⟩), .agg (encQ x).toArray] W fun e w' => ∃ p : Nat, e = .returned (.int .i64 p) ∧ PlaceP b mp most s v L x B w1 p w' ∧ Trip (fun j => j = b) W (fun j => j = b) w' := by
  have hq' : IsQ W b most s L v mp := hq.keep (fun k hk => hW.block k (hq.lt k hk))
  refine (place_c b mp most s v L x B W hq'.box hq'.row hq.n1 hq.ord hL hB hB' hs hs').mono ?_
  rintro e w' ⟨p, rfl, k, hk, hp, hqb, ht⟩
  refine ⟨p, rfl, ⟨hp, k, hk, hqb, hq'.row.keep (fun g hg => ht.block g (hq'.row.lt hg) (fun e => hq.n1 (by rw [hg, e]))), (below_nil hW hq.box.lt).trans ht⟩, ht⟩

/-- Behind Insert and the store. -/
def InsMid (b mp : Nat) (most s : Int) (v : Value) (L : List QI) (x : QI) (B : Nat) (w1 : World) (wx : World) : Prop :=
  ∃ v', ∃ k : Nat, k ≤ B + 1 ∧ QBox wx b most v' mp (s + (k : Int)) ∧ QRow wx 136 v' (insL L x) ∧ v'.ownBlock ≠ some b ∧ v'.ownBlock ≠ some mp ∧ (∀ g, v'.ownBlock = some g → v.ownBlock = some g ∨ w1.heap.size ≤ g) ∧ Trip (QOf b v mp) w1 (QOf b v' mp) wx ∧ wx.heap[mp]? = w1.heap[mp]?

theorem insMid_of {b mp : Nat} {most s : Int} {v : Value} {L : List QI} {x : QI} {B p : Nat} {w1 w2 w3 w4 : World} {v' : Value} (hq : IsQ w1 b most s L v mp) (hP : PlaceP b mp most s v L x B w1 p w2) (h23 : Below w2.heap.size w2 w3) (hI : InsPost v (insAt L p x) w3 (.returned v') w4) :
    InsMid b mp most s v L x B w1 (w4.setCell ⟨b, 1, none⟩ v') ∧ w4.cell? ⟨b, 1, none⟩ = some v ∧ w4.frozen? ⟨b, 1, none⟩ = false := by
  obtain ⟨hp, k, hk, hqb, hqr, ht⟩ := hP
  obtain ⟨v'', he, hr', hg, hwh⟩ := hI
  injection he with he
  subst he
  have hbw := hq.box.lt
  have hmw := hq.map.lt
  have s12 := ht.size
  have s23 := h23.size
  have s34 := hg.size
  have e4 : ∀ j, j < w1.heap.size → j ≠ b → v.ownBlock ≠ some j → w4.heap[j]? = w1.heap[j]? := fun j hj hjb hjv =>
    (hg.block j (by omega) (fun e => hjv e.symm)).trans ((h23.block j (by omega)).trans (ht.block j hj hjb))
  have hqb4 : QBox w4 b most v mp (s + (k : Int)) := (hg.block b (by omega) (fun e => hq.n1 e.symm)).trans ((h23.block b (by omega)).trans hqb)
  have hnb : v'.ownBlock ≠ some b := fun e => by
    rcases hwh b e with h | h
    · exact hq.n1 h
    · omega
  have hnm : v'.ownBlock ≠ some mp := fun e => by
    rcases hwh mp e with h | h
    · exact hq.n2 h
    · omega
  rw [insAt_place hp] at hr'
  refine ⟨⟨v', k, hk, hqb4.set1 v', hr'.keep (fun g hg' => Below.heap_setCell w4 _ v' g (fun e => hnb (by rw [hg', e]))), hnb, hnm, fun g hg' => ?_, ?_, ?_⟩, by simp [World.cell?, show w4.heap[b]? = _ from hqb4], by simp [World.frozen?, show w4.heap[b]? = _ from hqb4]⟩
  · rcases hwh g hg' with h | h
    · exact .inl h
    · exact .inr (by omega)
  · refine ⟨hg.os.trans (h23.os.trans ht.os), hg.tape.trans (h23.tape.trans ht.tape), hg.output.trans (h23.output.trans ht.output), by simp [World.setCell]; omega, fun j hj hn => ?_, ?_, ?_⟩
    · exact (Below.heap_setCell w4 _ v' j (fun e => hn (.inl e))).trans (e4 j hj (fun e => hn (.inl e)) (fun e => hn (.inr (.inr e))))
    · rintro j (rfl | rfl | h)
      · exact .inl (.inl rfl)
      · exact .inl (.inr (.inl rfl))
      · rcases hwh j h with h | h
        · exact .inl (.inr (.inr h))
        · exact .inr (by omega)
    · rintro j (rfl | rfl | h)
      · simp [World.setCell]; omega
      · simp [World.setCell]; omega
      · simp [World.setCell]; exact hr'.lt h
  · exact (Below.heap_setCell w4 _ v' mp (fun e => hq.n3 e)).trans (e4 mp hmw hq.n3 hq.n2)

theorem PlaceP.size {b mp : Nat} {most s : Int} {v : Value} {L : List QI} {x : QI} {B p : Nat} {w1 w' : World} (h : PlaceP b mp most s v L x B w1 p w') : w1.heap.size ≤ w'.heap.size := by
  obtain ⟨_, _, _, _, _, ht⟩ := h
  exact ht.size
theorem place_cells {b mp : Nat} {most s : Int} {v : Value} {L : List QI} {x : QI} {B p H : Nat} {w1 w' : World} {t : TypeId} (h : PlaceP b mp most s v L x B w1 p w') (hHb : H ≠ b) (hH : H < w1.heap.size) (hx : w1.heap[H]? = some (.cells #[.int .i64 x.1, .int .i64 x.2] t (0, 0))) :
    w'.cell? ⟨b, 1, none⟩ = some v ∧ w'.cell? ⟨H, 0, none⟩ = some (.int .i64 x.1) ∧ w'.cell? ⟨H, 1, none⟩ = some (.int .i64 x.2) ∧
      (w'.alloc (.cells #[.int .i64 x.1, .int .i64 x.2] 136)).cell? ⟨b, 1, none⟩ = some v ∧ (w'.alloc (.cells #[.int .i64 x.1, .int .i64 x.2] 136)).cell? ⟨H, 0, none⟩ = some (.int .i64 x.1) ∧ (w'.alloc (.cells #[.int .i64 x.1, .int .i64 x.2] 136)).cell? ⟨H, 1, none⟩ = some (.int .i64 x.2) := by
  obtain ⟨_, k, _, hqb, _, ht⟩ := h
  have e := (ht.block H hH hHb).trans hx
  have hb := hqb.lt
  have hH' : H < w'.heap.size := by have := ht.size; omega
  have e1 : w'.cell? ⟨b, 1, none⟩ = some v := by simp [World.cell?, show w'.heap[b]? = _ from hqb]
  have e2 : w'.cell? ⟨H, 0, none⟩ = some (.int .i64 x.1) := by simp [World.cell?, e]
  have e3 : w'.cell? ⟨H, 1, none⟩ = some (.int .i64 x.2) := by simp [World.cell?, e]
  have hB := (Below.refl _ w').alloc (Nat.le_refl _) (.cells #[.int .i64 x.1, .int .i64 x.2] 136)
  exact ⟨e1, e2, e3, (hB.cell (p := ⟨b, 1, none⟩) hb).trans e1, (hB.cell (p := ⟨H, 0, none⟩) hH').trans e2, (hB.cell (p := ⟨H, 1, none⟩) hH').trans e3⟩
theorem grown_cells {v : Value} {w w' : World} {H : Nat} {x0 x1 : Int} (hg : w.grownBy w' v.ownBlock) (hn : v.ownBlock ≠ some H) (h0 : w.cell? ⟨H, 0, none⟩ = some (.int .i64 x0)) (h1 : w.cell? ⟨H, 1, none⟩ = some (.int .i64 x1)) : w'.cell? ⟨H, 0, none⟩ = some (.int .i64 x0) ∧ w'.cell? ⟨H, 1, none⟩ = some (.int .i64 x1) := by
  have hlt : H < w.heap.size := World.block_lt_of_cell? w _ h0
  have e := hg.block H hlt (fun e => hn e.symm)
  exact ⟨(World.cell?_of_block (a := ⟨H, 0, none⟩) e).trans h0, (World.cell?_of_block (a := ⟨H, 1, none⟩) e).trans h1⟩
theorem built_kept {b : Nat} {w1 w2 : World} {cs : Array Value} {t : TypeId} (hT : Trip (fun j => j = b) (w1.alloc (.cells cs t)).drew (fun j => j = b) w2) (hb : b < w1.heap.size) : w2.heap[w1.heap.size]? = some (.cells cs t (0, 0)) :=
  (hT.block _ (by show _ < (w1.alloc _).heap.size; simp) (by omega)).trans (World.alloc_heap_new w1 _)

set_option maxRecDepth 100000 in
set_option maxHeartbeats 8000000 in
/-- q.insert(x). -/
theorem insert_c (b mp : Nat) (most s : Int) (v : Value) (L : List QI) (x : QI) (B : Nat) (w : World) (hq : IsQ w b most s L v mp) (hx : ∀ z ∈ L, z.2 ≠ x.2) (hk : wf64 x.1) (hi : wf64 x.2) (hL : L.length ≤ 1000000) (hB : L.length < 2 ^ B) (hB' : B ≤ 1000) (hs : 0 ≤ s) (hs' : s < 2305843009213693952) :
    Calls Tryz.prog 91 #[.pointer (some ⟨b, 0, none⟩), .agg (encQ x).toArray] w fun e w' => (∃ u, e = .returned u) ∧ ∃ v', ∃ k : Nat, k ≤ B + 1 ∧ IsQ w' b most (s + (k : Int)) (insL L x) v' mp ∧ Trip (QOf b v mp) w (QOf b v' mp) w' := by
  have hbw := hq.box.lt
  obtain ⟨w1, hw1⟩ : ∃ w1, w.alloc (.cells (encQ x).toArray 136) = w1 := ⟨_, rfl⟩
  have hbel : Below w.heap.size w w1 := by rw [← hw1]; exact (Below.refl _ w).alloc (Nat.le_refl _) _
  have hq1 : IsQ w1 b most s L v mp := hq.keep (fun k hk => hbel.block k (hq.lt k hk))
  have hxb : w1.heap[w.heap.size]? = some (.cells (encQ x).toArray 136 (0, 0)) := by rw [← hw1]; exact World.alloc_heap_new _ _
  have hs1 : w1.heap.size = w.heap.size + 1 := by rw [← hw1]; simp
  have KP := Lib.hid (fun W hW => placeP_c x hq1 hL hB hB' hs hs' W hW)
  have KI : Hid (∀ (p vb : Nat) (w2 W : World), PlaceP b mp most s v L x B w1 p w2 → Below w2.heap.size w2 W → W.heap[vb]? = some (.cells (encQ x).toArray 136 (0, 0)) → w1.heap.size ≤ vb →
      Calls Tryz.prog 97 #[v, .int .i64 p, .slice (some ⟨vb, 0, none⟩) 1 1] W (InsPost v (insAt L p x) W)) := Lib.hid (fun p vb w2 W hP hW hvb hlt => by
    obtain ⟨hp, k, hk, hqb, hqr, ht⟩ := hP
    exact qins_c v L p x vb W (hqr.keep (fun g hg => hW.block g (hqr.lt hg))) hp.1 hL hvb (fun e => by have := hq1.row.lt e; omega))
  have HQ := Lib.hid hq
  have HQ1 := Lib.hid hq1
  have HBEL := Lib.hid hbel
  have HXB := Lib.hid hxb
  have HX := Lib.hid hx
  have HB := Lib.hid hB
  obtain ⟨A, c, rfl, _⟩ := hq.row.form
  have c1 : w1.cell? ⟨b, 1, none⟩ = some (.slice A L.length c) := by simp [World.cell?, show w1.heap[b]? = _ from hq1.box]
  have x0 : w1.cell? ⟨w.heap.size, 0, none⟩ = some (.int .i64 x.1) := by simp [World.cell?, hxb, encQ]
  have x1 : w1.cell? ⟨w.heap.size, 1, none⟩ = some (.int .i64 x.2) := by simp [World.cell?, hxb, encQ]
  clear hq hq1 hbel hxb hx hB
  obtain ⟨xk, xi⟩ := x
  simp only at x0 x1 hk hi
  have hw1' : w.alloc (.cells #[.int .i64 xk, .int .i64 xi] 136) = w1 := hw1
  clear hw1
  show Calls _ _ #[_, .agg #[.int .i64 xk, .int .i64 xi]] _ _
  go_enter Tryz.func91, Tryz.ntmps91
  go_wp2_with fail
  clear hw1'
  go_cut [] (fun wx => Hid (InsMid b mp most s (.slice A L.length c) L (xk, xi) B w1 wx))
  case first =>
    have hb1 : b < w1.heap.size := by omega
    have hH1 : w.heap.size < w1.heap.size := by omega
    have KB0 : Hid (Below w1.heap.size w1 w1.drew) := Lib.hid (Below.refl _ w1).drew
    have KB1 : Hid (Below w1.heap.size w1 (w1.alloc (.cells #[.int .i64 xk, .int .i64 xi] 136)).drew) := Lib.hid ((Below.refl _ w1).alloc (Nat.le_refl _) _).drew
    have a1 := (KB1.out.cell (p := ⟨b, 1, none⟩) hb1).trans c1
    have a2 := (KB1.out.cell (p := ⟨w.heap.size, 0, none⟩) hH1).trans x0
    have a3 := (KB1.out.cell (p := ⟨w.heap.size, 1, none⟩) hH1).trans x1
    have hHb : w.heap.size ≠ b := by omega
    have HS1 := Lib.hid hs1
    have HXK := Lib.hid (And.intro hk hi)
    have HNH : Hid ((Value.slice A L.length c).ownBlock ≠ some w.heap.size) := Lib.hid (fun e => by have := HQ.out.row.lt e; omega)
    clear hs1 hk hi hbw HBEL HQ HX HB
    refine wp_region_phase 11 (by kernel_rfl) (by kernel_rfl) (fun w' => w'.cell? ⟨b, 1, none⟩ = some (.slice A L.length c) ∧ w'.cell? ⟨w.heap.size, 0, none⟩ = some (.int .i64 xk) ∧ w'.cell? ⟨w.heap.size, 1, none⟩ = some (.int .i64 xi)) ?_
    have HS0 : Hid ((fun w' : World => w'.cell? ⟨b, 1, none⟩ = some (.slice A L.length c) ∧ w'.cell? ⟨w.heap.size, 0, none⟩ = some (.int .i64 xk) ∧ w'.cell? ⟨w.heap.size, 1, none⟩ = some (.int .i64 xi)) w1.drew) := Lib.hid ⟨c1, x0, x1⟩
    refine wpAnyH_take (i := 0) (v := .pointer (some ⟨b, 0, none⟩)) rfl (by kernel_rfl) (by kernel_rfl) (by kernel_rfl) (fun _ _ _ h => h) (Or.inl ⟨by rfl, ?_⟩) HS0.out ?_
    · rintro w' ⟨s1, s2, s3⟩; go_simp
    simp only [Act.put, List.setIfInBounds_toArray]
    refine wpAnyH_take (i := 1) (v := .pointer (some ⟨b, 0, none⟩)) rfl (by kernel_rfl) (by kernel_rfl) (by kernel_rfl) (fun _ _ _ h => h) (Or.inl ⟨by rfl, ?_⟩) HS0.out ?_
    · rintro w' ⟨s1, s2, s3⟩; go_simp
    simp only [Act.put]
    refine wpAnyH_take (i := 2) (v := .pointer (some ⟨b, 0, none⟩)) rfl (by kernel_rfl) (by kernel_rfl) (by kernel_rfl) (fun _ _ _ h => h) (Or.inl ⟨by rfl, ?_⟩) HS0.out ?_
    · rintro w' ⟨s1, s2, s3⟩; go_simp
    simp only [Act.put]
    refine wpAnyH_take (i := 3) (v := .pointer (some ⟨b, 1, none⟩)) rfl (by kernel_rfl) (by kernel_rfl) (by kernel_rfl) (fun _ _ _ h => h) (Or.inl ⟨by rfl, ?_⟩) HS0.out ?_
    · rintro w' ⟨s1, s2, s3⟩; go_simp
    simp only [Act.put]
    refine wpAnyH_take (i := 4) (v := .slice A L.length c) rfl (by kernel_rfl) (by kernel_rfl) (by kernel_rfl) (fun _ _ _ h => h) (Or.inl ⟨by rfl, ?_⟩) HS0.out ?_
    · rintro w' ⟨s1, s2, s3⟩; go_simp
    simp only [Act.put]
    refine wpAnyH_take (i := 5) (v := .pointer (some ⟨b, 0, none⟩)) rfl (by kernel_rfl) (by kernel_rfl) (by kernel_rfl) (fun _ _ _ h => h) (Or.inl ⟨by rfl, ?_⟩) HS0.out ?_
    · rintro w' ⟨s1, s2, s3⟩; go_simp
    simp only [Act.put]
    refine wpAnyH_take (i := 6) (v := .agg #[.int .i64 xk, .int .i64 xi]) rfl (by kernel_rfl) (by kernel_rfl) (by kernel_rfl) (fun _ _ _ h => h) (Or.inl ⟨by rfl, ?_⟩) HS0.out ?_
    · rintro w' ⟨s1, s2, s3⟩; go_simp
    simp only [Act.put]
    refine wpAnyH_take (i := 8) (v := .agg #[.int .i64 xk, .int .i64 xi]) rfl (by kernel_rfl) (by kernel_rfl) (by kernel_rfl) (fun _ _ _ h => h) (Or.inl ⟨by rfl, ?_⟩) HS0.out ?_
    · rintro w' ⟨s1, s2, s3⟩; go_simp
    simp only [Act.put]
    refine wpAnyH_ready (rs := [7, 9]) (by kernel_rfl) (by simp) ?_
    refine AllReadyH.cons rfl (fun K hK => ?_) (AllReadyH.cons rfl (fun K hK => ?_) AllReadyH.nil)
    · clear a1 a2 a3 KB1
      go_simp
      refine (KP.out _ KB0.out).mono ?_
      rintro e w2 ⟨p, rfl, hP, hT⟩
      have HP := Lib.hid hP
      obtain ⟨d1, d2, d3, d4, d5, d6⟩ := place_cells hP hHb hH1 HXB.out
      clear hP hT
      refine hK.out _ _ ⟨d1, d2, d3⟩ (fun _ => ?_)
      clear hK
      refine wpAnyH_ready (rs := [9]) (by kernel_rfl) (by simp) ?_
      refine AllReadyH.cons rfl (fun K hK => ?_) AllReadyH.nil
      go_simp
      refine hK.out _ _ ⟨d4, d5, d6⟩ (fun _ => ?_)
      clear hK
      refine wpAnyH_ready (rs := [10]) (by kernel_rfl) (by simp) ?_
      refine AllReadyH.cons rfl (fun K hK => ?_) AllReadyH.nil
      go_simp
      refine (KI.out p w2.heap.size w2 (w2.alloc (.cells #[.int .i64 xk, .int .i64 xi] 136)) HP.out ((Below.refl _ w2).alloc (Nat.le_refl _) _) (World.alloc_heap_new w2 _) HP.out.size).mono ?_
      rintro e w4 ⟨v', rfl, hr', hg', hw'⟩
      obtain ⟨A', c', rfl, _⟩ := hr'.form
      obtain ⟨hM, m1, m2⟩ := insMid_of HQ1.out HP.out ((Below.refl _ w2).alloc (Nat.le_refl _) _) ⟨_, rfl, hr', hg', hw'⟩
      obtain ⟨m3, m4⟩ := grown_cells hg' HNH.out d5 d6
      have HM := Lib.hid hM
      clear hM hr' hg' hw' d1 d2 d3 d4 d5 d6
      refine hK.out _ _ ⟨m1, m3, m4⟩ (fun _ => ?_)
      refine wpAnyH_done (by kernel_rfl) ?_ _
      refine phase_tail (by kernel_rfl) ?_
      clear hK KP KI
      simp only [List.drop_succ_cons, List.drop_zero]
      go_wp2_with fail
      go_meet
      exact HM
    · clear KB0
      go_simp
      refine hK.out _ _ ⟨a1, a2, a3⟩ (fun _ => ?_)
      clear hK
      refine wpAnyH_ready (rs := [7]) (by kernel_rfl) (by simp) ?_
      refine AllReadyH.cons rfl (fun K hK => ?_) AllReadyH.nil
      go_simp
      refine (KP.out _ KB1.out).mono ?_
      rintro e w2 ⟨p, rfl, hP, hT⟩
      have HP := Lib.hid hP
      have HT := Lib.hid hT
      obtain ⟨d1, d2, d3, _⟩ := place_cells hP hHb hH1 HXB.out
      clear hP hT
      refine hK.out _ _ ⟨d1, d2, d3⟩ (fun _ => ?_)
      clear hK
      refine wpAnyH_ready (rs := [10]) (by kernel_rfl) (by simp) ?_
      refine AllReadyH.cons rfl (fun K hK => ?_) AllReadyH.nil
      go_simp
      refine (KI.out p w1.heap.size w2 w2 HP.out (Below.refl _ w2) (built_kept HT.out hb1) (Nat.le_refl _)).mono ?_
      rintro e w4 ⟨v', rfl, hr', hg', hw'⟩
      obtain ⟨A', c', rfl, _⟩ := hr'.form
      obtain ⟨hM, m1, m2⟩ := insMid_of HQ1.out HP.out (Below.refl _ w2) ⟨_, rfl, hr', hg', hw'⟩
      obtain ⟨m3, m4⟩ := grown_cells hg' HNH.out d2 d3
      have HM := Lib.hid hM
      clear hM hr' hg' hw' d1 d2 d3
      refine hK.out _ _ ⟨m1, m3, m4⟩ (fun _ => ?_)
      refine wpAnyH_done (by kernel_rfl) ?_ _
      refine phase_tail (by kernel_rfl) ?_
      clear hK KP KI
      simp only [List.drop_succ_cons, List.drop_zero]
      go_wp2_with fail
      go_meet
      exact HM
  case rest =>
    obtain ⟨v', k, hk', hqb, hqr, hn1, hn2, hwh, ht, hmp⟩ := hcut.out
    have hq1 := HQ1.out
    have hmw := hq1.map.lt
    obtain ⟨w', hrun, hQM, hgr, hsz⟩ := QMap.store (w := wc.drew) (hq1.map.keep (w' := wc.drew) hmp) (xk, xi) hk hi hL HX.out
    have hrun' := hrun
    simp only at hrun'
    have hHw : w.heap.size < w1.heap.size := by omega
    have eH : wc.heap[w.heap.size]? = some (.cells #[.int .i64 xk, .int .i64 xi] 136 (0, 0)) := (ht.block _ hHw (fun h => by
      have := HQ.out.lt _ h; omega)).trans HXB.out
    have e0 : wc.cell? ⟨w.heap.size, 0, none⟩ = some (.int .i64 xk) := by simp [World.cell?, eH]
    have e1 : wc.cell? ⟨w.heap.size, 1, none⟩ = some (.int .i64 xi) := by simp [World.cell?, eH]
    have e2 : wc.cell? ⟨b, 2, none⟩ = some (.map (some mp)) := by simp [World.cell?, show wc.heap[b]? = _ from hqb]
    have POST : Hid (IsQ w' b most (s + (k : Int)) (insL L (xk, xi)) v' mp ∧ Trip (QOf b (.slice A L.length c) mp) w (QOf b v' mp) w') := by
      refine Lib.hid ⟨⟨?_, ?_, hQM, hq1.ord.ins (fun hm => HX.out _ hm rfl), hq1.dist.ins HX.out, fun x hx => ?_, hn1, hn2, hq1.n3⟩, ?_⟩
      · exact (hgr.block b (by show b < wc.heap.size; exact hqb.lt) (fun e => hq1.n3 (by injection e with e; exact e.symm))).trans hqb
      · exact hqr.keep (fun g hg => hgr.block g (by show g < wc.heap.size; exact hqr.lt hg) (fun e => hn2 (by rw [hg]; exact e)))
      · rcases mem_insL.1 hx with rfl | hx
        · exact ⟨hk, hi⟩
        · exact hq1.wf x hx
      · have hb := HBEL.out
        have hsw : w'.heap.size = wc.heap.size := hsz
        have s1 := ht.size
        refine ⟨hgr.os.trans (ht.os.trans hb.os), hgr.tape.trans (ht.tape.trans hb.tape), hgr.output.trans (ht.output.trans hb.output), by omega, fun j hj hn => ?_, fun j hj => ?_, fun j hj => by rw [hsw]; exact ht.bd j hj⟩
        · exact (hgr.block j (by show j < wc.heap.size; omega) (fun e => hn (.inr (.inl (by injection e))))).trans ((ht.block j (by omega) hn).trans (hb.block j hj))
        · rcases ht.sub j hj with h | h
          · exact .inl h
          · exact .inr (by omega)
    have HK := Lib.hid hk'
    clear hcut hqb hqr hn1 hn2 hwh ht hmp hq1 hmw hQM hgr hsz eH KP KI HQ HQ1 HBEL HXB HX HB c1 x0 x1 hrun hk hi hk'
    go_wp2_with fail
    go_region
    all_goals
      go_wp2_with fail
      go_end0
      exact ⟨⟨_, rfl⟩, v', k, HK.out, POST.out⟩
end Go.Proofs.YtandmngfajoinaaGreat
