/- stride: the law's awake. -/
import Derived.Test.YtnfcapeajhegmaaGreatSj
namespace Go.Proofs.YtnfcapeajhegmaaGreat
open Go.RowKit Go.Maps

theorem want_cell {w : World} {g k : Nat} {z : Int} (h : w.heap[g]? = some (.cells (wantA.map (Value.int .i64)).toArray 3 (0, 0))) (hk : wantA[k]? = some z) : w.cell? ⟨g, k, none⟩ = some (.int .i64 z) := by
  simp [World.cell?, h, hk]
set_option maxRecDepth 100000 in
set_option maxHeartbeats 4000000 in
theorem awake11_c (w : World) : Calls Tryz.prog 5 #[] w fun e w' => e = .returned (.bool true) ∧ Below w.heap.size w w' := by
  have hi := aw_init
  have HI := Lib.hid hi
  have HN := Lib.hid aw_next
  clear hi
  go_enter Tryz.func5, Tryz.ntmps5
  go_wp2_with fail
  refine (snew_in w w (Below.refl _ w) 0 (fun _ => False) (fun _ h => h.elim) (by decide) (by decide)).mono ?_
  rintro e w1 ⟨s, rfl, hq, hb⟩
  have H1 := Lib.hid hq
  clear hq hb
  go_wp2_with fail
  refine (senter_in (1, 1, 0) H1.out (by decide) (by decide) (by decide)).mono ?_
  rintro e w2 ⟨rfl, hq, -⟩
  rw [HI.out.1] at hq ⊢
  have H2 := Lib.hid hq
  clear hq
  simp only
  go_wp2_with fail
  refine (senter_in (2, 2, 0) H2.out (by decide) (by decide) (by decide)).mono ?_
  rintro e w3 ⟨rfl, hq, -⟩
  rw [HI.out.2] at hq ⊢
  have hb4 : Below w3.heap.size w3 (w3.alloc (.cells #[.int .i64 1, .int .i64 2, .int .i64 2, .int .i64 1, .int .i64 2, .int .i64 2] 3)) := (Below.refl _ w3).alloc (Nat.le_refl _) _
  have H3 := Lib.hid (hq.more (w' := w3.alloc (.cells #[.int .i64 1, .int .i64 2, .int .i64 2, .int .i64 1, .int .i64 2, .int .i64 2] 3)) (G := fun k => k = w3.heap.size) hb4 (fun k hk => .inr (by rw [World.size_alloc]; omega)))
  have HG : Hid ((w3.alloc (.cells #[.int .i64 1, .int .i64 2, .int .i64 2, .int .i64 1, .int .i64 2, .int .i64 2] 3)).heap[w3.heap.size]? = some (.cells (wantA.map (Value.int .i64)).toArray 3 (0, 0))) := Lib.hid (World.alloc_heap_new w3 _)
  clear hq hb4 H1 H2
  simp only
  go_wp2_with fail
  obtain ⟨g, hg⟩ : ∃ g, w3.heap.size = g := ⟨_, rfl⟩
  rw [hg] at HG H3 ⊢
  have HA : Hid (∃ cur, SIn w (w3.alloc (.cells #[.int .i64 1, .int .i64 2, .int .i64 2, .int .i64 1, .int .i64 2, .int .i64 2] 3)) s (awS 0).1 cur (awS 0).2 (16 + 16 * 0) (fun k => k = g) ∧ (w3.alloc (.cells #[.int .i64 1, .int .i64 2, .int .i64 2, .int .i64 1, .int .i64 2, .int .i64 2] 3)).heap[g]? = some (.cells (wantA.map (Value.int .i64)).toArray 3 (0, 0))) := Lib.hid ⟨_, H3.out, HG.out⟩
  clear hg H3 HG HI
  go_loopw [4] (fun i wr => ∃ k : Nat, i = .int .i64 k ∧ k ≤ 6 ∧ Hid (∃ cur, SIn w wr s (awS k).1 cur (awS k).2 (16 + 16 * k) (fun k => k = g) ∧ wr.heap[g]? = some (.cells (wantA.map (Value.int .i64)).toArray 3 (0, 0)))) (fun i _ => 6 - (intOf i).toNat)
  case atStart => exact ⟨0, rfl, by omega, HA⟩
  case round =>
    obtain ⟨k, rfl, hk, HQ⟩ := hrel
    clear HA
    by_cases hlt : k < 6
    · have hok := HN.out k hlt
      unfold awOk at hok
      simp only [Bool.and_eq_true, Bool.not_eq_true', decide_eq_true_eq, decide_eq_false_iff_not] at hok
      obtain ⟨⟨h1, h2⟩, h3⟩ := hok
      obtain ⟨cur, hq, hgr⟩ := HQ.out
      have KP := Lib.hid (spick_in hq)
      rw [if_neg h1, if_neg h1, decide_eq_false h1] at KP
      have HGR := Lib.hid hgr
      have H12 := Lib.hid (And.intro h2 h3)
      generalize (minR (awS k).2).2 = id at *
      clear hq hgr h1 h2 h3 HQ
      go_wp2_with fail
      refine KP.out.mono ?_
      rintro e w5 ⟨rfl, hq, hF⟩
      have KC := Lib.hid (scharge_in hq (by omega))
      rw [H12.out.2] at KC
      have HG5 := Lib.hid ((hF g rfl).trans HGR.out)
      clear hq hF KP HGR
      simp only [Bool.not_false]
      go_wp2_with fail
      refine KC.out.mono ?_
      rintro e w6 ⟨rfl, hq, hF⟩
      have HG6 := Lib.hid ((hF g rfl).trans HG5.out)
      have c0 := want_cell HG6.out H12.out.1
      have HQ6 := Lib.hid hq
      clear hq hF KC HG5
      have hlt' : (k : Int) < 6 := by omega
      simp only
      go_wp2_with fail
      go_roundw
      case rel => exact ⟨k + 1, by go_num, by omega, Lib.hid ⟨_, HQ6.out, HG6.out⟩⟩
      case measure => simp [intOf]; omega
    · obtain rfl : k = 6 := by omega
      obtain ⟨cur, hq, hgr⟩ := HQ.out
      have HB := Lib.hid hq.frame
      clear hq hgr HQ
      go_wp2_with fail
      go_ret
      exact ⟨rfl, HB.out⟩
end Go.Proofs.YtnfcapeajhegmaaGreat
