/- The law's step: one act on both. -/
import Derived.Test.YtnfcapeajhegmaaGreatFy3
import Derived.Test.YtnfcapeajhegmaaGreatFzt
import Derived.Test.YtnfcapeajhegmaaGreatLFg3
namespace Go.Proofs.YtnfcapeajhegmaaGreat
open Go.RowKit Go.Maps

set_option maxRecDepth 100000 in
set_option maxHeartbeats 16000000 in
theorem sstep_c {W w : World} {s p k : Nat} {base cur : Int} {R : List RI} (o i m g : Int) (hwi : wf64 i) (hwm : wf64 m) (h : PlF W w s p k base cur R (fun _ => False)) (hk : k < 200) :
    Calls Tryz.prog 18 #[.pointer (some ⟨s, 0, none⟩), .pointer (some ⟨p, 0, none⟩), .agg #[.int .i64 o, .int .i64 i, .int .i64 m, .int .i64 g]] w fun e w' => e = .returned (.bool true) ∧ ∃ b' c' R', PlF W w' s p (k + 1) b' c' R' (fun _ => False) := by
  have hb2 : Below w.heap.size w (w.alloc (.cells #[.int .i64 o, .int .i64 i, .int .i64 m, .int .i64 g] 50)) := (Below.refl _ w).alloc (Nat.le_refl _) _
  obtain ⟨w6, hw6⟩ : ∃ w6, w.alloc (.cells #[.int .i64 o, .int .i64 i, .int .i64 m, .int .i64 g] 50) = w6 := ⟨_, rfl⟩
  have hbx : ActAt w6 w.heap.size o i m g := by rw [← hw6]; exact heap_alloc_new w _
  have hsz6 : w6.heap.size = w.heap.size + 1 := by rw [← hw6]; simp
  rw [hw6] at hb2
  obtain ⟨x0, x1, x2, x3⟩ := hbx.cells
  have HX : Hid (∀ W' : World, W'.heap[w.heap.size]? = w6.heap[w.heap.size]? → W'.cell? ⟨w.heap.size, 1, none⟩ = some (.int .i64 i) ∧ W'.cell? ⟨w.heap.size, 2, none⟩ = some (.int .i64 m) ∧ W'.cell? ⟨w.heap.size, 3, none⟩ = some (.int .i64 g)) := Lib.hid (fun W' h => (ActAt.cells (h.trans hbx)).2)
  have HQ6 : Hid (PlF W w6 s p k base cur R (fun j => j = w.heap.size)) := Lib.hid (h.more hb2 (fun j hj => .inr (by omega)))
  have HI := Lib.hid (And.intro hwi hwm)
  have HW := Lib.hid hw6
  have hcur : cur = -1 ∨ (0 ≤ cur ∧ cur ≠ -1) := by
    have hwf := h.1.wf
    rcases hwf.cur with h1 | h1
    · exact .inl h1
    · obtain ⟨r, hr, he⟩ := hasI_iff.1 h1
      have := (hwf.each r hr).1
      exact .inr (by omega)
  have HC := Lib.hid hcur
  clear h hwi hwm hb2 hbx hsz6 hw6 hcur
  have TAIL : Hid (∀ (w7 : World) (b' c' : Int) (R' : List RI), Hid (PlF W w7 s p (k + 1) b' c' R' (fun j => j = w.heap.size)) → w7.drew.cell? ⟨p, 1, none⟩ = some (.int .i64 b') ∧ Hid (Calls Tryz.prog 16 #[.pointer (some ⟨s, 0, none⟩)] w7.drew fun e w8 => ∃ A c, e = .returned (.agg #[.int .i64 c', .slice A R'.length c]) ∧ w8.cell? ⟨p, 1, none⟩ = some (.int .i64 b') ∧
      Hid (Calls Tryz.prog 15 #[.agg #[.int .i64 c', .slice A R'.length c]] w8 fun e w9 => ∃ A2 c2, e = .returned (.agg #[.int .i64 c', .slice A2 R'.length c2]) ∧ w9.cell? ⟨p, 1, none⟩ = some (.int .i64 b') ∧
      Hid (Calls Tryz.prog 40 #[.pointer (some ⟨p, 0, none⟩)] w9 fun e w10 => ∃ A3 c3, e = .returned (.agg #[.int .i64 c', .slice A3 R'.length c3]) ∧ w10.cell? ⟨p, 1, none⟩ = some (.int .i64 b') ∧
      Hid (Calls Tryz.prog 39 #[.agg #[.int .i64 c', .slice A2 R'.length c2], .agg #[.int .i64 c', .slice A3 R'.length c3]] w10 fun e w11 => e = .returned (.bool true) ∧ w11.cell? ⟨p, 1, none⟩ = some (.int .i64 b') ∧
      Hid (Calls Tryz.prog 17 #[.pointer (some ⟨s, 0, none⟩)] w11 fun e w12 => e = .returned (.int .i64 b') ∧ w11 = w12) ∧ Hid (PlF W w11 s p (k + 1) b' c' R' (fun _ => False))))))) := Lib.hid (fun w7 b' c' R' h => by
    have hq := h.out.more (Below.refl _ w7).drew (fun j hj => .inl hj)
    have hl64 := hq.1.wf.len
    refine ⟨hq.1.refCells.1, Lib.hid ((p2_form hq.1).mono ?_)⟩
    rintro e w8 ⟨A, c, rfl, hT8, hb8⟩
    have hq8 := hq.more hb8 (fun j hj => .inl hj)
    refine ⟨A, c, rfl, hq8.1.refCells.1, Lib.hid ((own_c c' A R'.length c (formL b' R') w8 (formL_length _ _) (by omega) hT8).mono ?_)⟩
    rintro e w9 ⟨A2, c2, rfl, hT9, hb9⟩
    have hq9 := hq8.more hb9 (fun j hj => .inl hj)
    rw [formL_length]
    refine ⟨A2, c2, rfl, hq9.1.refCells.1, Lib.hid ((p2_rform hq9.1 hq9.1.wf).mono ?_)⟩
    rintro e w10 ⟨A3, c3, rfl, hT10, hb10⟩
    have hq10 := hq9.more hb10 (fun j hj => .inl hj)
    rw [formL_length]
    refine ⟨A3, c3, rfl, hq10.1.refCells.1, Lib.hid ((rsame_c c' A2 A3 R'.length c2 c3 (formL b' R') w10 (formL_length _ _) (by omega) (hT9.below hb10 (Nat.le_refl _)) hT10).mono ?_)⟩
    rintro e w11 ⟨rfl, hb11⟩
    have hq11 := hq10.more hb11 (fun j hj => .inl hj)
    exact ⟨rfl, hq11.1.refCells.1, Lib.hid (p2_base hq11.1), Lib.hid (hq11.more (Below.refl _ w11) (fun j hj => hj.elim))⟩)
  go_enter Tryz.func18, Tryz.ntmps18
  by_cases ho0 : o = 0
  · subst ho0
    have HS0 := Lib.hid (And.intro x1 (And.intro x2 x3))
    have HQD : Hid (PlF W w6.drew s p k base cur R (fun j => j = w.heap.size)) := Lib.hid (HQ6.out.more (Below.refl _ w6).drew (fun j hj => .inl hj))
    have K1 := Lib.hid ((pl_enter1 (i, m, g) HQD.out hk).mono (fun e w' ⟨he, hq, hF⟩ => And.intro he (And.intro (Lib.hid hq) (And.intro (hF _ (.inl rfl)) (HX.out w' (hF _ (.inl rfl)))))))
    have K2 := Lib.hid (fun (w7 : World) (h7 : PlH W w7 s p k (enterM base R (i, m, g)).2.1 cur (enterM base R (i, m, g)).2.2 base cur R (fun j => j = w.heap.size)) (h8 : w7.heap[w.heap.size]? = w6.drew.heap[w.heap.size]?) => (pl_enter2 (w := w7) (i, m, g) h7).mono (fun e w' ⟨he, hq, hF⟩ => And.intro he (And.intro (Lib.hid hq) (HX.out w' ((hF _ rfl).trans h8)))))
    generalize (enterM base R (i, m, g)).1 = r1 at *
    generalize (enterM base R (i, m, g)).2.1 = base1 at *
    generalize (enterM base R (i, m, g)).2.2 = R1 at *
    go_wp2_with fail
    rw [HW.out]
    go_region_held3 (fun w' => w'.cell? ⟨w.heap.size, 1, none⟩ = some (.int .i64 i) ∧ w'.cell? ⟨w.heap.size, 2, none⟩ = some (.int .i64 m) ∧ w'.cell? ⟨w.heap.size, 3, none⟩ = some (.int .i64 g)) (first | exact HS0.out | exact HS1.out | exact HS2.out | go_keep)
      (first
        | (go_at_call 42; refine K1.out.mono ?_; rintro e w7 ⟨rfl, HH, h8, hS⟩; have HS1 := Lib.hid hS; have H8 := Lib.hid h8; clear hS h8)
        | (go_at_call 30; refine (K2.out _ HH.out H8.out).mono ?_; rintro e w8 ⟨rfl, HD, hS⟩; have HS2 := Lib.hid hS; clear hS))
    clear HS0 HS1 HS2 K1 K2 HH H8 HQD x1 x2 x3 x0
    go_wp2_with fail
    obtain ⟨hs0, KF⟩ := TAIL.out _ _ _ _ HD
    have HS0 := Lib.hid hs0
    clear HD TAIL HI HQ6 HX HW HC hs0
    go_wp2_with fail
    go_region_held3 (fun w' => w'.cell? ⟨p, 1, none⟩ = some (.int .i64 base1)) (first | exact HS0.out | exact HS1.out | exact HS2.out | exact HS3.out | exact HS4.out | go_keep)
      (first
        | (go_at_call 16; refine KF.out.mono ?_; rintro e w8 ⟨A8, c8, rfl, hS, KO⟩; have HS1 := Lib.hid hS; clear hS)
        | (go_at_call 15; refine KO.out.mono ?_; rintro e w9 ⟨A9, c9, rfl, hS, KR⟩; have HS2 := Lib.hid hS; clear hS)
        | (go_at_call 40; refine KR.out.mono ?_; rintro e w10 ⟨A10, c10, rfl, hS, KS⟩; have HS3 := Lib.hid hS; clear hS)
        | (go_at_call 39; refine KS.out.mono ?_; rintro e w11 ⟨rfl, hS, KB, HE⟩; have HS4 := Lib.hid hS; clear hS)
        | (go_at_call 17; refine KB.out.mono ?_; rintro e w12 ⟨rfl, rfl⟩))
    go_wp2_with fail
    go_ret
    exact ⟨rfl, _, _, _, HE.out⟩
  by_cases ho1 : o = 1
  · subst ho1
    have HS0 := Lib.hid (And.intro x1 (And.intro x2 x3))
    have HQD : Hid (PlF W w6.drew s p k base cur R (fun j => j = w.heap.size)) := Lib.hid (HQ6.out.more (Below.refl _ w6).drew (fun j hj => .inl hj))
    have K1 := Lib.hid ((pl_put1 (i, m, g) HQD.out hk).mono (fun e w' ⟨he, hq, hF⟩ => And.intro he (And.intro (Lib.hid hq) (And.intro (hF _ (.inl rfl)) (HX.out w' (hF _ (.inl rfl)))))))
    have K2 := Lib.hid (fun (w7 : World) (h7 : PlH W w7 s p k (putM base R (i, m, g)).2.1 cur (putM base R (i, m, g)).2.2 base cur R (fun j => j = w.heap.size)) (h8 : w7.heap[w.heap.size]? = w6.drew.heap[w.heap.size]?) => (pl_put2 (w := w7) (i, m, g) h7).mono (fun e w' ⟨he, hq, hF⟩ => And.intro he (And.intro (Lib.hid hq) (HX.out w' ((hF _ rfl).trans h8)))))
    generalize (putM base R (i, m, g)).1 = r1 at *
    generalize (putM base R (i, m, g)).2.1 = base1 at *
    generalize (putM base R (i, m, g)).2.2 = R1 at *
    go_wp2_with fail
    rw [HW.out]
    go_region_held3 (fun w' => w'.cell? ⟨w.heap.size, 1, none⟩ = some (.int .i64 i) ∧ w'.cell? ⟨w.heap.size, 2, none⟩ = some (.int .i64 m) ∧ w'.cell? ⟨w.heap.size, 3, none⟩ = some (.int .i64 g)) (first | exact HS0.out | exact HS1.out | exact HS2.out | go_keep)
      (first
        | (go_at_call 45; refine K1.out.mono ?_; rintro e w7 ⟨rfl, HH, h8, hS⟩; have HS1 := Lib.hid hS; have H8 := Lib.hid h8; clear hS h8)
        | (go_at_call 30; refine (K2.out _ HH.out H8.out).mono ?_; rintro e w8 ⟨rfl, HD, hS⟩; have HS2 := Lib.hid hS; clear hS))
    clear HS0 HS1 HS2 K1 K2 HH H8 HQD x1 x2 x3 x0
    go_wp2_with fail
    obtain ⟨hs0, KF⟩ := TAIL.out _ _ _ _ HD
    have HS0 := Lib.hid hs0
    clear HD TAIL HI HQ6 HX HW HC hs0
    go_wp2_with fail
    go_region_held3 (fun w' => w'.cell? ⟨p, 1, none⟩ = some (.int .i64 base1)) (first | exact HS0.out | exact HS1.out | exact HS2.out | exact HS3.out | exact HS4.out | go_keep)
      (first
        | (go_at_call 16; refine KF.out.mono ?_; rintro e w8 ⟨A8, c8, rfl, hS, KO⟩; have HS1 := Lib.hid hS; clear hS)
        | (go_at_call 15; refine KO.out.mono ?_; rintro e w9 ⟨A9, c9, rfl, hS, KR⟩; have HS2 := Lib.hid hS; clear hS)
        | (go_at_call 40; refine KR.out.mono ?_; rintro e w10 ⟨A10, c10, rfl, hS, KS⟩; have HS3 := Lib.hid hS; clear hS)
        | (go_at_call 39; refine KS.out.mono ?_; rintro e w11 ⟨rfl, hS, KB, HE⟩; have HS4 := Lib.hid hS; clear hS)
        | (go_at_call 17; refine KB.out.mono ?_; rintro e w12 ⟨rfl, rfl⟩))
    go_wp2_with fail
    go_ret
    exact ⟨rfl, _, _, _, HE.out⟩
  by_cases ho2 : o = 2
  · subst ho2
    have K1 := Lib.hid ((pl_leave1 i HI.out.1 HQ6.out hk).mono (fun e w' ⟨he, hq, hF⟩ => And.intro he (And.intro (Lib.hid hq) (And.intro (hF _ (.inl rfl)) (HX.out w' (hF _ (.inl rfl)))))))
    have K2 := Lib.hid (fun (w7 : World) (h7 : PlH W w7 s p k (leaveM base cur R i).2.2.1 (leaveM base cur R i).2.2.2.1 (leaveM base cur R i).2.2.2.2 base cur R (fun j => j = w.heap.size)) => (pl_leave2 (w := w7) i HI.out.1 h7).mono (fun e w' ⟨he, hq, hF⟩ => And.intro he (Lib.hid hq)))
    generalize (leaveM base cur R i).1 = r1 at *
    generalize (leaveM base cur R i).2.1 = r2 at *
    generalize (leaveM base cur R i).2.2.1 = base1 at *
    generalize (leaveM base cur R i).2.2.2.1 = cur1 at *
    generalize (leaveM base cur R i).2.2.2.2 = R1 at *
    go_wp2_with fail
    rw [HW.out]
    refine K1.out.mono ?_
    rintro e w7 ⟨rfl, HH, -, y1, y2, y3⟩
    go_wp2_with fail
    refine (K2.out _ HH.out).mono ?_
    rintro e w8 ⟨rfl, HD⟩
    clear K1 K2 HH y1 y2 y3 x0 x1 x2 x3
    go_wp2_with fail
    obtain ⟨hs0, KF⟩ := TAIL.out _ _ _ _ HD
    have HS0 := Lib.hid hs0
    clear HD TAIL HI HQ6 HX HW HC hs0
    go_wp2_with fail
    go_region_held3 (fun w' => w'.cell? ⟨p, 1, none⟩ = some (.int .i64 base1)) (first | exact HS0.out | exact HS1.out | exact HS2.out | exact HS3.out | exact HS4.out | go_keep)
      (first
        | (go_at_call 16; refine KF.out.mono ?_; rintro e w8 ⟨A8, c8, rfl, hS, KO⟩; have HS1 := Lib.hid hS; clear hS)
        | (go_at_call 15; refine KO.out.mono ?_; rintro e w9 ⟨A9, c9, rfl, hS, KR⟩; have HS2 := Lib.hid hS; clear hS)
        | (go_at_call 40; refine KR.out.mono ?_; rintro e w10 ⟨A10, c10, rfl, hS, KS⟩; have HS3 := Lib.hid hS; clear hS)
        | (go_at_call 39; refine KS.out.mono ?_; rintro e w11 ⟨rfl, hS, KB, HE⟩; have HS4 := Lib.hid hS; clear hS)
        | (go_at_call 17; refine KB.out.mono ?_; rintro e w12 ⟨rfl, rfl⟩))
    go_wp2_with fail
    go_ret
    exact ⟨rfl, _, _, _, HE.out⟩
  by_cases ho3 : o = 3
  · subst ho3
    have HS0 := Lib.hid (And.intro x1 (And.intro x2 x3))
    have HQD : Hid (PlF W w6.drew s p k base cur R (fun j => j = w.heap.size)) := Lib.hid (HQ6.out.more (Below.refl _ w6).drew (fun j hj => .inl hj))
    have K1 := Lib.hid ((pl_weigh1 i m HI.out.1 HI.out.2 HQD.out hk).mono (fun e w' ⟨he, hq, hF⟩ => And.intro he (And.intro (Lib.hid hq) (And.intro (hF _ (.inl rfl)) (HX.out w' (hF _ (.inl rfl)))))))
    have K2 := Lib.hid (fun (w7 : World) (h7 : PlH W w7 s p k base cur (weighM R i m).2 base cur R (fun j => j = w.heap.size)) (h8 : w7.heap[w.heap.size]? = w6.drew.heap[w.heap.size]?) => (pl_weigh2 (w := w7) i m HI.out.1 HI.out.2 h7).mono (fun e w' ⟨he, hq, hF⟩ => And.intro he (And.intro (Lib.hid hq) (HX.out w' ((hF _ rfl).trans h8)))))
    generalize (weighM R i m).1 = r1 at *
    generalize (weighM R i m).2 = R1 at *
    go_wp2_with fail
    rw [HW.out]
    go_region_held3 (fun w' => w'.cell? ⟨w.heap.size, 1, none⟩ = some (.int .i64 i) ∧ w'.cell? ⟨w.heap.size, 2, none⟩ = some (.int .i64 m) ∧ w'.cell? ⟨w.heap.size, 3, none⟩ = some (.int .i64 g)) (first | exact HS0.out | exact HS1.out | exact HS2.out | go_keep)
      (first
        | (go_at_call 47; refine K1.out.mono ?_; rintro e w7 ⟨rfl, HH, h8, hS⟩; have HS1 := Lib.hid hS; have H8 := Lib.hid h8; clear hS h8)
        | (go_at_call 35; refine (K2.out _ HH.out H8.out).mono ?_; rintro e w8 ⟨rfl, HD, hS⟩; have HS2 := Lib.hid hS; clear hS))
    clear HS0 HS1 HS2 K1 K2 HH H8 HQD x1 x2 x3 x0
    go_wp2_with fail
    obtain ⟨hs0, KF⟩ := TAIL.out _ _ _ _ HD
    have HS0 := Lib.hid hs0
    clear HD TAIL HI HQ6 HX HW HC hs0
    go_wp2_with fail
    go_region_held3 (fun w' => w'.cell? ⟨p, 1, none⟩ = some (.int .i64 base)) (first | exact HS0.out | exact HS1.out | exact HS2.out | exact HS3.out | exact HS4.out | go_keep)
      (first
        | (go_at_call 16; refine KF.out.mono ?_; rintro e w8 ⟨A8, c8, rfl, hS, KO⟩; have HS1 := Lib.hid hS; clear hS)
        | (go_at_call 15; refine KO.out.mono ?_; rintro e w9 ⟨A9, c9, rfl, hS, KR⟩; have HS2 := Lib.hid hS; clear hS)
        | (go_at_call 40; refine KR.out.mono ?_; rintro e w10 ⟨A10, c10, rfl, hS, KS⟩; have HS3 := Lib.hid hS; clear hS)
        | (go_at_call 39; refine KS.out.mono ?_; rintro e w11 ⟨rfl, hS, KB, HE⟩; have HS4 := Lib.hid hS; clear hS)
        | (go_at_call 17; refine KB.out.mono ?_; rintro e w12 ⟨rfl, rfl⟩))
    go_wp2_with fail
    go_ret
    exact ⟨rfl, _, _, _, HE.out⟩
  by_cases ho4 : o = 4
  · subst ho4
    have K1 := Lib.hid ((pl_pick1  HQ6.out hk).mono (fun e w' ⟨he, hq, hF⟩ => And.intro he (And.intro (Lib.hid hq) (And.intro (hF _ (.inl rfl)) (HX.out w' (hF _ (.inl rfl)))))))
    have K2 := Lib.hid (fun (w7 : World) (h7 : PlH W w7 s p k base (pickC cur R) R base cur R (fun j => j = w.heap.size)) => (pl_pick2 (w := w7)  h7).mono (fun e w' ⟨he, hq, hF⟩ => And.intro he (Lib.hid hq)))
    generalize pickV cur R = r1 at *
    generalize pickB R = r2 at *
    generalize pickC cur R = cur1 at *
    go_wp2_with fail
    rw [HW.out]
    refine K1.out.mono ?_
    rintro e w7 ⟨rfl, HH, -, y1, y2, y3⟩
    go_wp2_with fail
    refine (K2.out _ HH.out).mono ?_
    rintro e w8 ⟨rfl, HD⟩
    clear K1 K2 HH y1 y2 y3 x0 x1 x2 x3
    go_wp2_with fail
    obtain ⟨hs0, KF⟩ := TAIL.out _ _ _ _ HD
    have HS0 := Lib.hid hs0
    clear HD TAIL HI HQ6 HX HW HC hs0
    go_wp2_with fail
    go_region_held3 (fun w' => w'.cell? ⟨p, 1, none⟩ = some (.int .i64 base)) (first | exact HS0.out | exact HS1.out | exact HS2.out | exact HS3.out | exact HS4.out | go_keep)
      (first
        | (go_at_call 16; refine KF.out.mono ?_; rintro e w8 ⟨A8, c8, rfl, hS, KO⟩; have HS1 := Lib.hid hS; clear hS)
        | (go_at_call 15; refine KO.out.mono ?_; rintro e w9 ⟨A9, c9, rfl, hS, KR⟩; have HS2 := Lib.hid hS; clear hS)
        | (go_at_call 40; refine KR.out.mono ?_; rintro e w10 ⟨A10, c10, rfl, hS, KS⟩; have HS3 := Lib.hid hS; clear hS)
        | (go_at_call 39; refine KS.out.mono ?_; rintro e w11 ⟨rfl, hS, KB, HE⟩; have HS4 := Lib.hid hS; clear hS)
        | (go_at_call 17; refine KB.out.mono ?_; rintro e w12 ⟨rfl, rfl⟩))
    go_wp2_with fail
    go_ret
    exact ⟨rfl, _, _, _, HE.out⟩
  by_cases ho5 : o = 5
  · subst ho5
    have K1 := Lib.hid ((pl_charge1  HQ6.out hk).mono (fun e w' ⟨he, hq, hF⟩ => And.intro he (And.intro (Lib.hid hq) (And.intro (hF _ (.inl rfl)) (HX.out w' (hF _ (.inl rfl)))))))
    have K2 := Lib.hid (fun (w7 : World) (h7 : PlH W w7 s p k (chargeM base cur R).2.2.1 cur (chargeM base cur R).2.2.2 base cur R (fun j => j = w.heap.size)) => (pl_charge2 (w := w7)  h7).mono (fun e w' ⟨he, hq, hF⟩ => And.intro he (Lib.hid hq)))
    generalize (chargeM base cur R).1 = r1 at *
    generalize (chargeM base cur R).2.1 = r2 at *
    generalize (chargeM base cur R).2.2.1 = base1 at *
    generalize (chargeM base cur R).2.2.2 = R1 at *
    go_wp2_with fail
    rw [HW.out]
    refine K1.out.mono ?_
    rintro e w7 ⟨rfl, HH, -, y1, y2, y3⟩
    go_wp2_with fail
    refine (K2.out _ HH.out).mono ?_
    rintro e w8 ⟨rfl, HD⟩
    clear K1 K2 HH y1 y2 y3 x0 x1 x2 x3
    go_wp2_with fail
    obtain ⟨hs0, KF⟩ := TAIL.out _ _ _ _ HD
    have HS0 := Lib.hid hs0
    clear HD TAIL HI HQ6 HX HW HC hs0
    go_wp2_with fail
    go_region_held3 (fun w' => w'.cell? ⟨p, 1, none⟩ = some (.int .i64 base1)) (first | exact HS0.out | exact HS1.out | exact HS2.out | exact HS3.out | exact HS4.out | go_keep)
      (first
        | (go_at_call 16; refine KF.out.mono ?_; rintro e w8 ⟨A8, c8, rfl, hS, KO⟩; have HS1 := Lib.hid hS; clear hS)
        | (go_at_call 15; refine KO.out.mono ?_; rintro e w9 ⟨A9, c9, rfl, hS, KR⟩; have HS2 := Lib.hid hS; clear hS)
        | (go_at_call 40; refine KR.out.mono ?_; rintro e w10 ⟨A10, c10, rfl, hS, KS⟩; have HS3 := Lib.hid hS; clear hS)
        | (go_at_call 39; refine KS.out.mono ?_; rintro e w11 ⟨rfl, hS, KB, HE⟩; have HS4 := Lib.hid hS; clear hS)
        | (go_at_call 17; refine KB.out.mono ?_; rintro e w12 ⟨rfl, rfl⟩))
    go_wp2_with fail
    go_ret
    exact ⟨rfl, _, _, _, HE.out⟩
  have e0 : (o == 0) = false := by simp [ho0]
  have e1 : (o == 1) = false := by simp [ho1]
  have e2 : (o == 2) = false := by simp [ho2]
  have e3 : (o == 3) = false := by simp [ho3]
  have e4 : (o == 4) = false := by simp [ho4]
  have e5 : (o == 5) = false := by simp [ho5]
  clear ho0 ho1 ho2 ho3 ho4 ho5
  have HQD : Hid (PlF W w6.drew s p k base cur R (fun j => j = w.heap.size)) := Lib.hid (HQ6.out.more (Below.refl _ w6).drew (fun j hj => .inl hj))
  have HS0 := Lib.hid HQD.out.1.refCells.2.1
  have k1 := (pl_back1 HQD.out hk).mono (fun e w' ⟨he, hq, hF⟩ => And.intro he (And.intro (Lib.hid hq) ((cellq_of (hF _ (.inr rfl)) 2).trans HS0.out)))
  rcases HC.out with hc | ⟨hc1, hc2⟩
  · rw [decide_eq_true hc] at k1
    subst hc
    simp only [Bool.not_true] at k1
    have K1 := Lib.hid k1
    clear k1
    go_wp2_with fail
    rw [HW.out]
    go_region_held3 (fun w' => w'.cell? ⟨p, 2, none⟩ = some (.int .i64 (-1))) (first | exact HS0.out | exact HS1.out | go_keep)
      (first
        | (go_at_call 48; refine K1.out.mono ?_; rintro e w7 ⟨rfl, HH, hS⟩; have HS1 := Lib.hid hS; clear hS))
    have r2 := HH.out.1.refCells.2.1
    have rf := HH.out.1.refCells.2.2
    have HD := Lib.hid (pl_back2 HH.out)
    clear HS0 HS1 K1 HH HQD x0 x1 x2 x3
    go_wp2_with fail
    obtain ⟨hs0, KF⟩ := TAIL.out _ _ _ _ HD
    have HS0 := Lib.hid hs0
    clear HD TAIL HI HQ6 HX HW HC hs0
    go_wp2_with fail
    go_region_held3 (fun w' => w'.cell? ⟨p, 1, none⟩ = some (.int .i64 base)) (first | exact HS0.out | exact HS1.out | exact HS2.out | exact HS3.out | exact HS4.out | go_keep)
      (first
        | (go_at_call 16; refine KF.out.mono ?_; rintro e w8 ⟨A8, c8, rfl, hS, KO⟩; have HS1 := Lib.hid hS; clear hS)
        | (go_at_call 15; refine KO.out.mono ?_; rintro e w9 ⟨A9, c9, rfl, hS, KR⟩; have HS2 := Lib.hid hS; clear hS)
        | (go_at_call 40; refine KR.out.mono ?_; rintro e w10 ⟨A10, c10, rfl, hS, KS⟩; have HS3 := Lib.hid hS; clear hS)
        | (go_at_call 39; refine KS.out.mono ?_; rintro e w11 ⟨rfl, hS, KB, HE⟩; have HS4 := Lib.hid hS; clear hS)
        | (go_at_call 17; refine KB.out.mono ?_; rintro e w12 ⟨rfl, rfl⟩))
    go_wp2_with fail
    go_ret
    exact ⟨rfl, _, _, _, HE.out⟩
  · rw [decide_eq_false hc2] at k1
    simp only [Bool.not_false] at k1
    have K1 := Lib.hid k1
    clear k1
    go_wp2_with fail
    rw [HW.out]
    go_region_held3 (fun w' => w'.cell? ⟨p, 2, none⟩ = some (.int .i64 cur)) (first | exact HS0.out | exact HS1.out | go_keep)
      (first
        | (go_at_call 48; refine K1.out.mono ?_; rintro e w7 ⟨rfl, HH, hS⟩; have HS1 := Lib.hid hS; clear hS))
    have r2 := HH.out.1.refCells.2.1
    have rf := HH.out.1.refCells.2.2
    have HD := Lib.hid (pl_back2 HH.out)
    clear HS0 HS1 K1 HH HQD x0 x1 x2 x3
    go_wp2_with fail
    obtain ⟨hs0, KF⟩ := TAIL.out _ _ _ _ HD
    have HS0 := Lib.hid hs0
    clear HD TAIL HI HQ6 HX HW HC hs0
    go_wp2_with fail
    go_region_held3 (fun w' => w'.cell? ⟨p, 1, none⟩ = some (.int .i64 base)) (first | exact HS0.out | exact HS1.out | exact HS2.out | exact HS3.out | exact HS4.out | go_keep)
      (first
        | (go_at_call 16; refine KF.out.mono ?_; rintro e w8 ⟨A8, c8, rfl, hS, KO⟩; have HS1 := Lib.hid hS; clear hS)
        | (go_at_call 15; refine KO.out.mono ?_; rintro e w9 ⟨A9, c9, rfl, hS, KR⟩; have HS2 := Lib.hid hS; clear hS)
        | (go_at_call 40; refine KR.out.mono ?_; rintro e w10 ⟨A10, c10, rfl, hS, KS⟩; have HS3 := Lib.hid hS; clear hS)
        | (go_at_call 39; refine KS.out.mono ?_; rintro e w11 ⟨rfl, hS, KB, HE⟩; have HS4 := Lib.hid hS; clear hS)
        | (go_at_call 17; refine KB.out.mono ?_; rintro e w12 ⟨rfl, rfl⟩))
    go_wp2_with fail
    go_ret
    exact ⟨rfl, _, _, _, HE.out⟩
end Go.Proofs.YtnfcapeajhegmaaGreat
