/- Forms: Put, whole. -/
import Derived.Test.YtmoifjaaencjbaaDoorZm
namespace Go.Proofs.YtmoifjaaencjbaaDoor
open Go.RowKit

/-- What Put answers: the error, the form. -/
def putO (f0 : Int) (l : List RI) (x : RI) : Int × Int × List RI :=
  if goodV f0 l = false then (1, 0, []) else if hasL x.1 l = true then (4, 0, []) else if goodV f0 (insA l x) = true then (0, f0, insA l x) else (1, 0, [])

set_option maxRecDepth 100000 in
set_option maxHeartbeats 4000000 in
theorem put_c (f0 x0 x1 x2 : Int) (A : Option Addr) (n c : Nat) (l : List RI) (w : World) (hn : l.length = n) (hl : n ≤ c) (hm : c ≤ maxLen) (hz : A = none → c = 0) (hr : TRow w A l) (hl2 : n ≤ 4611686018427387904) :
    Calls Tryd.prog 8 #[.agg #[.int .i64 f0, .slice A n c], .agg #[.int .i64 x0, .int .i64 x1, .int .i64 x2]] w (FRet (putO f0 l (x0, x1, x2)).2.1 (putO f0 l (x0, x1, x2)).2.2 (putO f0 l (x0, x1, x2)).1 w) := by
  cases hG : goodV f0 l
  case' true =>
    cases hH : hasL x0 l
    case' false =>
      refine put_new f0 x0 x1 x2 A n c l w _ hn hl hm hz hr hG hH ⟨fun h e w' hq => ?_, fun h e w' hq => ?_⟩
      · unfold putO; rw [if_neg (by simp [hG]), if_neg (by simp [hH]), if_neg (by simp [h])]; exact hq
      · unfold putO; rw [if_neg (by simp [hG]), if_neg (by simp [hH]), if_pos h]; exact hq
  all_goals
    obtain ⟨W, hW⟩ : ∃ W, ((w.alloc (.cells #[.int .i64 f0, .slice A n c] 25)).alloc (.cells #[.int .i64 x0, .int .i64 x1, .int .i64 x2] 27)).alloc (.cells #[.int .i64 0, .slice none 0 0] 25) = W := ⟨_, rfl⟩
    have hb : Below w.heap.size w W := by rw [← hW]; exact (((Below.refl _ w).alloc (Nat.le_refl _) _).alloc (by simp) _).alloc (by simp; omega) _
    have hf : FoAt W w.heap.size f0 A n c := by
      rw [← hW]
      exact BoxAt.next (heap_alloc2_old w _ _) ((Below.refl _ _).alloc (Nat.le_refl _) _) (Nat.le_refl _)
    have hx : ItAt W (w.heap.size + 1) (x0, x1, x2) := by
      rw [← hW]
      exact BoxAt.next (show ItAt _ (w.heap.size + 1) (x0, x1, x2) from heap_alloc2_new w _ _) ((Below.refl _ _).alloc (Nat.le_refl _) _) (Nat.le_refl _)
    have hz0 : FoAt W (w.heap.size + 1 + 1) 0 none 0 0 := by
      rw [← hW]
      have := heap_alloc_new ((w.alloc (.cells #[.int .i64 f0, .slice A n c] 25)).alloc (.cells #[.int .i64 x0, .int .i64 x1, .int .i64 x2] 27)) (.cells #[.int .i64 0, .slice none 0 0] 25)
      rwa [World.size_alloc, World.size_alloc] at this
    have KG := Lib.hid (good_c f0 A n c l W hn hl2 (hr.below hb (Nat.le_refl _)))
    rw [hG] at KG
    have HR := Lib.hid hr
    have HN := Lib.hid hn
    have HW := Lib.hid hW
    have HB := Lib.hid hb
    have HF := Lib.hid hf
    have HX := Lib.hid hx
    have HZ := Lib.hid hz0
    obtain ⟨u0, u1, -, -⟩ := hf.cells
  case false =>
    have HV : Hid (putO f0 l (x0, x1, x2) = (1, 0, [])) := Lib.hid (by unfold putO; rw [if_pos hG])
    rw [HV.out]
    clear hW hb hf hx hz0 hr hn hG hl hm hz HV HR
    go_enter Tryd.func8, Tryd.ntmps8
    go_wp2_with fail
    rw [HW.out]
    refine KG.out.mono ?_
    rintro e w1 ⟨rfl, hb1⟩
    have HZ1 := Lib.hid (show FoAt w1 (w.heap.size + 1 + 1) 0 none 0 0 from BoxAt.next HZ.out hb1 (Nat.le_refl _))
    have HB1 := Lib.hid (HB.out.trans (hb1.mono HB.out.size))
    obtain ⟨y0, y1, y2, y3⟩ := HZ1.out.cells
    clear hb1 KG
    go_wp2_with fail
    refine bodyPost_ret (res_box rfl _ (w.heap.size + 1 + 1) #[.int .i64 0, .slice none 0 0] _ _ rfl rfl (HZ1.out.set 0 none 0 0) Tryd.underlying25 rfl (by kernel_rfl)) rfl ?_
    exact FRet.fail (Below.set2 HB1.out (by omega) _ _)
  case true =>
    have HV : Hid (putO f0 l (x0, x1, x2) = (4, 0, [])) := Lib.hid (by unfold putO; rw [if_neg (by simp [hG]), if_pos hH])
    rw [HV.out]
    have HH := Lib.hid hH
    clear hW hb hf hx hz0 hr hn hG hl hm hz HV hH
    go_enter Tryd.func8, Tryd.ntmps8
    go_wp2_with fail
    rw [HW.out]
    refine KG.out.mono ?_
    rintro e w1 ⟨rfl, hb1⟩
    have HF1 := Lib.hid (show FoAt w1 w.heap.size f0 A n c from BoxAt.next HF.out hb1 (Nat.le_refl _))
    have HX1 := Lib.hid (show ItAt w1 (w.heap.size + 1) (x0, x1, x2) from BoxAt.next HX.out hb1 (Nat.le_refl _))
    have HZ1 := Lib.hid (show FoAt w1 (w.heap.size + 1 + 1) 0 none 0 0 from BoxAt.next HZ.out hb1 (Nat.le_refl _))
    have HB1 := Lib.hid (HB.out.trans (hb1.mono HB.out.size))
    have KH := Lib.hid (has_c f0 A n c x0 l w1 HN.out (by omega) (HR.out.below HB1.out (Nat.le_refl _)))
    rw [HH.out] at KH
    clear hb1 KG u0 u1
    obtain ⟨u0, u1, -, -⟩ := HF1.out.cells
    obtain ⟨v0, v1, v2, -, -, -⟩ := HX1.out.cells
    simp only at v0 v1 v2
    go_wp2_with fail
    refine KH.out.mono ?_
    rintro e w2 ⟨rfl, hb1⟩
    have HZ2 := Lib.hid (show FoAt w2 (w.heap.size + 1 + 1) 0 none 0 0 from BoxAt.next HZ1.out hb1 (Nat.le_refl _))
    have HB2 := Lib.hid (HB1.out.trans (hb1.mono HB1.out.size))
    obtain ⟨y0, y1, y2, y3⟩ := HZ2.out.cells
    clear hb1 KH
    go_wp2_with fail
    refine bodyPost_ret (res_box rfl _ (w.heap.size + 1 + 1) #[.int .i64 0, .slice none 0 0] _ _ rfl rfl (HZ2.out.set 0 none 0 0) Tryd.underlying25 rfl (by kernel_rfl)) rfl ?_
    exact FRet.fail (Below.set2 HB2.out (by omega) _ _)
end Go.Proofs.YtmoifjaaencjbaaDoor
