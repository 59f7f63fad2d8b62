/- DueqPlays: one turn of its loop. -/
import Derived.Test.YtaodkfnbmpbcfaaPn
import Derived.Test.YtaodkfnbmpbcfaaFrb
import Derived.BigQuiet
import Derived.Deep.RegionHeld3
import Derived.Deep.DeepCutAuto
namespace Go.Proofs.Ytaodkfnbmpbcfaa
open Go.RowKit

def firstLoopD : Code → Option Code
  | .loop c => some c
  | .seq a b => match firstLoopD a with
    | some c => some c
    | none => firstLoopD b
  | .block _ c => firstLoopD c
  | .scope c => firstLoopD c
  | .cond _ a b => match firstLoopD a with
    | some c => some c
    | none => firstLoopD b
  | _ => none
theorem add_nextD (a : Addr) (i j : Nat) : (⟨(a.add i).block, (a.add i).off + (j + 1), none⟩ : Addr) = a.add (i + (j + 1)) := by
  rw [← Go.Deep.add_add]
  unfold Addr.add
  simp
noncomputable def dbody : Code := ((Try.f4.body.bind firstLoopD).getD .skip)
set_option maxRecDepth 1000000 in
/-- The loop's frame: f in what it writes, g in what it does not. -/
def dlF (A A2 : Option Addr) (c c2 n n2 d rb : Nat) (g f : Nat → Value) (k : Int) : Act := ⟨#[g 0, .slice A n c, .slice A2 n2 c2, g 3, g 4, g 5, f 6, .pointer (some ⟨d, 0, none⟩), .pointer (some ⟨rb, 0, none⟩), .int .i64 k, f 10, f 11, f 12, f 13, f 14, f 15, f 16, f 17, f 18, f 19, f 20, f 21, f 22, f 23, f 24, f 25, f 26, f 27, f 28, g 29, g 30, g 31, g 32, g 33, g 34, g 35, g 36, g 37, g 38, g 39, g 40, g 41, g 42, g 43, g 44, g 45, g 46, g 47, g 48, g 49, g 50, g 51, g 52, g 53, f 54, f 55, f 56, f 57, f 58, f 59, f 60, f 61, f 62, f 63, f 64, f 65, f 66, f 67, f 68, f 69, f 70, f 71, f 72, f 73, f 74, f 75, f 76, f 77, f 78, f 79, f 80, f 81, f 82, f 83, f 84, f 85, f 86, f 87, f 88, f 89, f 90, f 91, f 92, f 93, f 94, f 95, f 96, f 97, f 98, f 99, f 100, f 101, f 102, f 103, f 104, f 105, f 106, f 107, f 108, f 109, f 110, f 111, f 112, f 113, f 114, f 115, f 116, f 117, f 118, f 119, f 120, f 121, f 122, f 123, f 124, f 125, f 126, f 127, f 128, f 129, f 130, f 131, f 132, f 133, f 134, f 135, f 136, f 137, f 138, f 139, f 140, f 141, f 142, f 143, f 144, f 145, f 146, f 147, f 148, f 149, f 150, f 151, f 152, f 153, f 154, f 155, f 156, f 157, f 158, f 159, f 160, f 161, f 162, f 163, f 164, f 165, f 166, f 167, f 168, f 169, f 170, f 171, f 172, f 173, f 174, f 175, f 176, f 177, f 178, f 179, f 180, f 181, f 182, f 183, f 184, f 185, f 186, f 187, f 188, f 189, f 190, f 191, f 192, f 193, f 194, f 195, f 196, f 197, f 198, f 199, f 200, f 201, f 202, f 203, f 204, f 205, f 206, f 207, f 208, f 209, f 210, f 211, f 212, f 213, f 214, f 215, f 216, f 217, f 218, f 219, f 220, f 221, f 222, f 223, f 224, f 225, f 226, f 227, f 228, f 229, f 230, f 231, f 232, f 233, f 234, f 235, f 236, f 237, f 238, f 239, f 240, f 241, f 242, f 243, f 244, f 245, f 246, f 247, f 248, f 249, f 250, f 251, f 252, f 253, f 254, f 255, f 256, f 257, f 258, f 259, f 260, f 261, f 262, f 263, f 264, f 265, f 266, f 267, f 268, f 269, f 270, f 271, f 272, f 273, f 274, f 275, f 276, f 277, f 278, g 279, g 280, g 281, g 282, g 283, g 284, g 285], []⟩
/-- What the loop keeps. -/
def dlI (W : World) (A A2 : Option Addr) (c c2 n n2 d rb : Nat) (cm : Int) (g : Nat → Value) (a : Act) (w : World) : Prop :=
  ∃ (f : Nat → Value) (k : Nat) (R : List RI), k ≤ n ∧ Hid (DP W w d rb cm (42 * k) R R []) ∧ R.length ≤ k ∧ (R.length : Int) ≤ cm ∧ a = dlF A A2 c c2 n n2 d rb g f k
def dlM (n : Nat) (a : Act) (_ : World) : Nat := n - (intOf (a.tmps.getD 9 undef)).toNat
def dlX (W : World) (A A2 : Option Addr) (c c2 n n2 d rb : Nat) (cm : Int) (g : Nat → Value) (a : Act) (w : World) : Prop := (∃ (S : Nat) (R : List RI), DP W w d rb cm S R R [] ∧ R.length ≤ 1000000) ∧ ∃ (f : Nat → Value) (k : Nat), a = dlF A A2 c c2 n n2 d rb g f k
theorem dlX_mk {W : World} {A A2 : Option Addr} {c c2 n n2 d rb : Nat} {cm : Int} {g : Nat → Value} {a : Act} {w : World} (k : Nat) (hb : ∃ (S : Nat) (R : List RI), DP W w d rb cm S R R [] ∧ R.length ≤ 1000000) (hf : a = dlF A A2 c c2 n n2 d rb g (fun i => a.tmps.getD i undef) k) : dlX W A A2 c c2 n n2 d rb cm g a w := ⟨hb, _, _, hf⟩
theorem dlI_mk {W : World} {A A2 : Option Addr} {c c2 n n2 d rb : Nat} {cm : Int} {g : Nat → Value} {a : Act} {w : World} (k : Nat) (R : List RI) (h1 : k ≤ n) (h2 : Hid (DP W w d rb cm (42 * k) R R [])) (h5 : R.length ≤ k) (h6 : (R.length : Int) ≤ cm)
    (hf : a = dlF A A2 c c2 n n2 d rb g (fun i => a.tmps.getD i undef) k) : dlI W A A2 c c2 n n2 d rb cm g a w := ⟨_, k, R, h1, h2, h5, h6, hf⟩

set_option maxRecDepth 1000000 in
set_option maxHeartbeats 40000000 in
theorem dlRound {Q0 : Exit → Act → World → Prop} (W : World) (A A2 : Option Addr) (c c2 n n2 d rb : Nat) (cm : Int) (g f : Nat → Value) (l : List (List Int)) (l2 : List Int) (HN : Hid (l.length = n)) (HR : Hid (Rows W 4 A l)) (HN2 : Hid (l2.length = n2)) (HR2 : Hid (IRow .i64 W W.heap.size A2 l2)) (hn3 : n ≤ 200) (hn10 : n2 ≤ 10) (hcm : 1 ≤ cm)
    (hexit : ∀ a' w', dlX W A A2 c c2 n n2 d rb cm g a' w' → Q0 (.exit 0) a' w') (k : Nat) (R : List RI) (hk : k ≤ n) (wr : World) (HK : Hid (DP W wr d rb cm (42 * k) R R [])) (hRl : R.length ≤ k) (hRm : (R.length : Int) ≤ cm) :
    Code.wp Try.prog dbody (Exit.then (fun a' w' => dlI W A A2 c c2 n n2 d rb cm g a' w' ∧ dlM n a' w' < dlM n (dlF A A2 c c2 n n2 d rb g f k) wr) Q0) (dlF A A2 c c2 n n2 d rb g f k) wr := by
  obtain ⟨M, hM⟩ : ∃ M, dlM n (dlF A A2 c c2 n n2 d rb g f k) wr = M := ⟨_, rfl⟩
  have HM : Hid (n - k = M) := Lib.hid (by rw [← hM]; rfl)
  rw [hM]
  clear hM
  unfold dlF
  conv => arg 2; whnf
  by_cases hlt : k < n
  · have hkl : k < l.length := by rw [HN.out]; exact hlt
    obtain ⟨row, hrow⟩ : ∃ row, l[k]? = some row := ⟨_, List.getElem?_eq_getElem hkl⟩
    obtain ⟨hlen, ad, rfl, hadb, hcells⟩ := HR.out k row hrow
    obtain ⟨op, row1, rfl⟩ := List.exists_cons_of_length_pos (l := row) (by omega)
    obtain ⟨id, row2, rfl⟩ := List.exists_cons_of_length_pos (l := row1) (by simp at hlen; omega)
    obtain ⟨key, row3, rfl⟩ := List.exists_cons_of_length_pos (l := row2) (by simp at hlen; omega)
    obtain ⟨due, row4, rfl⟩ := List.exists_cons_of_length_pos (l := row3) (by simp at hlen; omega)
    obtain ⟨g0, wf0⟩ := hcells 0 op rfl
    obtain ⟨g1, wf1⟩ := hcells 1 id rfl
    obtain ⟨g2, wf2⟩ := hcells 2 key rfl
    obtain ⟨g3, wf3⟩ := hcells 3 due rfl
    have q0 := (HK.out.frame.cell (p := ad.add (k * 4 + 0)) (by rw [add_block]; exact hadb)).trans g0
    have q1 := (HK.out.frame.cell (p := ad.add (k * 4 + 1)) (by rw [add_block]; exact hadb)).trans g1
    have q2 := (HK.out.frame.cell (p := ad.add (k * 4 + 2)) (by rw [add_block]; exact hadb)).trans g2
    have q3 := (HK.out.frame.cell (p := ad.add (k * 4 + 3)) (by rw [add_block]; exact hadb)).trans g3
    have q0' : wr.cell? (ad.add (k * 4)) = some (.int .i64 op) := q0
    have q1' : wr.cell? ⟨(ad.add (k * 4)).block, (ad.add (k * 4)).off + 1, none⟩ = some (.int .i64 id) := by rw [add_nextD]; exact q1
    have q2' : wr.cell? ⟨(ad.add (k * 4)).block, (ad.add (k * 4)).off + 2, none⟩ = some (.int .i64 key) := by rw [add_nextD]; exact q2
    have q3' : wr.cell? ⟨(ad.add (k * 4)).block, (ad.add (k * 4)).off + 3, none⟩ = some (.int .i64 due) := by rw [add_nextD]; exact q3
    have WF := Lib.hid (And.intro wf1 (And.intro wf2 wf3))
    have hkm : (k : Int) < (n : Int) := by omega
    clear hcells hlen hrow hkl g0 g1 g2 g3 wf0 wf1 wf2 wf3 q0 q1 q2 q3
    have HK7 := Lib.hid (HK.out.push #[.int .i64 op, .int .i64 id, .int .i64 key, .int .i64 due] 61)
    obtain ⟨ab, hab⟩ : ∃ ab, wr.heap.size = ab := ⟨_, rfl⟩
    obtain ⟨w7, hw7⟩ : ∃ w7, wr.alloc (.cells #[.int .i64 op, .int .i64 id, .int .i64 key, .int .i64 due] 61) = w7 := ⟨_, rfl⟩
    rw [hw7, hab] at HK7
    have p0 := HK7.out.cell (r := ab) (i := 0) (.head _) rfl
    have p1 := HK7.out.cell (r := ab) (i := 1) (.head _) rfl
    have p2 := HK7.out.cell (r := ab) (i := 2) (.head _) rfl
    have p3 := HK7.out.cell (r := ab) (i := 3) (.head _) rfl
    have HK8 := Lib.hid (HK7.out.push #[.int .i64 key, .int .i64 due, .int .i64 id] 38)
    obtain ⟨xb, hxb⟩ : ∃ xb, w7.heap.size = xb := ⟨_, rfl⟩
    obtain ⟨w8, hw8⟩ : ∃ w8, w7.alloc (.cells #[.int .i64 key, .int .i64 due, .int .i64 id] 38) = w8 := ⟨_, rfl⟩
    rw [hw8, hxb] at HK8
    have o0 := HK8.out.cell (r := ab) (i := 0) (.tail _ (.head _)) rfl
    go_upto_block 2 with fail
    clear hab hw7 hxb hw8 q0' q1' q2' q3' HK hadb HK7 p0 p1 p2 p3
    go_cut [12, 13, 14, 15, 16, 17, 18] from 73 to 148 (fun _ _ _ _ _ _ _ wx => Hid (∃ R' : List RI, DP W wx d rb cm (42 * (k + 1)) R' R' [(xb, #[.int .i64 key, .int .i64 due, .int .i64 id], 38), (ab, #[.int .i64 op, .int .i64 id, .int .i64 key, .int .i64 due], 61)] ∧ R'.length ≤ k + 1 ∧ (R'.length : Int) ≤ cm))
    case first =>
      have hR6 : R.length ≤ 1000000 := by omega
      have hS6 : 42 * k ≤ 1000000000 := by omega
      have o1 := HK8.out.cell (r := ab) (i := 1) (.tail _ (.head _)) rfl
      have o2 := HK8.out.cell (r := ab) (i := 2) (.tail _ (.head _)) rfl
      have o3 := HK8.out.cell (r := ab) (i := 3) (.tail _ (.head _)) rfl
      by_cases h0 : op = 0
      · as_aux_lemma =>
        subst h0
        have hl1 := putT_len cm R (key, due, id)
        have hl2 := putT_most (key, due, id) hRm
        obtain ⟨⟨ev, R'⟩, hput⟩ : ∃ r, putT cm R (key, due, id) = r := ⟨_, rfl⟩
        have K1 := eput (key, due, id) HK8.out.drew WF.out.2.1 WF.out.2.2 WF.out.1 hR6 hS6 hput
        rw [hput] at hl1 hl2
        simp only at K1 hl1 hl2
        have HPUT := Lib.hid hput
        have K1' := Lib.hid K1
        have hee : decide (ev = ev) = true := by simp
        have b0 := HK8.out.cell (r := xb) (i := 0) (.head _) rfl
        have b1 := HK8.out.cell (r := xb) (i := 1) (.head _) rfl
        have b2 := HK8.out.cell (r := xb) (i := 2) (.head _) rfl
        have CS : Hid (∀ w' S T R, DP W w' d rb cm S T R [(xb, #[.int .i64 key, .int .i64 due, .int .i64 id], 38), (ab, #[.int .i64 0, .int .i64 id, .int .i64 key, .int .i64 due], 61)] → w'.cell? ⟨ab, 1, none⟩ = some (.int .i64 id) ∧ w'.cell? ⟨ab, 2, none⟩ = some (.int .i64 key) ∧ w'.cell? ⟨ab, 3, none⟩ = some (.int .i64 due) ∧ w'.cell? ⟨xb, 0, none⟩ = some (.int .i64 key) ∧ w'.cell? ⟨xb, 1, none⟩ = some (.int .i64 due) ∧ w'.cell? ⟨xb, 2, none⟩ = some (.int .i64 id)) :=
          Lib.hid (fun w' S T R h => ⟨h.cell (r := ab) (i := 1) (.tail _ (.head _)) rfl, h.cell (r := ab) (i := 2) (.tail _ (.head _)) rfl, h.cell (r := ab) (i := 3) (.tail _ (.head _)) rfl, h.cell (r := xb) (i := 0) (.head _) rfl, h.cell (r := xb) (i := 1) (.head _) rfl, h.cell (r := xb) (i := 2) (.head _) rfl⟩)
        have cd := CS.out _ _ _ _ HK8.out.drew
        clear K1 hput b0 b1 b2
        go_wp2_with fail
        go_region_held3 (fun w' => w'.cell? ⟨ab, 1, none⟩ = some (.int .i64 id) ∧ w'.cell? ⟨ab, 2, none⟩ = some (.int .i64 key) ∧ w'.cell? ⟨ab, 3, none⟩ = some (.int .i64 due) ∧ w'.cell? ⟨xb, 0, none⟩ = some (.int .i64 key) ∧ w'.cell? ⟨xb, 1, none⟩ = some (.int .i64 due) ∧ w'.cell? ⟨xb, 2, none⟩ = some (.int .i64 id)) (first | exact cz | exact cy | exact cd)
          (first
            | (go_at_call 9; refine (erput (key, due, id) P1.out hR6 (by omega) HPUT.out).mono ?_; rintro e y2 ⟨rfl, h2⟩; have PE := Lib.hid h2; have cz := CS.out _ _ _ _ h2; clear h2)
            | (go_at_call 22; refine K1'.out.mono ?_; rintro e y1 ⟨rfl, h1⟩; have P1 := Lib.hid h1; have cy := CS.out _ _ _ _ h1; clear h1))
        go_wp2_with fail
        go_meet
        exact Lib.hid ⟨R', PE.out, by omega, hl2⟩
      · by_cases h1 : op = 1
        · as_aux_lemma =>
          subst h1
          clear h0
          rcases atR_found id R 0 with hno | ⟨j, ⟨x0, x1, x2⟩, hj, hx, hidx⟩
          · have K1 := Lib.hid (edrop_no HK8.out WF.out.1 hno)
            have HNO := Lib.hid hno
            clear hno
            go_wp2_with fail
            refine K1.out.mono ?_
            rintro e y1 ⟨rfl, h1⟩
            have P1 := Lib.hid (h1.push #[.int .i64 0, .int .i64 0, .int .i64 0] 63)
            have a1 := P1.out.cell (r := ab) (i := 1) (.tail _ (.tail _ (.head _))) rfl
            clear h1 K1 o1 o2 o3
            go_wp2_with fail
            refine (erdrop_no id P1.out hR6 HNO.out).mono ?_
            rintro e y2 ⟨rfl, h2⟩
            have PE := Lib.hid (h2.push #[.int .i64 0, .int .i64 0, .int .i64 0] 38)
            have b0 := PE.out.cell (r := y1.heap.size) (i := 0) (.tail _ (.head _)) rfl
            have b1 := PE.out.cell (r := y1.heap.size) (i := 1) (.tail _ (.head _)) rfl
            have b2 := PE.out.cell (r := y1.heap.size) (i := 2) (.tail _ (.head _)) rfl
            have b3 := PE.out.cell (r := y2.heap.size) (i := 0) (.head _) rfl
            have b4 := PE.out.cell (r := y2.heap.size) (i := 1) (.head _) rfl
            have b5 := PE.out.cell (r := y2.heap.size) (i := 2) (.head _) rfl
            clear h2 a1
            go_wp2_with fail
            go_meet
            exact Lib.hid ⟨R, (PE.out.less (by simp)).steps (by omega), by omega, hRm⟩
          · simp only at hidx
            subst hidx
            rw [Nat.zero_add] at hj
            have K1 := Lib.hid (edrop HK8.out hx hR6 hS6)
            have hle : (R.eraseIdx j).length ≤ R.length := List.length_eraseIdx_le ..
            have HJ := Lib.hid hj
            have HX := Lib.hid hx
            clear hj hx
            simp only at K1
            go_wp2_with fail
            refine K1.out.mono ?_
            rintro e y1 ⟨rfl, h1⟩
            have P1 := Lib.hid (h1.push #[.int .i64 x0, .int .i64 x1, .int .i64 x2] 63)
            have a1 := P1.out.cell (r := ab) (i := 1) (.tail _ (.tail _ (.head _))) rfl
            clear h1 K1 o1 o2 o3
            go_wp2_with fail
            refine (erdrop x2 P1.out hR6 HJ.out HX.out).mono ?_
            rintro e y2 ⟨rfl, h2⟩
            have PE := Lib.hid (h2.push #[.int .i64 x0, .int .i64 x1, .int .i64 x2] 38)
            have b0 := PE.out.cell (r := y1.heap.size) (i := 0) (.tail _ (.head _)) rfl
            have b1 := PE.out.cell (r := y1.heap.size) (i := 1) (.tail _ (.head _)) rfl
            have b2 := PE.out.cell (r := y1.heap.size) (i := 2) (.tail _ (.head _)) rfl
            have b3 := PE.out.cell (r := y2.heap.size) (i := 0) (.head _) rfl
            have b4 := PE.out.cell (r := y2.heap.size) (i := 1) (.head _) rfl
            have b5 := PE.out.cell (r := y2.heap.size) (i := 2) (.head _) rfl
            clear h2 a1
            go_wp2_with fail
            go_meet
            exact Lib.hid ⟨R.eraseIdx j, PE.out.less (by simp), by omega, by omega⟩
        · as_aux_lemma =>
          rcases atR_found id R 0 with hno | ⟨j, ⟨x0, x1, x2⟩, hj, hx, hidx⟩
          · have K1 := Lib.hid (eset_no key due HK8.out WF.out.1 hno)
            have HNO := Lib.hid hno
            clear hno
            go_wp2_with fail
            refine K1.out.mono ?_
            rintro e y1 ⟨rfl, h1⟩
            have P1 := Lib.hid h1
            have a1 := P1.out.cell (r := ab) (i := 1) (.tail _ (.head _)) rfl
            clear h1 K1 o1 o2 o3
            go_wp2_with fail
            refine (erdrop_no id P1.out hR6 HNO.out).mono ?_
            rintro e y2 ⟨rfl, h2⟩
            have PE := Lib.hid (h2.push #[.int .i64 0, .int .i64 0, .int .i64 0] 38)
            clear h2 a1
            go_wp2_with fail
            go_meet
            exact Lib.hid ⟨R, (PE.out.less (by simp)).steps (by omega), by omega, hRm⟩
          · simp only at hidx
            subst hidx
            rw [Nat.zero_add] at hj
            have K1 := Lib.hid (eset key due HK8.out hx WF.out.2.1 WF.out.2.2 hR6 hS6)
            have hle : (R.eraseIdx j).length + 1 = R.length := by rw [List.length_eraseIdx, if_pos (List.getElem?_eq_some_iff.1 hx).1]; have := (List.getElem?_eq_some_iff.1 hx).1; omega
            have hli := length_insT (R.eraseIdx j) (key, due, x2)
            have HPA := Lib.hid (putT_again' HK8.out.ord.2 hx hRm key due)
            have HJ := Lib.hid hj
            have HX := Lib.hid hx
            clear hj hx
            simp only at K1 HPA
            obtain ⟨R', hR'⟩ : ∃ R', insT (R.eraseIdx j) (key, due, x2) = R' := ⟨_, rfl⟩
            rw [hR'] at K1 HPA hli
            clear hR'
            go_wp2_with fail
            refine K1.out.mono ?_
            rintro e y1 ⟨rfl, h1⟩
            have P1 := Lib.hid h1
            have a1 := P1.out.cell (r := ab) (i := 1) (.tail _ (.head _)) rfl
            clear h1 K1 o1 o2 o3
            go_wp2_with fail
            refine (erdrop x2 P1.out hR6 HJ.out HX.out).mono ?_
            rintro e y2 ⟨rfl, h2⟩
            have PE := Lib.hid (h2.push #[.int .i64 x0, .int .i64 x1, .int .i64 x2] 38)
            have b0 := PE.out.cell (r := xb) (i := 0) (.tail _ (.head _)) rfl
            have b1 := PE.out.cell (r := xb) (i := 1) (.tail _ (.head _)) rfl
            have b2 := PE.out.cell (r := xb) (i := 2) (.tail _ (.head _)) rfl
            clear h2 a1
            go_wp2_with fail
            refine (erput (key, due, x2) PE.out (by omega) (by omega) HPA.out).mono ?_
            rintro e y3 ⟨rfl, h3⟩
            have P3 := Lib.hid h3
            clear h3 b0 b1 b2
            go_wp2_with fail
            go_meet
            exact Lib.hid ⟨R', P3.out.less (by simp), by omega, by omega⟩
    case rest =>
    obtain ⟨R', hP, hRl', hRm'⟩ := hcut.out
    have HP := Lib.hid (hP.less (l' := [(ab, #[.int .i64 op, .int .i64 id, .int .i64 key, .int .i64 due], 61)]) (by simp))
    clear hcut hP HK8 o0 hRl hRm
    have hR6 : R'.length ≤ 1000000 := by omega
    go_upto_block 3 with fail
    go_cut [19, 20, 21, 22, 23] from 149 to 196 (fun _ _ _ _ _ wx => Hid (DP W wx d rb cm (42 * (k + 1)) R' R' [(ab, #[.int .i64 op, .int .i64 id, .int .i64 key, .int .i64 due], 61)]))
    case first => as_aux_lemma =>
      go_wp2_with fail
      go_loopw [19] (fun v wx => ∃ j : Nat, v = .int .i64 j ∧ j ≤ n2 ∧ Hid (DP W wx d rb cm (42 * (k + 1)) R' R' [(ab, #[.int .i64 op, .int .i64 id, .int .i64 key, .int .i64 due], 61)])) (fun v _ => n2 - (intOf v).toNat)
      case atStart => exact ⟨0, rfl, Nat.zero_le _, HP⟩
      case round =>
        obtain ⟨j, rfl, hj, HJ⟩ := hrel
        by_cases hjl : j < n2
        · have hjl2 : j < l2.length := by rw [HN2.out]; exact hjl
          obtain ⟨ad2, rfl, hab2, hc2⟩ := HR2.out.at hjl2
          obtain ⟨z, hz⟩ : ∃ z, z = l2[j] := ⟨_, rfl⟩
          rw [← hz] at hc2
          have CELL : Hid (∀ w', Below W.heap.size W w' → w'.cell? (ad2.add j) = some (.int .i64 z)) := Lib.hid (fun w' hb => (hb.cell (by rw [add_block]; exact hab2)).trans hc2)
          clear hab2 hc2 hz hjl2
          obtain ⟨⟨⟨y0, y1, y2⟩, cf⟩, hF⟩ : ∃ r, optR (firstT z R') = r := ⟨_, rfl⟩
          have K1 := Lib.hid (efirst z HJ.out hR6 hF)
          have z0 := CELL.out _ HJ.out.frame
          have HFF := Lib.hid hF
          have hjm : (j : Int) < (n2 : Int) := by omega
          clear hF
          go_wp2_with fail
          refine K1.out.mono ?_
          rintro e x1 ⟨rfl, h1⟩
          have P1 := Lib.hid (h1.push #[.int .i64 y0, .int .i64 y1, .int .i64 y2] 63)
          have z1 := CELL.out _ P1.out.frame
          clear h1 K1 z0
          go_wp2_with fail
          refine (erfirst z P1.out hR6 HFF.out).mono ?_
          rintro e x2 ⟨rfl, h2⟩
          have PE := Lib.hid (h2.push #[.int .i64 y0, .int .i64 y1, .int .i64 y2] 38)
          have b0 := PE.out.cell (r := x1.heap.size) (i := 0) (.tail _ (.head _)) rfl
          have b1 := PE.out.cell (r := x1.heap.size) (i := 1) (.tail _ (.head _)) rfl
          have b2 := PE.out.cell (r := x1.heap.size) (i := 2) (.tail _ (.head _)) rfl
          have b3 := PE.out.cell (r := x2.heap.size) (i := 0) (.head _) rfl
          have b4 := PE.out.cell (r := x2.heap.size) (i := 1) (.head _) rfl
          have b5 := PE.out.cell (r := x2.heap.size) (i := 2) (.head _) rfl
          clear h2 z1
          go_wp2_with fail
          go_roundw
          case rel => first | exact ⟨j + 1, by go_num, by omega, Lib.hid (PE.out.less (by simp))⟩ | ((repeat apply Exists.intro); refine ⟨⟨j + 1, ?_, by omega, Lib.hid (PE.out.less (by simp))⟩, rfl⟩; go_num)
          case measure => simp [intOf]; omega
        · obtain rfl : j = n2 := by omega
          go_wp2_with fail
          go_meet
          exact HJ
    case rest =>
    clear HP
    have HP := hcut
    clear hcut
    obtain ⟨y0, y1, y2, cg, KG, HGR⟩ : ∃ (y0 y1 y2 : Int) (cg : Bool), Hid (Calls Try.prog 27 #[.pointer (some ⟨d, 0, none⟩), .int .i64 id] wc fun e w' => e = .returned (.tuple #[.agg #[.int .i64 y0, .int .i64 y1, .int .i64 y2], .bool cg]) ∧ DP W w' d rb cm (42 * (k + 1)) R' R' [(ab, #[.int .i64 op, .int .i64 id, .int .i64 key, .int .i64 due], 61)]) ∧
        Hid ((cg = false ∧ atR id R' 0 = -1) ∨ (cg = true ∧ ∃ j : Nat, R'[j]? = some (y0, y1, y2) ∧ atR id R' 0 = (j : Int))) := by
      rcases atR_found id R' 0 with hno | ⟨j, ⟨x0, x1, x2⟩, hj, hx, hidx⟩
      · exact ⟨0, 0, 0, false, Lib.hid (eget_no HP.out WF.out.1 hno), Lib.hid (.inl ⟨rfl, hno⟩)⟩
      · simp only at hidx
        subst hidx
        rw [Nat.zero_add] at hj
        exact ⟨x0, x1, x2, true, Lib.hid (eget HP.out (List.mem_of_getElem? hx)), Lib.hid (.inr ⟨rfl, j, hx, hj⟩)⟩
    obtain ⟨at', hat⟩ : ∃ z, atR id R' 0 = z := ⟨_, rfl⟩
    have KAT := Lib.hid (erat id HP.out hR6)
    rw [hat] at KAT HGR
    clear hat
    have o1 := HP.out.cell (r := ab) (i := 1) (.head _) rfl
    go_wp2_with fail
    refine KAT.out.mono ?_
    rintro e w' ⟨rfl, rfl⟩
    go_wp2_with fail
    refine KG.out.mono ?_
    rintro e x1 ⟨rfl, h1⟩
    have P1 := Lib.hid (h1.push #[.int .i64 y0, .int .i64 y1, .int .i64 y2] 63)
    obtain ⟨gb, hgb⟩ : ∃ gb, x1.heap.size = gb := ⟨_, rfl⟩
    obtain ⟨x3, hx3⟩ : ∃ x3, x1.alloc (.cells #[.int .i64 y0, .int .i64 y1, .int .i64 y2] 63) = x3 := ⟨_, rfl⟩
    rw [hx3, hgb] at P1
    clear h1 KAT KG o1 HP
    go_upto_region 40 with fail
    clear hgb hx3
    go_cut [250] from 208 to 250 (fun v wx => v = .bool false ∧ Hid (DP W wx d rb cm (42 * (k + 1)) R' R' [(ab, #[.int .i64 op, .int .i64 id, .int .i64 key, .int .i64 due], 61)]))
    case first => as_aux_lemma =>
      have KLN := Lib.hid (fun n : Nat => (elen (P1.out.drewN n)).mono (R' := fun e w'' => e = .returned (.int .i64 R'.length) ∧ ∃ m, w'' = x3.drewN m) (by rintro e w'' ⟨rfl, rfl⟩; exact ⟨rfl, n, rfl⟩))
      obtain ⟨u, hu, hR⟩ := P1.out.row
      have b0 := P1.out.cell (r := gb) (i := 0) (.head _) rfl
      have b1 := P1.out.cell (r := gb) (i := 1) (.head _) rfl
      rcases HGR.out with ⟨rfl, rfl⟩ | ⟨rfl, j, hx, rfl⟩
      · obtain ⟨A1, c1, rfl⟩ := hR.form
        obtain ⟨m, hm⟩ : ∃ m, R'.length = m := ⟨_, rfl⟩
        rw [hm] at hu KLN
        clear hR hm HGR
        have e1 : ((m : Int) != (m : Int)) = false := by simp
        have e2 : (false != false) = false := rfl
        have e3 : decide (0 ≤ (-1 : Int)) = false := by decide
        go_big_quiet ((exact KLN.out _))
        go_wp2_with fail
        go_meet
        exact ⟨rfl, Lib.hid ((P1.out.less (by simp)).drewN _)⟩
      · obtain ⟨gr, c1, rfl, _, hc1, d0, d1, d2⟩ := hR.get hx
        have hjl := (List.getElem?_eq_some_iff.1 hx).1
        simp only at d0 d1 d2
        obtain ⟨m, hm⟩ : ∃ m, R'.length = m := ⟨_, rfl⟩
        rw [hm] at hu KLN hjl hR6 hRl'
        clear hR hx hm hc1 HGR
        have e1 : ((m : Int) != (m : Int)) = false := by simp
        have e2 : (true != true) = false := rfl
        have e3 : decide (0 ≤ (j : Int)) = true := by simp
        have e4 : (y0 != y0) = false := by simp
        have e5 : (y1 != y1) = false := by simp
        have hjm : (j : Int) < (m : Int) := by omega
        go_big_quiet ((exact KLN.out _))
        go_wp2_with fail
        go_meet
        exact ⟨rfl, Lib.hid ((P1.out.less (by simp)).drewN _)⟩
    case rest =>
    obtain ⟨rfl, HP5⟩ := hcut
    clear P1 HGR
    obtain ⟨⟨⟨z0, z1, z2⟩, cz⟩, hmn⟩ : ∃ r, minT R' = r := ⟨_, rfl⟩
    have KM := Lib.hid (eleast HP5.out hR6 hmn)
    have HMN := Lib.hid hmn
    clear hmn
    go_wp2_with fail
    refine KM.out.mono ?_
    rintro e x5 ⟨rfl, h1⟩
    have P1 := Lib.hid (h1.push #[.int .i64 z0, .int .i64 z1, .int .i64 z2] 63)
    obtain ⟨gc, hgc⟩ : ∃ gc, x5.heap.size = gc := ⟨_, rfl⟩
    obtain ⟨x6, hx6⟩ : ∃ x6, x5.alloc (.cells #[.int .i64 z0, .int .i64 z1, .int .i64 z2] 63) = x6 := ⟨_, rfl⟩
    rw [hx6, hgc] at P1
    clear h1 KM HP5
    go_upto_region 43 with fail
    clear hgc hx6
    go_cut [278] from 256 to 278 (fun v wx => v = .bool false ∧ Hid (DP W wx d rb cm (42 * (k + 1)) R' R' [(ab, #[.int .i64 op, .int .i64 id, .int .i64 key, .int .i64 due], 61)]))
    case first => as_aux_lemma =>
      obtain ⟨u, hu, hR⟩ := P1.out.row
      have b2 := P1.out.cell (r := gc) (i := 2) (.head _) rfl
      cases R' with
      | nil =>
        have hmn := HMN.out
        simp only [minT] at hmn
        injection hmn with hmn1 hmn2
        subst hmn2
        obtain ⟨A1, c1, rfl⟩ := hR.form
        clear hR hmn1 HMN
        simp only [List.length_nil] at hu
        go_big_quiet (fail)
        go_wp2_with fail
        go_meet
        exact ⟨rfl, Lib.hid ((P1.out.less (by simp)).drewN _)⟩
      | cons r T =>
        obtain ⟨x0, x1, x2⟩ := r
        have hmn := HMN.out
        simp only [minT] at hmn
        injection hmn with hmn1 hmn2
        injection hmn1 with hmn3 hmn4
        injection hmn4 with hmn5 hmn6
        subst hmn2 hmn3 hmn5 hmn6
        obtain ⟨gr, c1, rfl, _, _, d0, d1, d2⟩ := hR.get (j := 0) (x := (x0, x1, x2)) rfl
        simp only [Nat.zero_mul, Nat.zero_add] at d0 d1 d2
        obtain ⟨m, hm⟩ : ∃ m, ((x0, x1, x2) :: T).length = m := ⟨_, rfl⟩
        have hm1 : 1 ≤ m := by rw [← hm]; simp
        rw [hm] at hu hRl' hRm' hR6
        clear hR hm HMN
        have e2 : (x2 != x2) = false := by simp
        have e3 : decide (0 < (m : Int)) = true := by simp; omega
        have e4 : (true != true) = false := rfl
        have e5 : decide (0 < m) = true := by simp; omega
        have e6 : decide ((m : Int) ≤ 0) = false := by simp; omega
        have e7 : decide (m = 0) = false := by simp; omega
        go_big_quiet (fail)
        go_wp2_with fail
        go_meet
        exact ⟨rfl, Lib.hid ((P1.out.less (by simp)).drewN _)⟩
    case rest =>
    obtain ⟨rfl, HP6⟩ := hcut
    clear P1 HMN
    go_wp2_with fail
    refine ⟨dlI_mk (k + 1) R' (by omega) (Lib.hid (HP6.out.less (by simp))) (by omega) hRm' (by kernel_rfl), ?_⟩
    have := HM.out
    simp [dlM, intOf]
    omega
  · obtain rfl : k = n := by omega
    have HEX := Lib.hid hexit
    clear hexit
    go_wp2_with fail
    exact HEX.out _ _ (dlX_mk k ⟨_, R, HK.out, by omega⟩ (by kernel_rfl))
end Go.Proofs.Ytaodkfnbmpbcfaa
