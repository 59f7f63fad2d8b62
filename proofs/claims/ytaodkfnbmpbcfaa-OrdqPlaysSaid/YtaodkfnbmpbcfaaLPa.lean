/- OrdqPlays: one turn of its loop. -/
import Derived.Test.YtaodkfnbmpbcfaaPm
import Derived.Test.YtaodkfnbmpbcfaaFrb
import Derived.BigQuiet
import Derived.Deep.RegionHeld3
import Derived.Deep.DeepCutAuto
namespace Go.Proofs.Ytaodkfnbmpbcfaa
open Go.RowKit

def firstLoop : Code → Option Code
  | .loop c => some c
  | .seq a b => match firstLoop a with
    | some c => some c
    | none => firstLoop b
  | .block _ c => firstLoop c
  | .scope c => firstLoop c
  | .cond _ a b => match firstLoop a with
    | some c => some c
    | none => firstLoop b
  | _ => none
noncomputable def pbody : Code := ((Try.f3.body.bind firstLoop).getD .skip)
set_option maxRecDepth 1000000 in
/-- The loop's frame: f in what it writes, g in what it does not. -/
def plF (A : Option Addr) (c n b rb : Nat) (g f : Nat → Value) (k : Int) : Act := ⟨#[g 0, .slice A n c, g 2, g 3, f 4, .pointer (some ⟨b, 0, none⟩), .pointer (some ⟨rb, 0, none⟩), .int .i64 k, f 8, f 9, f 10, f 11, f 12, f 13, f 14, f 15, f 16, f 17, f 18, f 19, f 20, f 21, f 22, f 23, g 24, g 25, g 26, g 27, g 28, g 29, g 30, g 31, g 32, g 33, g 34, g 35, g 36, g 37, g 38, g 39, g 40, g 41, g 42, g 43, f 44, f 45, f 46, f 47, f 48, f 49, f 50, f 51, f 52, f 53, f 54, f 55, f 56, f 57, f 58, f 59, f 60, f 61, f 62, f 63, f 64, f 65, f 66, f 67, f 68, f 69, f 70, f 71, f 72, f 73, f 74, f 75, f 76, f 77, f 78, f 79, f 80, f 81, f 82, f 83, f 84, f 85, f 86, f 87, f 88, f 89, f 90, f 91, f 92, f 93, f 94, f 95, f 96, f 97, f 98, f 99, f 100, f 101, f 102, f 103, f 104, f 105, f 106, f 107, f 108, f 109, f 110, f 111, f 112, f 113, f 114, f 115, f 116, f 117, f 118, f 119, f 120, f 121, f 122, f 123, f 124, f 125, f 126, f 127, f 128, f 129, f 130, f 131, f 132, f 133, f 134, f 135, f 136, f 137, f 138, f 139, f 140, f 141, f 142, f 143, f 144, f 145, f 146, f 147, f 148, f 149, f 150, f 151, f 152, f 153, f 154, f 155, f 156, f 157, f 158, f 159, f 160, f 161, f 162, f 163, f 164, f 165, f 166, f 167, f 168, f 169, f 170, f 171, f 172, f 173, f 174, f 175, f 176, f 177, f 178, f 179, f 180, f 181, f 182, f 183, f 184, f 185, f 186, f 187, f 188, f 189, f 190, f 191, f 192, f 193, f 194, f 195, f 196, f 197, f 198, f 199, f 200, f 201, f 202, f 203, f 204, f 205, f 206, f 207, f 208, f 209, f 210, f 211, f 212, f 213, f 214, f 215, f 216, f 217, f 218, f 219, f 220, f 221, f 222, f 223, f 224, f 225, f 226, f 227, f 228, f 229, f 230, f 231, f 232, f 233, f 234, f 235, f 236, f 237, f 238, f 239, f 240, f 241, f 242, f 243, f 244, f 245, f 246, f 247, f 248, f 249, f 250, f 251, f 252, f 253, f 254, f 255, f 256, f 257, f 258, f 259, f 260, f 261, f 262, f 263, f 264, f 265, f 266, f 267, f 268, f 269, f 270, f 271, f 272, f 273, f 274, f 275, f 276, f 277, f 278, f 279, f 280, f 281, f 282, f 283, f 284, f 285, f 286, f 287, f 288, f 289, f 290, f 291], []⟩
/-- What the loop keeps. -/
def plI (W : World) (A : Option Addr) (c n b rb : Nat) (cm : Int) (g : Nat → Value) (a : Act) (w : World) : Prop :=
  ∃ (f : Nat → Value) (k : Nat) (s : Int) (R : List RI), k ≤ n ∧ Hid (PB W w b rb cm s (qL R) R []) ∧ 0 ≤ s ∧ s ≤ (k : Int) * 1000 ∧ R.length ≤ k ∧ (R.length : Int) ≤ cm ∧ a = plF A c n b rb g f k
def plM (n : Nat) (a : Act) (_ : World) : Nat := n - (intOf (a.tmps.getD 7 undef)).toNat
def plX (W : World) (A : Option Addr) (c n b rb : Nat) (g : Nat → Value) (a : Act) (w : World) : Prop := Below W.heap.size W w ∧ ∃ (f : Nat → Value) (k : Nat), a = plF A c n b rb g f k

theorem plX_mk {W : World} {A : Option Addr} {c n b rb : Nat} {g : Nat → Value} {a : Act} {w : World} (k : Nat) (hb : Below W.heap.size W w) (hf : a = plF A c n b rb g (fun i => a.tmps.getD i undef) k) : plX W A c n b rb g a w := ⟨hb, _, _, hf⟩
theorem plI_mk {W : World} {A : Option Addr} {c n b rb : Nat} {cm : Int} {g : Nat → Value} {a : Act} {w : World} (k : Nat) (s : Int) (R : List RI) (h1 : k ≤ n) (h2 : Hid (PB W w b rb cm s (qL R) R [])) (h3 : 0 ≤ s) (h4 : s ≤ (k : Int) * 1000) (h5 : R.length ≤ k) (h6 : (R.length : Int) ≤ cm)
    (hf : a = plF A c n b rb g (fun i => a.tmps.getD i undef) k) : plI W A c n b rb cm g a w := ⟨_, k, s, R, h1, h2, h3, h4, h5, h6, hf⟩
theorem add_next (a : Addr) (i j : Nat) : (⟨(a.add i).block, (a.add i).off + (j + 1), none⟩ : Addr) = a.add (i + (j + 1)) := by
  rw [← Go.Deep.add_add]
  unfold Addr.add
  simp
set_option maxRecDepth 1000000 in
set_option maxHeartbeats 40000000 in
theorem plRound {Q0 : Exit → Act → World → Prop} (W : World) (A : Option Addr) (c n b rb : Nat) (cm : Int) (g f : Nat → Value) (l : List (List Int)) (HN : Hid (l.length = n)) (HR : Hid (Rows W 3 A l)) (hn3 : n ≤ 300) (hcm : 1 ≤ cm)
    (hexit : ∀ a' w', plX W A c n b rb g a' w' → Q0 (.exit 0) a' w') (k : Nat) (s : Int) (R : List RI) (hk : k ≤ n) (wr : World) (HK : Hid (PB W wr b rb cm s (qL R) R [])) (hs0 : 0 ≤ s) (hs1 : s ≤ (k : Int) * 1000) (hRl : R.length ≤ k) (hRm : (R.length : Int) ≤ cm) :
    Code.wp Try.prog pbody (Exit.then (fun a' w' => plI W A c n b rb cm g a' w' ∧ plM n a' w' < plM n (plF A c n b rb g f k) wr) Q0) (plF A c n b rb g f k) wr := by
  obtain ⟨M, hM⟩ : ∃ M, plM n (plF A c n b rb g f k) wr = M := ⟨_, rfl⟩
  have HM : Hid (n - k = M) := Lib.hid (by rw [← hM]; rfl)
  rw [hM]
  clear hM
  unfold plF
  conv => arg 2; whnf
  by_cases hlt : k < n
  · have hkl : k < l.length := by rw [HN.out]; exact hlt
    obtain ⟨row, hrow⟩ : ∃ row, l[k]? = some row := ⟨_, List.getElem?_eq_getElem hkl⟩
    obtain ⟨hlen, ad, rfl, hadb, hcells⟩ := HR.out k row hrow
    obtain ⟨op, row1, rfl⟩ := List.exists_cons_of_length_pos (l := row) (by omega)
    obtain ⟨id, row2, rfl⟩ := List.exists_cons_of_length_pos (l := row1) (by simp at hlen; omega)
    obtain ⟨key, row3, rfl⟩ := List.exists_cons_of_length_pos (l := row2) (by simp at hlen; omega)
    obtain ⟨g0, wf0⟩ := hcells 0 op rfl
    obtain ⟨g1, wf1⟩ := hcells 1 id rfl
    obtain ⟨g2, wf2⟩ := hcells 2 key rfl
    have q0 := (HK.out.frame.cell (p := ad.add (k * 3 + 0)) (by rw [add_block]; exact hadb)).trans g0
    have q1 := (HK.out.frame.cell (p := ad.add (k * 3 + 1)) (by rw [add_block]; exact hadb)).trans g1
    have q2 := (HK.out.frame.cell (p := ad.add (k * 3 + 2)) (by rw [add_block]; exact hadb)).trans g2
    have q0' : wr.cell? (ad.add (k * 3)) = some (.int .i64 op) := q0
    have q1' : wr.cell? ⟨(ad.add (k * 3)).block, (ad.add (k * 3)).off + 1, none⟩ = some (.int .i64 id) := by rw [add_next]; exact q1
    have q2' : wr.cell? ⟨(ad.add (k * 3)).block, (ad.add (k * 3)).off + 2, none⟩ = some (.int .i64 key) := by rw [add_next]; exact q2
    have WF := Lib.hid (And.intro wf1 wf2)
    have hkm : (k : Int) < (n : Int) := by omega
    clear hcells hlen hrow hkl g0 g1 g2 wf0 wf1 wf2 q0 q1 q2
    have HK8 := Lib.hid (HK.out.push #[.int .i64 op, .int .i64 id, .int .i64 key] 31)
    obtain ⟨ab, hab⟩ : ∃ ab, wr.heap.size = ab := ⟨_, rfl⟩
    obtain ⟨w8, hw8⟩ : ∃ w8, wr.alloc (.cells #[.int .i64 op, .int .i64 id, .int .i64 key] 31) = w8 := ⟨_, rfl⟩
    rw [hw8, hab] at HK8
    have KST := Lib.hid (p2steps HK8.out.1)
    go_wp2_with fail
    refine (KST.out).mono ?_
    rintro e w' ⟨rfl, rfl⟩
    clear hab hw8 KST q0' q1' q2' HK hadb
    go_upto_block 2 with fail
    go_cut [10] from 56 to 66 (fun v wx => ∃ B : Nat, v = .int .i64 B ∧ R.length < 2 ^ B ∧ B ≤ 9 ∧ wx = w8)
    case first => as_aux_lemma =>
      obtain ⟨u, hu, hR⟩ := HK8.out.row
      obtain ⟨A1, c1, rfl⟩ := hR.form
      obtain ⟨m, hm⟩ : ∃ m, R.length = m := ⟨_, rfl⟩
      rw [hm] at hu hRl hRm
      have HMM := Lib.hid hm
      clear hR hm
      go_wp2_with fail
      go_loopw [10] (fun v wx => ∃ B : Nat, v = .int .i64 B ∧ B ≤ 9 ∧ wx = w8) (fun v _ => 9 - (intOf v).toNat)
      case atStart => exact ⟨0, rfl, by omega, rfl⟩
      case round =>
        obtain ⟨B, rfl, hB, hwx⟩ := hrel
        replace hwx := hwx.symm
        subst hwx
        have hdv : (m : Int) / 2 ^ B = ((m / 2 ^ B : Nat) : Int) := by simp
        obtain ⟨q, hq⟩ : ∃ q, m / 2 ^ B = q := ⟨_, rfl⟩
        rw [hq] at hdv
        have HQ := Lib.hid hq
        clear hq
        by_cases hlt : m < 2 ^ B
        · have hq0 : q = 0 := by rw [← HQ.out]; exact Nat.div_eq_of_lt hlt
          subst hq0
          have HLT := Lib.hid hlt
          clear hlt
          go_wp2_with fail
          go_meet
          exact ⟨B, rfl, by rw [HMM.out]; exact HLT.out, hB, rfl⟩
        · have hq0 : 0 < q := by rw [← HQ.out]; exact Nat.div_pos (by omega) (Nat.two_pow_pos B)
          have hB8 : B ≤ 8 := by
            rcases Nat.lt_or_ge B 9 with h | h
            · omega
            · obtain rfl : B = 9 := by omega
              simp at hlt; omega
          clear hlt
          go_wp2_with fail
          go_roundw
          case rel => exact ⟨B + 1, by go_num, by omega, trivial⟩
          case measure => simp [intOf]; omega
    case rest =>
    obtain ⟨B, rfl, hB1, hB9, hwc⟩ := hcut
    replace hwc := hwc.symm
    subst hwc
    have HB1 := Lib.hid hB1
    clear hB1
    have o0 := HK8.out.cell (r := ab) (i := 0) (List.mem_cons_self ..) rfl
    go_upto_block 4 with fail
    go_cut [11, 12, 13, 14, 15, 16, 17, 18, 19] from 69 to 183 (fun _ _ _ _ _ _ _ _ _ wx => Hid (∃ (s' : Int) (R' : List RI), PB W wx b rb cm s' (qL R') R' [(ab, #[.int .i64 op, .int .i64 id, .int .i64 key], 31)] ∧ s ≤ s' ∧ s' ≤ s + 2 * ((B : Int) + 1) ∧ R'.length ≤ k + 1 ∧ (R'.length : Int) ≤ cm))
    case first =>
      have hR6 : R.length ≤ 1000000 := by omega
      have hs6 : s < 2305843009213692000 := by omega
      have o1 := HK8.out.cell (r := ab) (i := 1) (List.mem_cons_self ..) rfl
      have o2 := HK8.out.cell (r := ab) (i := 2) (List.mem_cons_self ..) rfl
      by_cases h0 : op = 0
      · as_aux_lemma =>
        subst h0
        have K1 := bput (key, 0, id) B HK8.out.drew WF.out.2 WF.out.1 hR6 HB1.out (by omega) hs0 (by omega)
        have hl1 := putT_len cm R (key, 0, id)
        have hl2 := putT_most (key, 0, id) hRm
        obtain ⟨⟨ev, R'⟩, hput⟩ : ∃ r, putT cm R (key, 0, id) = r := ⟨_, rfl⟩
        rw [hput] at K1 hl1 hl2
        simp only at K1 hl1 hl2
        have HPUT := Lib.hid hput
        have K1' := Lib.hid K1
        have hee : decide (ev = ev) = true := by simp
        have cd : w8.drew.cell? ⟨ab, 1, none⟩ = some (.int .i64 id) ∧ w8.drew.cell? ⟨ab, 2, none⟩ = some (.int .i64 key) := ⟨o1, o2⟩
        clear K1 hput
        go_wp2_with fail
        go_region_held3 (fun w' => w'.cell? ⟨ab, 1, none⟩ = some (.int .i64 id) ∧ w'.cell? ⟨ab, 2, none⟩ = some (.int .i64 key)) (first | exact cz | exact cy | exact cd)
          (first
            | (go_at_call 9; refine (brput (key, 0, id) P1.out hR6 (by omega) HPUT.out).mono ?_; rintro e y2 ⟨rfl, h2⟩; have P2' := Lib.hid h2; have cz : y2.cell? ⟨ab, 1, none⟩ = some (.int .i64 id) ∧ y2.cell? ⟨ab, 2, none⟩ = some (.int .i64 key) := ⟨h2.cell (r := ab) (i := 1) (List.mem_cons_self ..) rfl, h2.cell (r := ab) (i := 2) (List.mem_cons_self ..) rfl⟩; clear h2)
            | (go_at_call 8; refine K1'.out.mono ?_; rintro e y1 ⟨rfl, k1, hk1, h1⟩; have P1 := Lib.hid h1; have cy : y1.cell? ⟨ab, 1, none⟩ = some (.int .i64 id) ∧ y1.cell? ⟨ab, 2, none⟩ = some (.int .i64 key) := ⟨h1.cell (r := ab) (i := 1) (List.mem_cons_self ..) rfl, h1.cell (r := ab) (i := 2) (List.mem_cons_self ..) rfl⟩; clear h1))
        go_wp2_with fail
        go_meet
        exact Lib.hid ⟨s + (k1 : Int), R', P2'.out, by omega, by omega, by omega, hl2⟩
      · by_cases h1 : op = 1
        · as_aux_lemma =>
          subst h1
          clear h0
          rcases atR_found id R 0 with hno | ⟨j, ⟨x0, x1, x2⟩, hj, hx, hidx⟩
          · have K1 := Lib.hid (bdrop_no HK8.out WF.out.1 hno)
            have HNO := Lib.hid hno
            clear hno
            go_wp2_with fail
            refine K1.out.mono ?_
            rintro e y1 ⟨rfl, h1⟩
            have P1 := Lib.hid (h1.push #[.int .i64 0, .int .i64 0] 40)
            have a1 := P1.out.cell (r := ab) (i := 1) (.tail _ (.head _)) rfl
            clear h1 K1 o1 o2
            go_wp2_with fail
            refine (brdrop_no id P1.out hR6 HNO.out).mono ?_
            rintro e y2 ⟨rfl, h2⟩
            have P2' := Lib.hid (h2.push #[.int .i64 0, .int .i64 0, .int .i64 0] 38)
            have b0 := P2'.out.cell (r := y1.heap.size) (i := 0) (.tail _ (.head _)) rfl
            have b1 := P2'.out.cell (r := y1.heap.size) (i := 1) (.tail _ (.head _)) rfl
            have b2 := P2'.out.cell (r := y2.heap.size) (i := 0) (.head _) rfl
            have b3 := P2'.out.cell (r := y2.heap.size) (i := 2) (.head _) rfl
            clear h2 a1
            go_wp2_with fail
            go_meet
            exact Lib.hid ⟨s, R, P2'.out.less (by simp), by omega, by omega, by omega, hRm⟩
          · simp only at hidx
            subst hidx
            rw [Nat.zero_add] at hj
            have K1 := Lib.hid (bdrop B HK8.out hx hR6 HB1.out (by omega) hs0 (by omega))
            have hle : (R.eraseIdx j).length ≤ R.length := List.length_eraseIdx_le ..
            have HJ := Lib.hid hj
            have HX := Lib.hid hx
            clear hj hx
            simp only at K1
            go_wp2_with fail
            refine K1.out.mono ?_
            rintro e y1 ⟨rfl, k1, hk1, h1⟩
            have P1 := Lib.hid (h1.push #[.int .i64 x0, .int .i64 x2] 40)
            have a1 := P1.out.cell (r := ab) (i := 1) (.tail _ (.head _)) rfl
            clear h1 K1 o1 o2
            go_wp2_with fail
            refine (brdrop x2 P1.out hR6 HJ.out HX.out).mono ?_
            rintro e y2 ⟨rfl, h2⟩
            have P2' := Lib.hid (h2.push #[.int .i64 x0, .int .i64 x1, .int .i64 x2] 38)
            have b0 := P2'.out.cell (r := y1.heap.size) (i := 0) (.tail _ (.head _)) rfl
            have b1 := P2'.out.cell (r := y1.heap.size) (i := 1) (.tail _ (.head _)) rfl
            have b2 := P2'.out.cell (r := y2.heap.size) (i := 0) (.head _) rfl
            have b3 := P2'.out.cell (r := y2.heap.size) (i := 2) (.head _) rfl
            clear h2 a1
            go_wp2_with fail
            go_meet
            exact Lib.hid ⟨s + (k1 : Int), R.eraseIdx j, P2'.out.less (by simp), by omega, by omega, by omega, by omega⟩
        · by_cases h2 : op = 2
          · as_aux_lemma =>
            subst h2
            clear h0 h1
            rcases atR_found id R 0 with hno | ⟨j, ⟨x0, x1, x2⟩, hj, hx, hidx⟩
            · have K1 := Lib.hid (bset_no key HK8.out WF.out.1 hno)
              have HNO := Lib.hid hno
              clear hno
              go_wp2_with fail
              refine K1.out.mono ?_
              rintro e y1 ⟨rfl, h1⟩
              have P1 := Lib.hid h1
              have a1 := P1.out.cell (r := ab) (i := 1) (.head _) rfl
              clear h1 K1 o1 o2
              go_wp2_with fail
              refine (brdrop_no id P1.out hR6 HNO.out).mono ?_
              rintro e y2 ⟨rfl, h2⟩
              have P2' := Lib.hid (h2.push #[.int .i64 0, .int .i64 0, .int .i64 0] 38)
              clear h2 a1
              go_wp2_with fail
              go_meet
              exact Lib.hid ⟨s, R, P2'.out.less (by simp), by omega, by omega, by omega, hRm⟩
            · simp only at hidx
              subst hidx
              rw [Nat.zero_add] at hj
              have K1 := Lib.hid (bset key B HK8.out hx WF.out.2 hR6 HB1.out (by omega) hs0 hs6)
              have hle : (R.eraseIdx j).length + 1 = R.length := by rw [List.length_eraseIdx, if_pos (List.getElem?_eq_some_iff.1 hx).1]; have := (List.getElem?_eq_some_iff.1 hx).1; omega
              have hli := length_insT (R.eraseIdx j) (key, 0, x2)
              have HPA := Lib.hid (putT_again HK8.out.1.ord.2 hx hRm key)
              have HJ := Lib.hid hj
              have HX := Lib.hid hx
              clear hj hx
              simp only at K1 HPA
              obtain ⟨R', hR'⟩ : ∃ R', insT (R.eraseIdx j) (key, 0, x2) = R' := ⟨_, rfl⟩
              rw [hR'] at K1 HPA hli
              clear hR'
              go_wp2_with fail
              refine K1.out.mono ?_
              rintro e y1 ⟨rfl, k1, hk1, h1⟩
              have P1 := Lib.hid h1
              have a1 := P1.out.cell (r := ab) (i := 1) (.head _) rfl
              clear h1 K1 o1 o2
              go_wp2_with fail
              refine (brdrop x2 P1.out hR6 HJ.out HX.out).mono ?_
              rintro e y2 ⟨rfl, h2⟩
              have P2' := Lib.hid (h2.push #[.int .i64 x0, .int .i64 x1, .int .i64 x2] 38)
              have b0 := P2'.out.cell (r := ab) (i := 2) (.tail _ (.head _)) rfl
              have b3 := P2'.out.cell (r := y2.heap.size) (i := 2) (.head _) rfl
              clear h2 a1
              go_wp2_with fail
              refine (brput (key, 0, x2) P2'.out (by omega) (by omega) HPA.out).mono ?_
              rintro e y3 ⟨rfl, h3⟩
              have P3 := Lib.hid h3
              clear h3 b0 b3
              go_wp2_with fail
              go_meet
              exact Lib.hid ⟨s + (k1 : Int), R', P3.out.less (by simp), by omega, by omega, by omega, by omega⟩
          · as_aux_lemma =>
            cases R with
            | nil =>
              have K1 := Lib.hid (bmin (x := 0) (y := 0) (c := false) HK8.out hR6 rfl)
              clear o1 o2
              go_wp2_with fail
              refine K1.out.mono ?_
              rintro e y1 ⟨rfl, h1⟩
              have P1 := Lib.hid (h1.push #[.int .i64 0, .int .i64 0] 40)
              obtain ⟨u, hu, hR⟩ := P1.out.row
              obtain ⟨A1, c1, rfl⟩ := hR.form
              clear h1 K1 hR
              simp only [List.length_nil] at hu
              go_wp2_with fail
              go_big_quiet (fail)
              go_wp2_with fail
              go_meet
              exact Lib.hid ⟨s, [], (P1.out.less (by simp)).drewN _, by omega, by omega, by simp, by simpa using hRm⟩
            | cons r T =>
              obtain ⟨x0, x1, x2⟩ := r
              have K1 := Lib.hid (bmin (x := x0) (y := x2) (c := true) HK8.out hR6 rfl)
              clear o1 o2
              go_wp2_with fail
              refine K1.out.mono ?_
              rintro e y1 ⟨rfl, h1⟩
              have P1 := Lib.hid (h1.push #[.int .i64 x0, .int .i64 x2] 40)
              obtain ⟨u, hu, hR⟩ := P1.out.row
              obtain ⟨gr, c1, rfl, _, _, d0, d1, d2⟩ := hR.get (j := 0) (x := (x0, x1, x2)) rfl
              have b0 := P1.out.cell (r := y1.heap.size) (i := 0) (.head _) rfl
              have b1 := P1.out.cell (r := y1.heap.size) (i := 1) (.head _) rfl
              simp only [Nat.zero_mul, Nat.zero_add] at d0 d1 d2
              obtain ⟨m, hm⟩ : ∃ m, ((x0, x1, x2) :: T).length = m := ⟨_, rfl⟩
              have hm1 : 1 ≤ m := by rw [← hm]; simp
              rw [hm] at hu hRl hRm hR6
              have HMM := Lib.hid hm
              clear h1 K1 hR hm
              have e0 : (x0 != x0) = false := by simp
              have e2 : (x2 != x2) = false := by simp
              have e3 : decide (0 < (m : Int)) = true := by simp; omega
              have e4 : (true != true) = false := rfl
              have e5 : decide (0 < m) = true := by simp; omega
              have e6 : decide ((m : Int) ≤ 0) = false := by simp; omega
              have e7 : decide (m = 0) = false := by simp; omega
              go_wp2_with fail
              go_big_quiet (fail)
              go_wp2_with fail
              go_meet
              exact Lib.hid ⟨s, (x0, x1, x2) :: T, (P1.out.less (by simp)).drewN _, by omega, by omega, by rw [HMM.out]; omega, by rw [HMM.out]; exact hRm⟩
    case rest =>
    obtain ⟨s', R', hP, hs2, hs3, hRl', hRm'⟩ := hcut.out
    have HP := Lib.hid hP
    clear hcut hP HK8 HB1 o0 hRl hRm
    have KS := Lib.hid (p2steps HP.out.1)
    have hR6 : R'.length ≤ 1000000 := by omega
    have y1 : s' - s ≤ 4 * ((B : Int) + 2) := by omega
    have o1 := HP.out.cell (r := ab) (i := 1) (.head _) rfl
    have KAT := Lib.hid (p2rat id HP.out.1 hR6)
    have KKE := Lib.hid (p2key HP.out.1 WF.out.1)
    obtain ⟨at', hat⟩ : ∃ z, atR id R' 0 = z := ⟨_, rfl⟩
    obtain ⟨⟨kk, kb⟩, hkv⟩ : ∃ z, keyV (qL R') id = z := ⟨_, rfl⟩
    rw [hat] at KAT
    rw [hkv] at KKE
    simp only at KKE
    have HAT := Lib.hid hat
    have HKV := Lib.hid hkv
    clear hat hkv
    go_wp2_with fail
    refine KS.out.mono ?_
    rintro e w' ⟨rfl, rfl⟩
    go_wp2_with fail
    refine KS.out.mono ?_
    rintro e w' ⟨rfl, rfl⟩
    go_wp2_with fail
    refine KAT.out.mono ?_
    rintro e w' ⟨rfl, rfl⟩
    go_wp2_with fail
    refine KKE.out.mono ?_
    rintro e w' ⟨rfl, rfl⟩
    clear KS KAT KKE
    go_upto_region 41 with fail
    go_cut [237] from 209 to 237 (fun v wx => v = .bool false ∧ Hid (PB W wx b rb cm s' (qL R') R' [(ab, #[.int .i64 op, .int .i64 id, .int .i64 key], 31)]))
    case first => as_aux_lemma =>
      have KLN := Lib.hid (fun n : Nat => (p2len (HP.out.drewN n).1).mono (R' := fun e w'' => e = .returned (.int .i64 R'.length) ∧ ∃ m, w'' = wc.drewN m) (by rintro e w'' ⟨rfl, rfl⟩; exact ⟨by rw [qL_length], n, rfl⟩))
      obtain ⟨u, hu, hR⟩ := HP.out.row
      rcases atR_found id R' 0 with hno | ⟨j, ⟨x0, x1, x2⟩, hj, hx, hidx⟩
      · obtain ⟨A1, c1, rfl⟩ := hR.form
        have hkv := keyV_no (none_qL hno)
        rw [HAT.out] at hno
        rw [HKV.out] at hkv
        injection hkv with hkv1 hkv2
        subst hno hkv1 hkv2
        obtain ⟨m, hm⟩ : ∃ m, R'.length = m := ⟨_, rfl⟩
        rw [hm] at hu KLN
        clear hR hm HAT HKV
        have e1 : ((m : Int) != (m : Int)) = false := by simp
        have e2 : (false != false) = false := rfl
        have e3 : decide (0 ≤ (-1 : Int)) = false := by decide
        go_big_quiet ((exact KLN.out _))
        go_wp2_with fail
        go_meet
        exact ⟨rfl, Lib.hid (HP.out.drewN _)⟩
      · simp only at hidx
        subst hidx
        rw [Nat.zero_add] at hj
        obtain ⟨gr, c1, rfl, _, hc1, d0, d1, d2⟩ := hR.get hx
        have hkv := key_yes HP.out.1.ord.2 hx
        have hjl := (List.getElem?_eq_some_iff.1 hx).1
        simp only at hkv d0 d1 d2
        rw [HAT.out] at hj
        rw [HKV.out] at hkv
        injection hkv with hkv1 hkv2
        subst hj hkv1 hkv2
        obtain ⟨m, hm⟩ : ∃ m, R'.length = m := ⟨_, rfl⟩
        rw [hm] at hu KLN hjl hR6 hRl'
        clear hR hx hm hc1 HAT HKV
        have e1 : ((m : Int) != (m : Int)) = false := by simp
        have e2 : (true != true) = false := rfl
        have e3 : decide (0 ≤ (j : Int)) = true := by simp
        have e4 : (kk != kk) = false := by simp
        have hjm : (j : Int) < (m : Int) := by omega
        go_big_quiet ((exact KLN.out _))
        go_wp2_with fail
        go_meet
        exact ⟨rfl, Lib.hid (HP.out.drewN _)⟩
    case rest =>
    obtain ⟨rfl, HP2⟩ := hcut
    clear HP o1 HAT HKV
    go_upto_region 43 with fail
    go_cut [247] from 238 to 247 (fun v wx => ∃ bb : Bool, v = .bool bb ∧ Hid (PB W wx b rb cm s' (qL R') R' [(ab, #[.int .i64 op, .int .i64 id, .int .i64 key], 31)]))
    case first => as_aux_lemma =>
      have htm : (k : Int).tmod 8 = ((k % 8 : Nat) : Int) := by rw [Int.tmod_eq_emod_of_nonneg (by omega)]; omega
      obtain ⟨r8, hr8⟩ : ∃ r8, k % 8 = r8 := ⟨_, rfl⟩
      rw [hr8] at htm
      clear hr8
      by_cases h7 : r8 = 7
      · subst h7
        go_wp2_with fail
        go_meet
        exact ⟨_, rfl, HP2⟩
      · have h7' : ¬ (r8 : Int) = 7 := by omega
        by_cases hl : (n : Int) - 1 = (k : Int)
        · go_wp2_with fail
          go_meet
          exact ⟨_, rfl, HP2⟩
        · have hl' : ¬ (k : Int) = (n : Int) - 1 := by omega
          go_wp2_with fail
          go_meet
          exact ⟨_, rfl, HP2⟩
    case rest =>
    obtain ⟨bb, rfl, HP3⟩ := hcut
    clear HP2
    cases bb with
    | false =>
      go_wp2_with fail
      refine ⟨plI_mk (k + 1) s' R' (by omega) (Lib.hid (HP3.out.less (by simp))) (by omega) (by omega) (by omega) hRm' (by kernel_rfl), ?_⟩
      have := HM.out
      simp [plM, intOf]
      omega
    | true =>
      go_upto_block 5 with fail
      go_cut [23] from 248 to 269 (fun v wx => ∃ i : Nat, v = .int .i64 i ∧ i ≤ R'.length ∧ Hid (overL (qL R') key = qL (R'.drop i)) ∧ Hid (PB W wx b rb cm s' (qL R') R' [(ab, #[.int .i64 op, .int .i64 id, .int .i64 key], 31)]))
      case first => as_aux_lemma =>
        obtain ⟨u, hu, hR⟩ := HP3.out.row
        obtain ⟨A1, c1, rfl⟩ := hR.form
        have o2 := HP3.out.cell (r := ab) (i := 2) (.head _) rfl
        obtain ⟨m, hm⟩ : ∃ m, R'.length = m := ⟨_, rfl⟩
        rw [hm] at hu hRl' hR6 hRm'
        have HMM := Lib.hid hm
        have HROW := Lib.hid hR
        clear hm hR
        go_wp2_with fail
        go_loopw [23] (fun v wx => ∃ i nq : Nat, v = .int .i64 i ∧ i ≤ m ∧ wx = wc.drewN nq ∧ Hid (∀ j r, j < i → R'[j]? = some r → r.1 ≤ key)) (fun v _ => m - (intOf v).toNat)
        case atStart => exact ⟨0, 0, rfl, by omega, rfl, Lib.hid (fun j r hj => by omega)⟩
        case round =>
          obtain ⟨i, nq, rfl, hi, rfl, HI⟩ := hrel
          have hu' : (wc.drewN nq).cell? ⟨rb, 1, none⟩ = some (.slice A1 m c1) := hu
          have o2' : (wc.drewN nq).cell? ⟨ab, 2, none⟩ = some (.int .i64 key) := o2
          by_cases hilt : i < m
          · obtain ⟨⟨x0, x1, x2⟩, hr⟩ : ∃ r, R'[i]? = some r := ⟨_, List.getElem?_eq_getElem (by rw [HMM.out]; exact hilt)⟩
            obtain ⟨gr, c2, hv, _, hc1, d0, d1, d2⟩ := HROW.out.get hr
            injection hv with hv1 hv2 hv3
            subst hv1
            have d0' : (wc.drewN nq).cell? ⟨gr, i * 3, none⟩ = some (.int .i64 x0) := d0
            have him : (i : Int) < (m : Int) := by omega
            have e1 : decide ((i : Int) < (m : Int)) = true := by simp; omega
            have e1' : decide (i < m) = true := by simp; omega
            by_cases hkk : x0 ≤ key
            · have HI' : Hid (∀ j r, j < i + 1 → R'[j]? = some r → r.1 ≤ key) := Lib.hid (fun j r hj hjr => by
                by_cases e : j = i
                · subst e; rw [hr] at hjr; injection hjr with hjr; rw [← hjr]; exact hkk
                · exact HI.out j r (by omega) hjr)
              have e2 : decide (x0 ≤ key) = true := by simp; omega
              clear hr hv2 hv3 hc1
              go_wp2_with fail
              go_big_quiet (fail)
              go_wp2_with fail
              go_roundw
              case rel => exact ⟨i + 1, _, by go_num, by omega, rfl, HI'⟩
              case measure => simp [intOf]; omega
            · have HO := Lib.hid (over_drop (key := key) HP3.out.1.ord.1 HI.out (fun r h => by rw [hr] at h; injection h with h; rw [← h]; simp only; omega))
              have e2 : decide (x0 ≤ key) = false := by simp; omega
              clear hr hv2 hv3 hc1
              go_wp2_with fail
              go_big_quiet (fail)
              go_wp2_with fail
              go_meet
              exact ⟨i, rfl, by rw [HMM.out]; omega, HO, Lib.hid ((HP3.out.drewN _).drewN _)⟩
          · obtain rfl : i = m := by omega
            have HO := Lib.hid (over_drop (key := key) HP3.out.1.ord.1 HI.out (fun r h => by rw [List.getElem?_eq_none (by rw [HMM.out]; exact Nat.le_refl _)] at h; cases h))
            have e1 : decide ((i : Int) < (i : Int)) = false := by simp
            have e1' : decide (i < i) = false := by simp
            skip
            go_wp2_with fail
            go_big_quiet (fail)
            go_wp2_with fail
            go_meet
            exact ⟨i, rfl, by rw [HMM.out]; omega, HO, Lib.hid ((HP3.out.drewN _).drewN _)⟩
      case rest =>
      obtain ⟨i, rfl, hi, HO, HP4⟩ := hcut
      clear HP3
      go_upto_region 47 with fail
      go_cut [291] from 270 to 291 (fun v wx => v = .bool false ∧ Hid (PB W wx b rb cm s' (qL R') R' [(ab, #[.int .i64 op, .int .i64 id, .int .i64 key], 31)]))
      case first =>
        obtain ⟨u, hu, hR⟩ := HP4.out.row
        have o2 := HP4.out.cell (r := ab) (i := 2) (.head _) rfl
        have PD := Lib.hid HP4.out.drew
        have hLL : (qL R').length ≤ 1000000 := by rw [qL_length]; exact hR6
        have hLL2 : (qL (R'.drop i)).length ≤ 1000000 := by rw [qL_length, List.length_drop]; omega
        have SUB := Lib.hid (fun (w : World) (v : Value) (h : PB W w b rb cm s' (qL R') R' [(ab, #[.int .i64 op, .int .i64 id, .int .i64 key], 31)]) => h.sub (v := v))
        rcases hR.2 with ⟨rfl, hl0⟩ | ⟨gr, cap, cur, rfl, _, _, hcap, hmx, _⟩
        · as_aux_lemma =>
          obtain rfl : R' = [] := List.eq_nil_of_length_eq_zero hl0
          obtain rfl : i = 0 := by simpa using hi
          have SD : wc.drew.cell? ⟨rb, 1, none⟩ = some (.slice none 0 0) ∧ wc.drew.cell? ⟨ab, 2, none⟩ = some (.int .i64 key) := ⟨hu, o2⟩
          have SUB2 := Lib.hid (fun (w : World) (_ : RowV w (.slice none 0 0) []) => show RSub w (.slice none 0 0) (([] : List RI).drop 0) from ⟨none, 0, rfl, fun j r h => by simp at h⟩)
          clear hu o2 hR hl0
          go_region_held3 (fun w' => w'.cell? ⟨rb, 1, none⟩ = some (.slice none 0 0) ∧ w'.cell? ⟨ab, 2, none⟩ = some (.int .i64 key)) (first | exact S4 | exact S3 | exact S2 | exact S1 | exact SD)
            (first
              | (go_at_call 19; refine (p2over key PE2.out.1 hLL).mono ?_; rintro e x3 ⟨v3, rfl, hM3, _, hb3⟩; have P3 := Lib.hid (PE2.out.below hb3); have S3 := P3.out.two S2 hb3; rw [HO.out] at hM3; have M3 := Lib.hid hM3; clear hM3 hb3)
              | (go_at_call 18; refine (p2list PD.out.1 hLL).mono ?_; rintro e x1 ⟨v1, rfl, hM1, _, hb1⟩; have P1 := Lib.hid (PD.out.below hb1); have S1 := P1.out.two SD hb1; have M1 := Lib.hid hM1; clear hM1 hb1)
              | (go_at_call 17; refine (same4_c _ _ (qL (([] : List RI).drop 0)) (([] : List RI).drop 0) _ (base_zero M3.out) (SUB2.out _ (P3.out.rowv S3.1)) rfl hLL2).mono ?_; rintro e x4 ⟨rfl, n4, rfl⟩; have PE4 := Lib.hid (P3.out.drewN n4); have S4 : (x3.drewN n4).cell? ⟨rb, 1, none⟩ = some (.slice none 0 0) ∧ (x3.drewN n4).cell? ⟨ab, 2, none⟩ = some (.int .i64 key) := S3)
              | (go_at_call 17; refine (same4_c _ _ (qL []) [] _ (base_zero M1.out) (SUB.out _ _ P1.out S1.1) rfl hLL).mono ?_; rintro e x2 ⟨rfl, n2, rfl⟩; have PE2 := Lib.hid (P1.out.drewN n2); have S2 : (x1.drewN n2).cell? ⟨rb, 1, none⟩ = some (.slice none 0 0) ∧ (x1.drewN n2).cell? ⟨ab, 2, none⟩ = some (.int .i64 key) := S1))
          go_wp2_with fail
          go_meet
          exact ⟨rfl, PE4⟩
        · have SUB2 := Lib.hid (fun (w : World) (h : RowV w (.slice (some ⟨gr, 0, none⟩) R'.length cap) R') => rowv_drop h i)
          have SD : wc.drew.cell? ⟨rb, 1, none⟩ = some (.slice (some ⟨gr, 0, none⟩) R'.length cap) ∧ wc.drew.cell? ⟨ab, 2, none⟩ = some (.int .i64 key) := ⟨hu, o2⟩
          obtain ⟨m, hm⟩ : ∃ m, R'.length = m := ⟨_, rfl⟩
          rw [hm] at SD hi hRl' hR6 hcap SUB2
          have HMM := Lib.hid hm
          clear hu o2 hR hm
          by_cases hic : i < cap
          · as_aux_lemma =>
            have hic' : (i : Int) < (cap : Int) := by omega
            have him' : (i : Int) ≤ (m : Int) := by omega
            go_region_held3 (fun w' => w'.cell? ⟨rb, 1, none⟩ = some (.slice (some ⟨gr, 0, none⟩) m cap) ∧ w'.cell? ⟨ab, 2, none⟩ = some (.int .i64 key)) (first | exact S4 | exact S3 | exact S2 | exact S1 | exact SD)
              (first
                | (go_at_call 19; refine (p2over key PE2.out.1 hLL).mono ?_; rintro e x3 ⟨v3, rfl, hM3, _, hb3⟩; have P3 := Lib.hid (PE2.out.below hb3); have S3 := P3.out.two S2 hb3; rw [HO.out] at hM3; have M3 := Lib.hid hM3; clear hM3 hb3)
                | (go_at_call 18; refine (p2list PD.out.1 hLL).mono ?_; rintro e x1 ⟨v1, rfl, hM1, _, hb1⟩; have P1 := Lib.hid (PD.out.below hb1); have S1 := P1.out.two SD hb1; have M1 := Lib.hid hM1; clear hM1 hb1)
                | (go_at_call 17; refine (same4_c _ _ (qL (R'.drop i)) (R'.drop i) _ (base_zero M3.out) (SUB2.out _ (P3.out.rowv S3.1)) rfl hLL2).mono ?_; rintro e x4 ⟨rfl, n4, rfl⟩; have PE4 := Lib.hid (P3.out.drewN n4); have S4 : (x3.drewN n4).cell? ⟨rb, 1, none⟩ = some (.slice (some ⟨gr, 0, none⟩) m cap) ∧ (x3.drewN n4).cell? ⟨ab, 2, none⟩ = some (.int .i64 key) := S3)
                | (go_at_call 17; refine (same4_c _ _ (qL R') R' _ (base_zero M1.out) (SUB.out _ _ P1.out S1.1) rfl hLL).mono ?_; rintro e x2 ⟨rfl, n2, rfl⟩; have PE2 := Lib.hid (P1.out.drewN n2); have S2 : (x1.drewN n2).cell? ⟨rb, 1, none⟩ = some (.slice (some ⟨gr, 0, none⟩) m cap) ∧ (x1.drewN n2).cell? ⟨ab, 2, none⟩ = some (.int .i64 key) := S1))
            go_wp2_with fail
            go_meet
            exact ⟨rfl, PE4⟩
          · as_aux_lemma =>
            obtain rfl : i = m := by omega
            obtain rfl : cap = i := by omega
            have SUB3 := Lib.hid (fun (w : World) (A : Option Addr) (c : Nat) => show RSub w (.slice A 0 c) (R'.drop cap) from ⟨A, c, by rw [List.length_drop, HMM.out]; simp, fun j r h => by rw [List.getElem?_drop, List.getElem?_eq_none (by rw [HMM.out]; omega)] at h; cases h⟩)
            go_region_held3 (fun w' => w'.cell? ⟨rb, 1, none⟩ = some (.slice (some ⟨gr, 0, none⟩) cap cap) ∧ w'.cell? ⟨ab, 2, none⟩ = some (.int .i64 key)) (first | exact S4 | exact S3 | exact S2 | exact S1 | exact SD)
              (first
                | (go_at_call 19; refine (p2over key PE2.out.1 hLL).mono ?_; rintro e x3 ⟨v3, rfl, hM3, _, hb3⟩; have P3 := Lib.hid (PE2.out.below hb3); have S3 := P3.out.two S2 hb3; rw [HO.out] at hM3; have M3 := Lib.hid hM3; clear hM3 hb3)
                | (go_at_call 18; refine (p2list PD.out.1 hLL).mono ?_; rintro e x1 ⟨v1, rfl, hM1, _, hb1⟩; have P1 := Lib.hid (PD.out.below hb1); have S1 := P1.out.two SD hb1; have M1 := Lib.hid hM1; clear hM1 hb1)
                | (go_at_call 17; refine (same4_c _ _ (qL (R'.drop cap)) (R'.drop cap) _ (base_zero M3.out) (SUB3.out _ _ _) rfl hLL2).mono ?_; rintro e x4 ⟨rfl, n4, rfl⟩; have PE4 := Lib.hid (P3.out.drewN n4); have S4 : (x3.drewN n4).cell? ⟨rb, 1, none⟩ = some (.slice (some ⟨gr, 0, none⟩) cap cap) ∧ (x3.drewN n4).cell? ⟨ab, 2, none⟩ = some (.int .i64 key) := S3)
                | (go_at_call 17; refine (same4_c _ _ (qL R') R' _ (base_zero M1.out) (SUB.out _ _ P1.out S1.1) rfl hLL).mono ?_; rintro e x2 ⟨rfl, n2, rfl⟩; have PE2 := Lib.hid (P1.out.drewN n2); have S2 : (x1.drewN n2).cell? ⟨rb, 1, none⟩ = some (.slice (some ⟨gr, 0, none⟩) cap cap) ∧ (x1.drewN n2).cell? ⟨ab, 2, none⟩ = some (.int .i64 key) := S1))
            go_wp2_with fail
            go_meet
            exact ⟨rfl, PE4⟩
      case rest =>
      obtain ⟨rfl, HP5⟩ := hcut
      clear HP4
      go_wp2_with fail
      refine ⟨plI_mk (k + 1) s' R' (by omega) (Lib.hid (HP5.out.less (by simp))) (by omega) (by omega) (by omega) hRm' (by kernel_rfl), ?_⟩
      have := HM.out
      simp [plM, intOf]
      omega
  · obtain rfl : k = n := by omega
    have HEX := Lib.hid hexit
    clear hexit
    go_wp2_with fail
    exact HEX.out _ _ (plX_mk k HK.out.frame (by kernel_rfl))
end Go.Proofs.Ytaodkfnbmpbcfaa
