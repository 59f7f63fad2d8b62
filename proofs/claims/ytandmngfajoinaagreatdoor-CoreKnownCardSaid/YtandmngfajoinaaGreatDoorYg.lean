/- Forms: Text, walked. -/
import Derived.Test.YtandmngfajoinaaGreatDoorYf
namespace Go.Proofs.YtandmngfajoinaaGreatDoor
open Go.RowKit Go.Shelf

set_option maxRecDepth 100000 in
set_option maxHeartbeats 8000000 in
theorem text_c (f0 : Int) (A : Option Addr) (n c : Nat) (l : List RI) (w : World) (hn : l.length = n) (h64 : n ≤ 64) (hr : TRow w A l) (ht : Tab w) (hc : Sm f0) (hs : ∀ r ∈ l, SmR r) :
    Calls Tryz.prog 8 #[.agg #[.int .i64 f0, .slice A n c]] w (Ret10 (.string ⟨(textL f0 l).toArray⟩) w) := by
  obtain ⟨W0, hW0⟩ : ∃ W0, w.alloc (.cells #[.int .i64 f0, .slice A n c] 30) = W0 := ⟨_, rfl⟩
  have hs0 : W0.heap.size = w.heap.size + 1 := by rw [← hW0]; simp
  have hb0 : Below w.heap.size w W0 := by rw [← hW0]; exact (Below.refl _ w).alloc (Nat.le_refl _) _
  have hf0 : FoAt W0 w.heap.size f0 A n c := by rw [← hW0]; exact heap_alloc_new w _
  obtain ⟨W1, hW1⟩ : ∃ W1, W0.alloc (.cells #[.pointer none, .slice none 0 0] 56) = W1 := ⟨_, rfl⟩
  have ts0 : TS W0 (w.heap.size + 1) (w.heap.size + 1) none [] W1 := by
    rw [← hW1, ← hs0]
    exact ⟨Lib.IsBuilderF.of (Lib.fresh_isBuilder _ _ W0), (Below.refl _ W0).alloc (Nat.le_refl _) _, by simp, fun _ _ e => by cases e⟩
  have HT := Lib.hid (ht.below hb0 (Nat.le_refl _))
  have HSZ : Hid (W0.heap.size ≤ w.heap.size + 1) := Lib.hid (by omega)
  have HB0 := Lib.hid hb0
  have HF0 := Lib.hid hf0
  have HW0 := Lib.hid hW0
  have HW1 := Lib.hid hW1
  have H0 := Lib.hid ts0
  have HR := Lib.hid (hr.below hb0 (Nat.le_refl _))
  have HN := Lib.hid hn
  have HS := Lib.hid hs
  have HC := Lib.hid hc
  have P1 : Hid (([] : List UInt8).length + (Lib.itoa f0).length ≤ 1000000) := Lib.hid (by have := hc.len; simp; omega)
  have P2 : Hid (([] ++ Lib.itoa f0).length + ([58] : List UInt8).length ≤ 1000000) := Lib.hid (by have := hc.len; simp; omega)
  obtain ⟨HD, hHD⟩ : ∃ HD, [] ++ Lib.itoa f0 ++ [58] = HD := ⟨_, rfl⟩
  have HH : Hid (HD.length ≤ 22) := Lib.hid (by rw [← hHD]; have := hc.len; simp; omega)
  have HE : Hid (textL f0 l = HD ++ itemsT l) := Lib.hid (by rw [← hHD]; simp [textL])
  have HHD := Lib.hid hHD
  obtain ⟨R, hR⟩ : ∃ R, textL f0 l = R := ⟨_, rfl⟩
  have HRR := Lib.hid hR
  rw [hR]
  clear hr ht hc hs hn hW0 hW1 ts0 hb0 hf0 hs0 hHD hR
  go_enter Tryz.func8, Tryz.ntmps8
  go_wp2_with fail
  rw [HW0.out, HW1.out]
  refine (ts_itoa H0.out HT.out HSZ.out f0 HC.out).mono ?_
  rintro e w1 ⟨rfl, h⟩
  have H1 := Lib.hid h
  clear h H0
  go_wp2_with fail
  refine (ts_write H1.out (Lib.itoa f0) P1.out).mono ?_
  rintro e w2 ⟨⟨z1, rfl⟩, h⟩
  have H2 := Lib.hid h
  clear h H1
  go_wp2_with fail
  refine (ts_write H2.out [58] P2.out).mono ?_
  rintro e w3 ⟨⟨z2, rfl⟩, h⟩
  rw [HHD.out] at h
  have H3 := Lib.hid h
  obtain ⟨-, u1, -, -⟩ := (show FoAt w3 w.heap.size f0 A n c from BoxAt.below HF0.out h.low (by omega)).cells
  clear h H2 P1 P2 HHD HF0 HW0 HW1 HC
  go_wp2_with fail
  go_loopw [14] (fun i wr => ∃ k : Nat, i = .int .i64 k ∧ k ≤ n ∧ TS W0 (w.heap.size + 1) (w.heap.size + 1) none (HD ++ itemsT (l.take k)) wr) (fun i _ => n - (intOf i).toNat)
  case atStart => exact ⟨0, rfl, Nat.zero_le _, by simpa [itemsT] using H3.out⟩
  case round =>
    obtain ⟨k, rfl, hk, hts⟩ := hrel
    have H := Lib.hid hts
    clear hts H3 u1
    by_cases hlt : k < n
    · obtain ⟨y, hx⟩ : ∃ y, l[k]? = some y := ⟨_, List.getElem?_eq_getElem (by rw [HN.out]; exact hlt)⟩
      obtain ⟨ad, rfl, c0, c1, c2⟩ := (HR.out.below H.out.low HSZ.out).at hx
      have HI := Lib.hid (itemsT_take hx)
      have hsm := HS.out y (List.mem_of_getElem? hx)
      have HA : Hid ((HD ++ itemsT (l.take k)).length ≤ 100000) := Lib.hid (by
        have h1 := itemsT_len (l := l.take k) (fun r hr => HS.out r (List.mem_of_mem_take hr))
        have h2 := HH.out
        have h3 : (l.take k).length ≤ k := List.length_take_le _ _
        rw [List.length_append]
        omega)
      clear hx
      obtain ⟨y0, y1, y2⟩ := y
      simp only at c0 c1 c2
      have HY0 := Lib.hid hsm.1
      have HY1 := Lib.hid hsm.2.1
      have HY2 := Lib.hid hsm.2.2
      clear hsm
      have H1 := Lib.hid (H.out.push y0 y1 y2)
      clear H
      generalize itemsT (l.take k) = IT at *
      obtain ⟨acc, hacc⟩ : ∃ acc, HD ++ IT = acc := ⟨_, rfl⟩
      rw [hacc] at H1 HA
      have hA := HA.out
      have l0 := HY0.out.len
      have l1 := HY1.out.len
      have l2 := HY2.out.len
      simp only at l0 l1 l2
      have B1 : Hid (acc.length + ([32] : List UInt8).length ≤ 1000000) := Lib.hid (by simp; omega)
      have B2 : Hid ((acc ++ [32]).length + (Lib.itoa y0).length ≤ 1000000) := Lib.hid (by simp; omega)
      have B3 : Hid ((acc ++ [32] ++ Lib.itoa y0).length + ([47] : List UInt8).length ≤ 1000000) := Lib.hid (by simp; omega)
      have B4 : Hid ((acc ++ [32] ++ Lib.itoa y0 ++ [47]).length + (Lib.itoa y1).length ≤ 1000000) := Lib.hid (by simp; omega)
      have B5 : Hid ((acc ++ [32] ++ Lib.itoa y0 ++ [47] ++ Lib.itoa y1).length + ([47] : List UInt8).length ≤ 1000000) := Lib.hid (by simp; omega)
      have B6 : Hid ((acc ++ [32] ++ Lib.itoa y0 ++ [47] ++ Lib.itoa y1 ++ [47]).length + (Lib.itoa y2).length ≤ 1000000) := Lib.hid (by simp; omega)
      have HACC : Hid (acc ++ [32] ++ Lib.itoa y0 ++ [47] ++ Lib.itoa y1 ++ [47] ++ Lib.itoa y2 = HD ++ itemsT (l.take (k + 1))) := Lib.hid (by rw [HI.out, ← hacc]; simp [itemT])
      clear hA l0 l1 l2 hacc HI HA
      go_wp2_with fail
      refine (ts_write H1.out [32] B1.out).mono ?_
      rintro e w2 ⟨⟨z1, rfl⟩, h⟩
      have H2 := Lib.hid h
      clear h H1
      obtain ⟨d0, d1, d2⟩ := H2.out.cells
      go_wp2_with fail
      refine (ts_itoa H2.out HT.out HSZ.out y0 HY0.out).mono ?_
      rintro e w3 ⟨rfl, h⟩
      have H3 := Lib.hid h
      clear h H2 d0 d1 d2
      go_wp2_with fail
      refine (ts_write H3.out (Lib.itoa y0) B2.out).mono ?_
      rintro e w4 ⟨⟨z3, rfl⟩, h⟩
      have H4 := Lib.hid h
      clear h H3
      go_wp2_with fail
      refine (ts_write H4.out [47] B3.out).mono ?_
      rintro e w5 ⟨⟨z4, rfl⟩, h⟩
      have H5 := Lib.hid h
      clear h H4
      obtain ⟨d0, d1, d2⟩ := H5.out.cells
      go_wp2_with fail
      refine (ts_itoa H5.out HT.out HSZ.out y1 HY1.out).mono ?_
      rintro e w6 ⟨rfl, h⟩
      have H6 := Lib.hid h
      clear h H5 d0 d1 d2
      go_wp2_with fail
      refine (ts_write H6.out (Lib.itoa y1) B4.out).mono ?_
      rintro e w7 ⟨⟨z6, rfl⟩, h⟩
      have H7 := Lib.hid h
      clear h H6
      go_wp2_with fail
      refine (ts_write H7.out [47] B5.out).mono ?_
      rintro e w8 ⟨⟨z7, rfl⟩, h⟩
      have H8 := Lib.hid h
      clear h H7
      obtain ⟨d0, d1, d2⟩ := H8.out.cells
      go_wp2_with fail
      refine (ts_fmt H8.out HT.out HSZ.out y2 HY2.out).mono ?_
      rintro e w9 ⟨rfl, h⟩
      have H9 := Lib.hid h
      clear h H8 d0 d1 d2
      go_wp2_with fail
      refine (ts_write H9.out (Lib.itoa y2) B6.out).mono ?_
      rintro e w10 ⟨⟨z9, rfl⟩, h⟩
      have H10 := Lib.hid h
      clear h H9
      rw [HACC.out] at H10
      have HX := Lib.hid H10.out.drop
      clear H10
      go_wp2_with fail
      go_roundw
      case rel => exact ⟨k + 1, by go_num, by omega, HX.out⟩
      case measure => simp [intOf]; omega
    · obtain rfl : k = n := by omega
      have HX : Hid (HD ++ itemsT (l.take k) = R) := Lib.hid (by rw [← HRR.out, HE.out, ← HN.out, List.take_length])
      rw [HX.out] at H
      clear HE HRR HX
      go_wp2_with fail
      refine (ts_string H.out).mono ?_
      rintro e w4 ⟨rfl, h⟩
      have HB := Lib.hid (HB0.out.trans (h.mono (by omega)))
      clear h
      go_wp2_with fail
      go_ret
      exact ⟨rfl, HB.out⟩
end Go.Proofs.YtandmngfajoinaaGreatDoor
