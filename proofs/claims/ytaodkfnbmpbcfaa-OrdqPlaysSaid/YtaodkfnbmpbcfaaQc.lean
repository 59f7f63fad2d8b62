/- Queues and the reference's rows: alike. -/
import Derived.Test.YtaodkfnbmpbcfaaOq
import Derived.Test.YtaodkfnbmpbcfaaQa
import Derived.BigQuiet
namespace Go.Proofs.Ytaodkfnbmpbcfaa
open Go.RowKit

/-- The slice v is a part of a row; its list is R. -/
def RSub (w : World) (v : Value) (R : List RI) : Prop :=
  ∃ A c, v = .slice A R.length c ∧ ∀ j r, R[j]? = some r → ∃ g o, A = some ⟨g, o, none⟩ ∧ g < w.heap.size ∧ w.cell? ⟨g, o + j * 3, none⟩ = some (.int .i64 r.1) ∧ w.cell? ⟨g, o + j * 3 + 1, none⟩ = some (.int .i64 r.2.1) ∧ w.cell? ⟨g, o + j * 3 + 2, none⟩ = some (.int .i64 r.2.2)
theorem RowV.sub {w : World} {v : Value} {l : List RI} (h : RowV w v l) : RSub w v l := by
  obtain ⟨A, c, rfl⟩ := h.form
  refine ⟨A, c, rfl, fun j r hj => ?_⟩
  obtain ⟨g, c', hv, hg, _, c0, c1, c2⟩ := h.get hj
  injection hv with hv1 hv2 hv3
  exact ⟨g, 0, hv1, hg, by simpa using c0, by simpa using c1, by simpa using c2⟩

/-- The same keys, the same numbers. -/
def Alike (L : List QI) (R : List RI) : Prop := R.map (fun r => (r.1, r.2.2)) = L
theorem Alike.length {L : List QI} {R : List RI} (h : Alike L R) : R.length = L.length := by rw [← h]; simp
theorem Alike.get {L : List QI} {R : List RI} (h : Alike L R) {j : Nat} {r : RI} (hr : R[j]? = some r) : L[j]? = some (r.1, r.2.2) := by rw [← h]; simp [hr]

set_option maxRecDepth 100000 in
set_option maxHeartbeats 2000000 in
theorem same4_c (v vb : Value) (L : List QI) (R : List RI) (w : World) (hv : QRow w 40 v L) (hb : RSub w vb R) (ha : Alike L R) (hL : L.length ≤ 1000000) :
    Calls Try.prog 17 #[v, vb] w fun e w' => e = .returned (.bool true) ∧ ∃ n, w' = w.drewN n := by
  obtain ⟨A, c, rfl, _⟩ := hv.form
  obtain ⟨B, d, rfl, hc⟩ := hb
  obtain ⟨n, hn⟩ : ∃ n, L.length = n := ⟨_, rfl⟩
  have hn2 : R.length = n := by rw [ha.length, hn]
  have HV := Lib.hid hv
  have HC := Lib.hid hc
  have HA := Lib.hid ha
  have HN2 := Lib.hid hn2
  rw [hn] at hL HV ⊢
  rw [hn2]
  clear hv hc ha hn hn2
  go_enter Try.func17, Try.ntmps17
  go_wp2_with fail
  go_loopw [5] (fun i wr => ∃ k nq : Nat, i = .int .i64 k ∧ k ≤ n ∧ wr = w.drewN nq) (fun i _ => n - (intOf i).toNat)
  case atStart => exact ⟨0, 0, rfl, Nat.zero_le _, rfl⟩
  case round =>
    obtain ⟨k, nq, rfl, hk, rfl⟩ := hrel
    by_cases hlt : k < n
    · have hkr : k < R.length := by rw [HN2.out]; exact hlt
      obtain ⟨r, hr⟩ : ∃ r, R[k]? = some r := ⟨_, List.getElem?_eq_getElem hkr⟩
      obtain ⟨g1, c1, hv1, _, _, a0, a1⟩ := HV.out.get (HA.out.get hr)
      obtain ⟨g2, o2, rfl, _, b0, b1, b2⟩ := HC.out k r hr
      injection hv1 with hv11 hv12 hv13
      subst hv11 hv13
      obtain ⟨x0, x1, x2⟩ := r
      simp only at a0 a1 b0 b1 b2
      have a0' : (w.drewN nq).cell? ⟨g1, k * 2, none⟩ = some (.int .i64 x0) := a0
      have a1' : (w.drewN nq).cell? ⟨g1, k * 2 + 1, none⟩ = some (.int .i64 x2) := a1
      have b0' : (w.drewN nq).cell? ⟨g2, o2 + k * 3, none⟩ = some (.int .i64 x0) := b0
      have b2' : (w.drewN nq).cell? ⟨g2, o2 + k * 3 + 2, none⟩ = some (.int .i64 x2) := b2
      have hkm : (k : Int) < (n : Int) := by omega
      have e0 : (x0 != x0) = false := by simp
      have e2 : (x2 != x2) = false := by simp
      clear hr hv12 hkr b1 HV HC HA HN2
      go_wp2_with fail
      go_quiet (fail)
      go_wp2_with fail
      go_roundw
      case rel => exact ⟨k + 1, _, by go_num, by omega, rfl⟩
      case measure => simp [intOf]; omega
    · obtain rfl : k = n := by omega
      go_wp2_with fail
      go_ret
      exact ⟨rfl, _, rfl⟩
end Go.Proofs.Ytaodkfnbmpbcfaa
