/- due: Find of the points; the average. due's queue: its calls in the words of the tasks with their days. due's queue: Seed, New. due's queue, as a law makes it. due: the law's awake. -/
import Derived.Test.YtandmngfajoinaaGreatUd4
import Derived.Test.YtandmngfajoinaaGreatSi
import Derived.Test.YtandmngfajoinaaGreatUm
namespace Go.Proofs.YtandmngfajoinaaGreat
open Go.RowKit Go.Maps

section
variable {w w' : World} {s b mp mw : Nat} {v : Value} {st base cur : Int} {L : List QI} {R : List RI}
set_option maxRecDepth 100000 in
set_option maxHeartbeats 4000000 in
theorem sfind_c (id : Int) (w : World) (h : IsS w s b mp mw v st base cur L R) (hI : hasI R id = true) :
    Calls Tryz.prog 183 #[.pointer (some ⟨s, 0, none⟩), .int .i64 id] w fun e w' => e = .returned (.tuple #[.agg #[.int .i64 id, .int .i64 (getI R id).2.1, .int .i64 (getI R id).2.2], .bool true]) ∧ Below w.heap.size w w' := by
  have hb1 : Below w.heap.size w (w.alloc (.cells #[.int .i64 0, .int .i64 0, .int .i64 0] 120)) := (Below.refl _ w).alloc (Nat.le_refl _) _
  have hnew := World.alloc_heap_new w (.cells #[.int .i64 0, .int .i64 0, .int .i64 0] 120)
  obtain ⟨w1, hw1⟩ : ∃ w1, w.alloc (.cells #[.int .i64 0, .int .i64 0, .int .i64 0] 120) = w1 := ⟨_, rfl⟩
  rw [hw1] at hb1 hnew
  have h1 := h.below hb1
  obtain ⟨-, -, c2, c3, -, -⟩ := h1.box.cells
  obtain ⟨hr, he⟩ := getI_mem hI
  have hid : wf64 id := by have := (h.id64 hr).1; rwa [he] at this
  have KK := qkey_c b mp 64 st v L id w1 h1.q hid
  rw [perm_key h.perm h.q.dist h.wf.asc id, if_pos hI] at KK
  have hrun := h1.wm.look1 (x := ((getI R id).2.1, (getI R id).1)) (mem_wL.2 ⟨_, hr, rfl, rfl⟩) (by simp only; rw [he]; exact hid)
  simp only [he] at hrun
  have KK := Lib.hid KK
  generalize (getI R id).2.1 = x1 at *
  generalize (getI R id).2.2 = x2 at *
  obtain ⟨r0, r1, r2, f0, f1, f2⟩ := zero3 hnew
  have HN := Lib.hid (And.intro hnew hb1)
  clear h h1 hb1 hnew hI hr he hid
  go_enter Tryz.func183, Tryz.ntmps183
  go_wp2_with fail
  refine KK.out.mono ?_
  rintro e w' ⟨rfl, rfl⟩
  clear KK
  go_wp2_with fail
  refine bodyPost_ret (res_box rfl _ w.heap.size #[.int .i64 id, .int .i64 x1, .int .i64 x2] (.bool true) _ rfl rfl (set3_same _ _ _ HN.out.1) Tryz.underlying120 rfl (by kernel_rfl)) rfl ?_
  exact ⟨rfl, below_set3 HN.out.2 (Nat.le_refl _) _ _ _⟩
end

/-! The average -/
theorem allW_bd : ∀ {l : List RI}, (∀ r ∈ l, 1 ≤ r.2.1 ∧ r.2.1 ≤ 20) → 0 ≤ allW l ∧ allW l ≤ 20 * (l.length : Int)
  | [], _ => by simp [allW]
  | x :: xs, h => by
    have h1 := h x (by simp)
    have ih := allW_bd (l := xs) (fun y hy => h y (by simp [hy]))
    rw [List.length_cons]
    unfold allW
    omega
theorem allW_app (a b : List RI) : allW (a ++ b) = allW a + allW b := by
  induction a with
  | nil => simp [allW]
  | cons x xs ih => rw [List.cons_append, allW, allW, ih]; omega
theorem allW_take {l : List RI} (h : ∀ r ∈ l, 1 ≤ r.2.1 ∧ r.2.1 ≤ 20) (k : Nat) : allW (l.take k) ≤ allW l := by
  have e := allW_app (l.take k) (l.drop k)
  rw [List.take_append_drop] at e
  have := (allW_bd (l := l.drop k) (fun r hr => h r (List.mem_of_mem_drop hr))).1
  omega
theorem allW_mem : ∀ {l : List RI} {r : RI}, (∀ r ∈ l, 1 ≤ r.2.1 ∧ r.2.1 ≤ 20) → r ∈ l → r.2.1 ≤ allW l
  | [], _, _, h => by cases h
  | x :: xs, r, h, hr => by
    have h1 := h x (by simp)
    have h2 := (allW_bd (l := xs) (fun y hy => h y (by simp [hy]))).1
    unfold allW
    rcases List.mem_cons.1 hr with rfl | hr
    · omega
    · have := allW_mem (l := xs) (fun y hy => h y (by simp [hy])) hr; omega
theorem who_bd {lo tot M : Int} (ht : 0 < tot) : ∀ {l : List RI}, (∀ r ∈ l, 0 ≤ r.2.2 - lo ∧ r.2.2 - lo ≤ M ∧ 0 ≤ r.2.1) → 0 ≤ whoW lo tot l ∧ whoW lo tot l ≤ M / tot * allW l
  | [], _ => by simp [whoW, allW]
  | x :: xs, h => by
    obtain ⟨h1, h2, h3⟩ := h x (by simp)
    have ih := who_bd ht (l := xs) (fun y hy => h y (by simp [hy]))
    have a1 := Int.ediv_nonneg h1 (Int.le_of_lt ht)
    have a2 := Int.ediv_le_ediv ht h2
    have a3 := Int.mul_nonneg a1 h3
    have a4 := Int.mul_le_mul_of_nonneg_right a2 h3
    unfold whoW allW
    rw [Int.mul_add]
    omega
theorem res_bd {lo tot : Int} (ht : 0 < tot) : ∀ {l : List RI}, (∀ r ∈ l, 0 ≤ r.2.1) → 0 ≤ resW lo tot l ∧ resW lo tot l ≤ tot * allW l
  | [], _ => by simp [resW, allW]
  | x :: xs, h => by
    have h3 := h x (by simp)
    have ih := res_bd (lo := lo) ht (l := xs) (fun y hy => h y (by simp [hy]))
    have a1 := Int.emod_nonneg (x.2.2 - lo) (show tot ≠ 0 by omega)
    have a2 := Int.emod_lt_of_pos (x.2.2 - lo) ht
    have a3 := Int.mul_nonneg a1 h3
    have a4 := Int.mul_le_mul_of_nonneg_right (Int.le_of_lt a2) h3
    unfold resW allW
    rw [Int.mul_add]
    omega
theorem take_snocR {l : List RI} {k : Nat} {x : RI} (h : l[k]? = some x) : l.take (k + 1) = l.take k ++ [x] := by rw [List.take_add_one, h]; rfl

set_option maxRecDepth 100000 in
set_option maxHeartbeats 8000000 in
theorem uavg_c (g n c : Nat) (lo : Int) (l : List RI) (r0 : RI) (w : World) (hn : l.length = n) (hl : n ≤ 64) (hr : TRow w (some ⟨g, 0, none⟩) l) (h0 : l[0]? = some r0) (hlo : r0.2.2 = lo)
    (hb : ∀ r ∈ l, lo ≤ r.2.2 ∧ r.2.2 ≤ 4000000000000000000 ∧ 1 ≤ r.2.1 ∧ r.2.1 ≤ 20) (hm : -4000000000000000000 ≤ lo) :
    Calls Tryz.prog 187 #[.slice (some ⟨g, 0, none⟩) n c] w (Ret10 (.int .i64 (avgW lo l)) w) := by
  have hlen0 : 0 < n := by rw [← hn]; exact (List.getElem?_eq_some_iff.1 h0).1
  have hw20 : ∀ r ∈ l, 1 ≤ r.2.1 ∧ r.2.1 ≤ 20 := fun r hr => (hb r hr).2.2
  obtain ⟨tot, htot⟩ : ∃ tot, allW l = tot := ⟨_, rfl⟩
  have ht0 : 1 ≤ tot := by
    have h1 := allW_mem hw20 (List.mem_of_getElem? h0)
    have h2 := (hw20 _ (List.mem_of_getElem? h0)).1
    omega
  have ht1 : tot ≤ 1280 := by have := (allW_bd hw20).2; rw [hn] at this; omega
  have hlom : lo ≤ 4000000000000000000 := by have := hb r0 (List.mem_of_getElem? h0); omega
  have WB : Hid (∀ k, 0 ≤ whoW lo tot (l.take k) ∧ whoW lo tot (l.take k) ≤ 4000000000000000000 - lo ∧ 0 ≤ resW lo tot (l.take k) ∧ resW lo tot (l.take k) ≤ 1638400) := Lib.hid (fun k => by
    have a1 := who_bd (lo := lo) (tot := tot) (M := 4000000000000000000 - lo) (by omega) (l := l.take k) (fun r hr => by have := hb r (List.mem_of_mem_take hr); omega)
    have a2 := res_bd (lo := lo) (tot := tot) (by omega) (l := l.take k) (fun r hr => by have := hw20 r (List.mem_of_mem_take hr); omega)
    have a3 := allW_take hw20 k
    have a4 := (allW_bd (l := l.take k) (fun r hr => hw20 r (List.mem_of_mem_take hr))).1
    rw [htot] at a3
    have a5 := Int.mul_le_mul_of_nonneg_left a3 (Int.ediv_nonneg (show 0 ≤ 4000000000000000000 - lo by omega) (show 0 ≤ tot by omega))
    have a6 := Int.ediv_mul_le (4000000000000000000 - lo) (show tot ≠ 0 by omega)
    have a7 := Int.mul_le_mul_of_nonneg_left a3 (show 0 ≤ tot by omega)
    have a8 := Int.mul_le_mul_of_nonneg_left ht1 (show 0 ≤ tot by omega)
    omega)
  have HAV : Hid (avgW lo l = lo + whoW lo tot l + resW lo tot l / tot) := Lib.hid (by unfold avgW; rw [htot])
  have HR := Lib.hid hr
  have HN := Lib.hid (And.intro hn (And.intro h0 hlo))
  have HB := Lib.hid hb
  have HTOT := Lib.hid htot
  have HWA : Hid (∀ k, 0 ≤ allW (l.take k) ∧ allW (l.take k) ≤ 1280) := Lib.hid (fun k => by
    have a3 := allW_take hw20 k
    have a4 := (allW_bd (l := l.take k) (fun r hr => hw20 r (List.mem_of_mem_take hr))).1
    omega)
  obtain ⟨AV, hAV⟩ : ∃ AV, avgW lo l = AV := ⟨_, rfl⟩
  rw [hAV] at HAV ⊢
  clear hn hr h0 hlo hb hw20 htot hAV
  go_enter Tryz.func187, Tryz.ntmps187
  go_wp2_with fail
  go_loopw [3, 14] (fun s i wr => ∃ (k : Nat) (z : Int), i = .int .i64 k ∧ s = .int .i64 z ∧ k ≤ n ∧ allW (l.take k) = z ∧ Below w.heap.size w wr) (fun _ i _ => n - (intOf i).toNat)
  case atStart => exact ⟨0, 0, rfl, rfl, Nat.zero_le _, rfl, Below.refl _ _⟩
  case round =>
    obtain ⟨k, z, rfl, rfl, hk, hz, hbw⟩ := hrel
    have HZ := Lib.hid hz
    have HBW := Lib.hid hbw
    have hzb := HWA.out k
    rw [hz] at hzb
    obtain ⟨hz1, hz2⟩ := hzb
    clear hz hbw
    by_cases hlt : k < n
    · obtain ⟨y, hx⟩ : ∃ y, l[k]? = some y := ⟨_, List.getElem?_eq_getElem (by rw [HN.out.1]; exact hlt)⟩
      obtain ⟨ad, he, c0, c1, c2⟩ := (HR.out.below HBW.out (Nat.le_refl _)).at hx
      obtain rfl := Option.some.inj he
      have hyw := (HB.out y (List.mem_of_getElem? hx)).2.2
      have HX : Hid (allW (l.take (k + 1)) = allW (l.take k) + y.2.1) := Lib.hid (by rw [take_snocR hx, allW_snoc])
      have HB1 := Lib.hid (HBW.out.alloc HBW.out.size (.cells #[.int .i64 y.1, .int .i64 y.2.1, .int .i64 y.2.2] 120))
      obtain ⟨y0, y1, y2⟩ := y
      simp only at c0 c1 c2 hyw HX HB1
      rw [addr_add] at c0 c1 c2
      simp only [Nat.zero_add] at c0 c1 c2
      have hw1 : IntKind.i64.wrap (z + y1) = z + y1 := by rw [IntKind.wrap_i64]; omega
      have hkn : (k : Int) < (n : Int) := by omega
      clear hx hyw
      go_wp2_with fail
      go_roundw
      case rel => exact ⟨k + 1, z + y1, by go_num, rfl, by omega, by rw [HX.out, HZ.out], HB1.out⟩
      case measure => simp [intOf]; omega
    · obtain rfl : k = n := by omega
      obtain rfl : z = tot := by rw [← HZ.out, ← HTOT.out, ← HN.out.1, List.take_length]
      obtain ⟨ad, he, c0, c1, c2⟩ := (HR.out.below HBW.out (Nat.le_refl _)).at HN.out.2.1
      obtain rfl := Option.some.inj he
      rw [HN.out.2.2] at c2
      rw [addr_add] at c2
      simp only [Nat.zero_add, Nat.zero_mul] at c2
      have hkn0 : (0 : Int) < (k : Int) := by omega
      have hnn : decide ((k : Int) < (k : Int)) = false := by simp
      have htz : (z == 0) = false := by simp; omega
      have HBR := Lib.hid HBW.out
      clear c0 c1 hlt HZ HWA
      go_wp2_with fail
      go_loopw [7, 8, 29] (fun a b i w2 => ∃ (j : Nat) (p q : Int), i = .int .i64 j ∧ a = .int .i64 p ∧ b = .int .i64 q ∧ j ≤ k ∧ whoW lo z (l.take j) = p ∧ resW lo z (l.take j) = q ∧ Below w.heap.size w w2) (fun _ _ i _ => k - (intOf i).toNat)
      case atStart => exact ⟨0, 0, 0, rfl, rfl, rfl, Nat.zero_le _, rfl, rfl, HBR.out⟩
      case round =>
        obtain ⟨j, p, q, rfl, rfl, rfl, hj, hp, hq, hbw⟩ := hrel
        have HP := Lib.hid (And.intro hp hq)
        have HB2 := Lib.hid hbw
        have hpb := WB.out j
        rw [hp, hq] at hpb
        obtain ⟨p1, p2, q1, q2⟩ := hpb
        clear hp hq hbw c2
        by_cases hlt : j < k
        · obtain ⟨y, hx⟩ : ∃ y, l[j]? = some y := ⟨_, List.getElem?_eq_getElem (by rw [HN.out.1]; exact hlt)⟩
          obtain ⟨ad, he, c0, c1, c2⟩ := (HR.out.below HB2.out (Nat.le_refl _)).at hx
          obtain rfl := Option.some.inj he
          have hy := HB.out y (List.mem_of_getElem? hx)
          have e1 : whoW lo z (l.take (j + 1)) = p + (y.2.2 - lo) / z * y.2.1 := by rw [take_snocR hx, whoW_snoc, HP.out.1]
          have e2 : resW lo z (l.take (j + 1)) = q + (y.2.2 - lo) % z * y.2.1 := by rw [take_snocR hx, resW_snoc, HP.out.2]
          have hnb := WB.out (j + 1)
          rw [e1, e2] at hnb
          have HE := Lib.hid (And.intro e1 e2)
          obtain ⟨y0, y1, y2⟩ := y
          simp only at c0 c1 c2 hy hnb HE
          rw [addr_add] at c0 c1 c2
          simp only [Nat.zero_add] at c0 c1 c2
          have a1 := Int.ediv_nonneg (show 0 ≤ y2 - lo by omega) (show 0 ≤ z by omega)
          have a2 := Int.emod_nonneg (y2 - lo) (show z ≠ 0 by omega)
          have a3 := Int.emod_lt_of_pos (y2 - lo) (show 0 < z by omega)
          have a4 := Int.mul_nonneg a1 (show 0 ≤ y1 by omega)
          have a5 := Int.mul_nonneg a2 (show 0 ≤ y1 by omega)
          have a6 := Int.ediv_le_self z (show 0 ≤ y2 - lo by omega)
          have t1 : (y2 - lo).tdiv z = (y2 - lo) / z := Int.tdiv_eq_ediv_of_nonneg (by omega)
          have t2 : (y2 - lo).tmod z = (y2 - lo) % z := Int.tmod_eq_emod_of_nonneg (by omega)
          have hkn : (j : Int) < (k : Int) := by omega
          obtain ⟨wb, hwb⟩ : ∃ wb, wr.alloc (.cells #[.int .i64 y0, .int .i64 y1, .int .i64 y2] 120) = wb := ⟨_, rfl⟩
          have HB3 : Hid (Below w.heap.size w wb) := Lib.hid (by rw [← hwb]; exact HB2.out.alloc HB2.out.size _)
          have hbx : TaAt wb wr.heap.size (y0, y1, y2) := by rw [← hwb]; exact heap_alloc_new wr _
          obtain ⟨b0, b1, b2⟩ := hbx.cells
          simp only at b0 b1 b2
          have hw1 : IntKind.i64.wrap (y2 - lo) = y2 - lo := by rw [IntKind.wrap_i64]; omega
          obtain ⟨dq, hdq⟩ : ∃ dq, (y2 - lo) / z = dq := ⟨_, rfl⟩
          obtain ⟨dr, hdr⟩ : ∃ dr, (y2 - lo) % z = dr := ⟨_, rfl⟩
          rw [hdq] at a1 a4 a6 t1 hnb HE
          rw [hdr] at a2 a3 a5 t2 hnb HE
          obtain ⟨mq, hmq⟩ : ∃ mq, dq * y1 = mq := ⟨_, rfl⟩
          obtain ⟨mr, hmr⟩ : ∃ mr, dr * y1 = mr := ⟨_, rfl⟩
          rw [hmq] at a4 hnb HE
          rw [hmr] at a5 hnb HE
          have hw2 : IntKind.i64.wrap dq = dq := by rw [IntKind.wrap_i64]; omega
          have hw3 : IntKind.i64.wrap dr = dr := by rw [IntKind.wrap_i64]; omega
          have hw4 : IntKind.i64.wrap mq = mq := by rw [IntKind.wrap_i64]; omega
          have hw5 : IntKind.i64.wrap mr = mr := by rw [IntKind.wrap_i64]; omega
          have hw6 : IntKind.i64.wrap (p + mq) = p + mq := by rw [IntKind.wrap_i64]; omega
          have hw7 : IntKind.i64.wrap (q + mr) = q + mr := by rw [IntKind.wrap_i64]; omega
          clear hx hy e1 e2 hnb a1 a2 a3 a4 a5 a6
          clear hbx b0
          go_wp2_with fail
          go_big_quiet (fail)
          obtain ⟨wc, hwc⟩ : ∃ wc, wb.drewN nq = wc := ⟨_, rfl⟩
          have b3 : wc.cell? ⟨wr.heap.size, 1, none⟩ = some (.int .i64 y1) := by rw [← hwc]; exact b1
          have HB4 : Hid (Below w.heap.size w wc) := Lib.hid (by rw [← hwc]; exact below_drewN HB3.out nq)
          rw [hwc]
          clear hwb hwc b1 b2 HB3
          go_wp2_with fail
          go_big_quiet (fail)
          have HB5 := Lib.hid (below_drewN HB4.out nq)
          clear b3 HB4
          go_wp2_with fail
          go_roundw
          case rel => exact ⟨j + 1, p + mq, q + mr, by go_num, rfl, rfl, by omega, HE.out.1, HE.out.2, HB5.out⟩
          case measure => simp [intOf]; omega
        · obtain rfl : j = k := by omega
          have hpe : whoW lo z l = p ∧ resW lo z l = q := by
            have h := HP.out
            rwa [List.take_of_length_le (by rw [HN.out.1]; exact Nat.le_refl _)] at h
          have hav := HAV.out
          rw [hpe.1, hpe.2] at hav
          have t3 : q.tdiv z = q / z := Int.tdiv_eq_ediv_of_nonneg q1
          have a1 := Int.ediv_nonneg q1 (show 0 ≤ z by omega)
          have a2 := Int.ediv_le_self z q1
          obtain ⟨dq, hdq⟩ : ∃ dq, q / z = dq := ⟨_, rfl⟩
          rw [hdq] at t3 a1 a2 hav
          have hw1 : IntKind.i64.wrap (lo + p) = lo + p := by rw [IntKind.wrap_i64]; omega
          have hw2 : IntKind.i64.wrap dq = dq := by rw [IntKind.wrap_i64]; omega
          have hw3 : IntKind.i64.wrap (lo + p + dq) = lo + p + dq := by rw [IntKind.wrap_i64]; omega
          have HA := Lib.hid hav
          clear hpe hav a1 a2
          go_wp2_with fail
          go_ret
          exact ⟨ret_i HA.out.symm, HB2.out⟩
end Go.Proofs.YtandmngfajoinaaGreat

namespace Go.Proofs.YtandmngfajoinaaGreat
open Go.RowKit Go.Maps

/-- Block o is a queue of the tasks T; A: its blocks; its steps at most st. -/
def IsU (w : World) (o : Nat) (A : Nat → Prop) (st base cur : Int) (T : List TI) : Prop :=
  ∃ s d D, IsP w o A s d st base cur (cutL T) D ∧ D.Perm (dL T) ∧ DayOk T
/-- What is left behind a call. -/
def UPost (o : Nat) (A : Nat → Prop) (st base cur : Int) (T : List TI) (K : Nat) (w w' : World) : Prop :=
  ∃ A', IsU w' o A' (st + (K : Int)) base cur T ∧ Trip A w A' w'
section
variable {w w' : World} {o : Nat} {A : Nat → Prop} {st base cur : Int} {T : List TI}
theorem IsU.wf (h : IsU w o A st base cur T) : WfS base cur (cutL T) := by
  obtain ⟨s, d, D, h1, _⟩ := h
  exact h1.wf
theorem IsU.day (h : IsU w o A st base cur T) : DayOk T := by
  obtain ⟨s, d, D, h1, h2, h3⟩ := h
  exact h3
theorem IsU.lt (h : IsU w o A st base cur T) : ∀ k, A k → k < w.heap.size := by
  obtain ⟨s, d, D, h1, _⟩ := h
  exact h1.lt
theorem IsU.keep (h : IsU w o A st base cur T) (hs : ∀ k, A k → w'.heap[k]? = w.heap[k]?) : IsU w' o A st base cur T := by
  obtain ⟨s, d, D, h1, h2⟩ := h
  exact ⟨s, d, D, h1.keep hs, h2⟩
theorem IsU.below (h : IsU w o A st base cur T) (hb : Below w.heap.size w w') : IsU w' o A st base cur T := h.keep (fun k hk => hb.block k (h.lt k hk))
theorem IsU.self (h : IsU w o A st base cur T) (hb : Below w.heap.size w w') : Trip A w A w' := below_trip hb h.lt
theorem IsU.weak (h : IsU w o A st base cur T) {st' : Int} (hs : st ≤ st') : IsU w o A st' base cur T := by
  obtain ⟨s, d, D, h1, h2⟩ := h
  exact ⟨s, d, D, h1.weak hs, h2⟩
theorem UPost.same {K : Nat} (h : IsU w o A st base cur T) (hb : Below w.heap.size w w') : UPost o A st base cur T K w w' :=
  ⟨A, (h.below hb).weak (by omega), h.self hb⟩
theorem UPost.of {s d : Nat} {base' cur' : Int} {T' : List TI} {D' : List RI} {K K2 : Nat} (hP : PPost o A s d st base' cur' (cutL T') D' K w w') (hk : K ≤ K2) (hp : D'.Perm (dL T')) (hd : DayOk T') : UPost o A st base' cur' T' K2 w w' := by
  obtain ⟨A', hq, ht⟩ := hP
  exact ⟨A', ⟨s, d, D', hq.weak (by omega), hp, hd⟩, ht⟩

/-- The first of a list in the order of the points. -/
theorem ord_first {L : List QI} {R : List RI} (ho : Ord L) {r0 r : RI} (h0 : (L.map (itF R))[0]? = some r0) (hr : r ∈ L.map (itF R)) : r0.2.2 ≤ r.2.2 := by
  cases L with
  | nil => simp at hr
  | cons x xs =>
    simp at h0
    subst h0
    rw [List.map_cons] at hr
    rcases List.mem_cons.1 hr with rfl | hr
    · exact Int.le_refl _
    · obtain ⟨y, hy, rfl⟩ := List.mem_map.1 hr
      have := bef_yes.1 ((List.pairwise_cons.1 ho).1 y hy)
      show x.1 ≤ y.1
      omega

set_option maxRecDepth 100000 in
set_option maxHeartbeats 4000000 in
theorem sput_k (x0 x1 x2 : Int) (w : World) (h : IsU w o A st base cur T) (b1 : -3900000000000000000 ≤ base) (b2 : base ≤ 3900000000000000000) (s1 : 0 ≤ st) (s2 : st < 10000000000000) :
    Calls Tryz.prog 181 #[.pointer (some ⟨o, 0, none⟩), .int .i64 x0, .int .i64 x1, .int .i64 x2] w fun e w' => e = .returned (.int .i64 (putU base T (x0, x1, x2)).1) ∧ UPost o A st (putU base T (x0, x1, x2)).2.1 cur (putU base T (x0, x1, x2)).2.2 24 w w' := by
  have hday := put_day (base := base) h.day (x0, x1, x2)
  obtain ⟨s, d, D, h1, h2, h3⟩ := h
  have hwf := h1.wf
  have hD : D.length ≤ 64 := by rw [h2.length_eq, length_dL]; exact len_of hwf
  obtain ⟨c0, -⟩ := h1.box.cells
  have hc := put_cut base T (x0, x1, x2)
  have K := p_s (Q := fun e => e = .returned (.int .i64 (putM base (cutL T) (x0, x1, x2)).1)) (K := 8) h1 (fun b mp mw v st1 L hS a0 a1 => sput_c x0 x1 x2 w hS b1 b2 a0 (by omega))
  rw [hc] at K
  have K := Lib.hid K
  by_cases hz : (putU base T (x0, x1, x2)).1 = 0
  · -- it is in
    have hm : itemB (x0, x1, x2) = true ∧ hasI (cutL T) x0 = false ∧ T.length < 64 ∧ putU base T (x0, x1, x2) = (0, raiseM base (cutL (insTT T (newU base (x0, x1, x2)))), insTT T (newU base (x0, x1, x2))) := by
      unfold putU at hz ⊢
      by_cases i1 : itemB (x0, x1, x2) = true
      · rw [if_pos i1] at hz ⊢
        by_cases i2 : hasI (cutL T) x0 = true
        · rw [if_pos i2] at hz; cases hz
        · rw [if_neg i2] at hz ⊢
          by_cases i3 : 64 ≤ T.length
          · rw [if_pos i3] at hz; cases hz
          · rw [if_neg i3]
            exact ⟨i1, by simpa using i2, by omega, rfl⟩
      · rw [if_neg i1] at hz; cases hz
    obtain ⟨i1, i2, i3, e⟩ := hm
    rw [e] at K hday ⊢
    simp only at K hday ⊢
    have hi := itemB_true.1 i1
    simp only at hi
    obtain ⟨T', hT'⟩ : ∃ T', insTT T (newU base (x0, x1, x2)) = T' := ⟨_, rfl⟩
    have hx : newU base (x0, x1, x2) ∈ T' := by rw [← hT']; exact mem_insTT.2 (.inl rfl)
    have hperm : (dL T').Perm (dayI (newU base (x0, x1, x2)) :: dL T) := by rw [← hT']; exact dL_ins _ _
    rw [hT'] at K hday ⊢
    have hnoD : ∀ z ∈ qL D, z.2 ≠ x0 := fun z hz he => by
      obtain ⟨r, hr, rfl⟩ := mem_qL.1 hz
      obtain ⟨y, hy, rfl⟩ := mem_dL.1 (h2.mem_iff.1 hr)
      exact hasU_no.1 i2 y hy he
    have hDl : D.length < 64 := by rw [h2.length_eq, length_dL]; exact i3
    generalize raiseM base (cutL T') = b' at *
    -- Find, renew
    have KF : Hid (∀ W A1, IsP W o A1 s d (st + (8 : Nat)) b' cur (cutL T') D → Calls Tryz.prog 183 #[.pointer (some ⟨s, 0, none⟩), .int .i64 x0] W fun e w' => e = .returned (.tuple #[.agg #[.int .i64 x0, .int .i64 x1, .int .i64 (base - x2)], .bool true]) ∧ Below W.heap.size W w') := Lib.hid (fun W A1 hP => by
      have hI : hasI (cutL T') x0 = true := hasU_iff.2 ⟨_, hx, rfl⟩
      have hg : getI (cutL T') x0 = (x0, x1, base - x2) := getI_of hP.wf.asc (cut_mem hx)
      have := p_read hP (fun b mp mw v st1 L hS => sfind_c x0 W hS hI)
      rw [hg] at this
      exact this)
    have KR : Hid (∀ W A1, IsP W o A1 s d (st + (8 : Nat)) b' cur (cutL T') D → Calls Tryz.prog 65 #[.pointer (some ⟨o, 0, none⟩), .agg #[.int .i64 x0, .int .i64 x1, .int .i64 (base - x2)]] W fun e w' => e = .returned (.tuple #[]) ∧ UPost o A1 (st + (8 : Nat)) b' cur T' 16 W w') := Lib.hid (fun W A1 hP => by
      refine (urenew_c x0 x1 (base - x2) W hP hi.1 hi.2.1 (by omega) (by omega) hD (by rw [filter_not hnoD]; exact hDl) (by omega)).mono ?_
      rintro e w' ⟨he, D', hp, hP'⟩
      rw [filter_not hnoD] at hp
      exact ⟨he, UPost.of hP' (Nat.le_refl _) (hp.trans ((h2.cons _).trans hperm.symm)) hday⟩)
    clear h1 h2 h3 hwf hD hc hz i1 i2 i3 e hi hx hperm hnoD hDl hday hT' b1 b2 s1 s2
    go_enter Tryz.func181, Tryz.ntmps181
    go_wp2_with fail
    refine K.out.mono ?_
    rintro e w1 ⟨rfl, A1, hq1, ht1⟩
    have H1 := Lib.hid (And.intro hq1 ht1)
    obtain ⟨c1, -⟩ := hq1.box.cells
    have K2 := Lib.hid (KF.out _ _ hq1)
    clear hq1 ht1 K KF c0
    go_wp2_with fail
    refine K2.out.mono ?_
    rintro e w2 ⟨rfl, hb2⟩
    have hb3 := hb2.alloc hb2.size (.cells #[.int .i64 x0, .int .i64 x1, .int .i64 (base - x2)] 120)
    have K3 := Lib.hid (KR.out _ _ (H1.out.1.below hb3))
    have HB := Lib.hid (H1.out.1.self hb3)
    clear hb2 hb3 K2 KR
    go_wp2_with fail
    refine K3.out.mono ?_
    rintro e w4 ⟨rfl, A2, hq2, ht2⟩
    have HP := Lib.hid (show UPost o A st b' cur T' 24 w w4 from ⟨A2, hq2.weak (by omega), H1.out.2.trans (HB.out.trans ht2)⟩)
    clear hq2 ht2 K3
    go_wp2_with fail
    go_ret
    exact ⟨rfl, HP.out⟩
  · have hm : (putU base T (x0, x1, x2)).2 = (base, T) := by
      unfold putU at hz ⊢
      by_cases i1 : itemB (x0, x1, x2) = true
      · rw [if_pos i1] at hz ⊢
        by_cases i2 : hasI (cutL T) x0 = true
        · rw [if_pos i2]
        · rw [if_neg i2] at hz ⊢
          by_cases i3 : 64 ≤ T.length
          · rw [if_pos i3]
          · rw [if_neg i3] at hz; exact absurd rfl hz
      · rw [if_neg i1]
    rw [hm] at K ⊢
    simp only at K ⊢
    generalize (putU base T (x0, x1, x2)).1 = r at *
    have hne : (r != 0) = true := by simp [hz]
    have POST := Lib.hid (fun w' (hP : PPost o A s d st base cur (cutL T) D 8 w w') => UPost.of (K2 := 24) hP (by omega) h2 h3)
    clear h1 h2 h3 hwf hD hc hz hm hday b1 b2 s1 s2
    go_enter Tryz.func181, Tryz.ntmps181
    go_wp2_with fail
    refine K.out.mono ?_
    rintro e w1 ⟨rfl, hP⟩
    have HP := Lib.hid (POST.out _ hP)
    clear hP K POST
    go_wp2_with fail
    go_ret
    exact ⟨rfl, HP.out⟩

set_option maxRecDepth 100000 in
set_option maxHeartbeats 4000000 in
theorem senter_k (x0 x1 x2 : Int) (w : World) (h : IsU w o A st base cur T) (b1 : -3900000000000000000 ≤ base) (b2 : base ≤ 3900000000000000000) (s1 : 0 ≤ st) (s2 : st < 10000000000000) :
    Calls Tryz.prog 177 #[.pointer (some ⟨o, 0, none⟩), .int .i64 x0, .int .i64 x1, .int .i64 x2] w fun e w' => e = .returned (.int .i64 (enterU base T (x0, x1, x2)).1) ∧ UPost o A st (enterU base T (x0, x1, x2)).2.1 cur (enterU base T (x0, x1, x2)).2.2 24 w w' := by
  have POST := Lib.hid (UPost.same (K := 24) h (Below.refl _ w))
  have KG := Lib.hid (goodlag_c x2 w)
  have KP := Lib.hid (fun z => sput_k x0 x1 z w h b1 b2 s1 s2)
  have e1 : Hid (lagB x2 = false → enterU base T (x0, x1, x2) = (1, base, T)) := Lib.hid (fun hc => by
    unfold enterU
    rw [hc, if_neg (by decide)])
  have e2 : Hid (lagB x2 = true → enterU base T (x0, x1, x2) = putU base T (x0, x1, min (max x2 (-698377680)) 698377680)) := Lib.hid (fun hc => by
    unfold enterU
    rw [hc, if_pos rfl])
  generalize enterU base T (x0, x1, x2) = M at *
  clear h b1 b2 s1 s2
  cases hL : lagB x2 with
  | false =>
    have e := e1.out hL
    subst e
    rw [hL] at KG
    clear KP e1 e2 hL
    go_enter Tryz.func177, Tryz.ntmps177
    go_wp2_with fail
    refine KG.out.mono ?_
    rintro e w' ⟨rfl, rfl⟩
    go_wp2_with fail
    go_ret
    exact ⟨rfl, POST.out⟩
  | true =>
    have e := e2.out hL
    subst e
    rw [hL] at KG
    clear e1 e2 hL POST
    go_enter Tryz.func177, Tryz.ntmps177
    go_wp2_with fail
    refine KG.out.mono ?_
    rintro e w' ⟨rfl, rfl⟩
    go_wp2_with fail
    refine (KP.out _).mono ?_
    rintro e w' ⟨rfl, hP⟩
    have HP := Lib.hid hP
    clear hP KP KG
    go_wp2_with fail
    go_ret
    exact ⟨rfl, HP.out⟩

set_option maxRecDepth 100000 in
set_option maxHeartbeats 4000000 in
theorem sweigh_k (id n : Int) (w : World) (h : IsU w o A st base cur T) (hid : wf64 id) (hn : wf64 n) (s1 : 0 ≤ st) (s2 : st < 10000000000000) :
    Calls Tryz.prog 182 #[.pointer (some ⟨o, 0, none⟩), .int .i64 id, .int .i64 n] w fun e w' => e = .returned (.int .i64 (weighU T id n).1) ∧ UPost o A st base cur (weighU T id n).2 16 w w' := by
  obtain ⟨s, d, D, h1, h2, h3⟩ := h
  have hwf := h1.wf
  have hD : D.length ≤ 64 := by rw [h2.length_eq, length_dL]; exact len_of hwf
  obtain ⟨c0, -⟩ := h1.box.cells
  have K := p_s (Q := fun e => e = .returned (.int .i64 (weighM (cutL T) id n).1)) (K := 0) h1 (fun b mp mw v st1 L hS a0 a1 => sweigh_c id n w hS hid hn)
  rw [weigh_cut] at K
  have K := Lib.hid K
  by_cases hz : hasI (cutL T) id = true ∧ goodB n = true
  · obtain ⟨i1, i2⟩ := hz
    have e : weighU T id n = (0, updU T id (weiT n)) := by unfold weighU; rw [if_pos i1, if_pos i2]
    rw [e] at K ⊢
    simp only at K ⊢
    obtain ⟨hm, he⟩ := getU_mem i1
    obtain ⟨x, hx⟩ : ∃ x, getU T id = x := ⟨_, rfl⟩
    rw [hx] at hm he
    subst he
    have hex := hwf.each _ (cut_mem hm)
    have q1 : (cutT x).1 = x.1 := rfl
    have q2 : (cutT x).2.2 = x.2.2.1 := rfl
    rw [q1, q2] at hex
    obtain ⟨T', hT'⟩ : ∃ T', updU T x.1 (weiT n) = T' := ⟨_, rfl⟩
    have hperm : (dL T').Perm ((x.2.2.1, x.2.2.1 + 4 * stepV n, x.1) :: (dL T).filter (notI x.1)) := by rw [← hT']; exact dL_upd hwf.asc hm (weiT n)
    have hday : DayOk T' := by rw [← hT']; exact h3.upd (fun z _ _ => wei_day i2)
    have hx' : weiT n x ∈ T' := by rw [← hT']; exact (updU_perm hwf.asc hm (weiT n)).mem_iff.2 (by simp)
    have hxD : dayI x ∈ D := h2.mem_iff.2 (mem_dL.2 ⟨x, hm, rfl⟩)
    have hfl := not_less hxD hD
    have q3 : (dayI x).2.2 = x.1 := rfl
    rw [q3] at hfl
    rw [hT'] at K ⊢
    have KF : Hid (∀ W A1, IsP W o A1 s d (st + (0 : Nat)) base cur (cutL T') D → Calls Tryz.prog 183 #[.pointer (some ⟨s, 0, none⟩), .int .i64 x.1] W fun e w' => e = .returned (.tuple #[.agg #[.int .i64 x.1, .int .i64 n, .int .i64 x.2.2.1], .bool true]) ∧ Below W.heap.size W w') := Lib.hid (fun W A1 hP => by
      have hI : hasI (cutL T') x.1 = true := hasU_iff.2 ⟨_, hx', rfl⟩
      have hg : getI (cutL T') x.1 = (x.1, n, x.2.2.1) := getI_of hP.wf.asc (cut_mem hx')
      have := p_read hP (fun b mp mw v st1 L hS => sfind_c x.1 W hS hI)
      rw [hg] at this
      exact this)
    have KR : Hid (∀ W A1, IsP W o A1 s d (st + (0 : Nat)) base cur (cutL T') D → Calls Tryz.prog 65 #[.pointer (some ⟨o, 0, none⟩), .agg #[.int .i64 x.1, .int .i64 n, .int .i64 x.2.2.1]] W fun e w' => e = .returned (.tuple #[]) ∧ UPost o A1 (st + (0 : Nat)) base cur T' 16 W w') := Lib.hid (fun W A1 hP => by
      refine (urenew_c x.1 n x.2.2.1 W hP hex.1 hex.2.1 hex.2.2.2.2.1 hex.2.2.2.2.2 hD hfl (by omega)).mono ?_
      rintro e w' ⟨he, D', hp, hP'⟩
      exact ⟨he, UPost.of hP' (Nat.le_refl _) (hp.trans (((h2.filter _).cons _).trans hperm.symm)) hday⟩)
    obtain ⟨x0, x1, x2, x3⟩ := x
    simp only at KF KR K hid ⊢
    clear h1 h2 h3 hwf hD i1 i2 e hm hx hex q1 q2 q3 hperm hday hx' hxD hfl hT' s1 s2
    go_enter Tryz.func182, Tryz.ntmps182
    go_wp2_with fail
    refine K.out.mono ?_
    rintro e w1 ⟨rfl, A1, hq1, ht1⟩
    have H1 := Lib.hid (And.intro hq1 ht1)
    obtain ⟨c1, -⟩ := hq1.box.cells
    have K2 := Lib.hid (KF.out _ _ hq1)
    clear hq1 ht1 K KF c0
    go_wp2_with fail
    refine K2.out.mono ?_
    rintro e w2 ⟨rfl, hb2⟩
    have hb3 := hb2.alloc hb2.size (.cells #[.int .i64 x0, .int .i64 n, .int .i64 x2] 120)
    have K3 := Lib.hid (KR.out _ _ (H1.out.1.below hb3))
    have HB := Lib.hid (H1.out.1.self hb3)
    clear hb2 hb3 K2 KR
    go_wp2_with fail
    refine K3.out.mono ?_
    rintro e w4 ⟨rfl, A2, hq2, ht2⟩
    have HP := Lib.hid (show UPost o A st base cur T' 16 w w4 from ⟨A2, hq2.weak (by omega), H1.out.2.trans (HB.out.trans ht2)⟩)
    clear hq2 ht2 K3
    go_wp2_with fail
    go_ret
    exact ⟨rfl, HP.out⟩
  · have hm : (weighU T id n).2 = T ∧ (weighU T id n).1 ≠ 0 := by
      unfold weighU
      by_cases i1 : hasI (cutL T) id = true
      · rw [if_pos i1]
        by_cases i2 : goodB n = true
        · exact absurd ⟨i1, i2⟩ hz
        · rw [if_neg i2]; exact ⟨rfl, show (1 : Int) ≠ 0 by decide⟩
      · rw [if_neg i1]; exact ⟨rfl, show (2 : Int) ≠ 0 by decide⟩
    obtain ⟨hm, hne'⟩ := hm
    rw [hm] at K ⊢
    generalize (weighU T id n).1 = r at *
    have hne : (r != 0) = true := by simp [hne']
    have POST := Lib.hid (fun w' (hP : PPost o A s d st base cur (cutL T) D 0 w w') => UPost.of (K2 := 16) hP (by omega) h2 h3)
    clear h1 h2 h3 hwf hD hz hm hne' s1 s2
    go_enter Tryz.func182, Tryz.ntmps182
    go_wp2_with fail
    refine K.out.mono ?_
    rintro e w1 ⟨rfl, hP⟩
    have HP := Lib.hid (POST.out _ hP)
    clear hP K POST
    go_wp2_with fail
    go_ret
    exact ⟨rfl, HP.out⟩

set_option maxRecDepth 100000 in
set_option maxHeartbeats 4000000 in
theorem sleave_k (id : Int) (w : World) (h : IsU w o A st base cur T) (hid : wf64 id) (s1 : 0 ≤ st) (s2 : st < 10000000000000) :
    Calls Tryz.prog 179 #[.pointer (some ⟨o, 0, none⟩), .int .i64 id] w fun e w' => e = .returned (.tuple #[.int .i64 (leaveU base cur T id).1, .int .i64 (leaveU base cur T id).2.1]) ∧ UPost o A st (leaveU base cur T id).2.2.1 (leaveU base cur T id).2.2.2.1 (leaveU base cur T id).2.2.2.2 24 w w' := by
  obtain ⟨s, d, D, h1, h2, h3⟩ := h
  have hwf := h1.wf
  have hD : D.length ≤ 64 := by rw [h2.length_eq, length_dL]; exact len_of hwf
  obtain ⟨c0, c1⟩ := h1.box.cells
  have K := Lib.hid (p_drop id h1 hid hD (by omega))
  have KL : Hid (∀ W A1 D1, IsP W o A1 s d (st + (8 : Nat)) base cur (cutL T) D1 → D1.Perm (D.filter (notI id)) → Calls Tryz.prog 134 #[.pointer (some ⟨s, 0, none⟩), .int .i64 id] W fun e w' => e = .returned (.tuple #[.int .i64 (leaveU base cur T id).1, .int .i64 (leaveU base cur T id).2.1]) ∧ UPost o A1 (st + (8 : Nat)) (leaveU base cur T id).2.2.1 (leaveU base cur T id).2.2.2.1 (leaveU base cur T id).2.2.2.2 8 W w') := Lib.hid (fun W A1 D1 hP hp => by
    have K2 := p_s (Q := fun e => e = .returned (.tuple #[.int .i64 (leaveM base cur (cutL T) id).1, .int .i64 (leaveM base cur (cutL T) id).2.1])) (K := 8) hP (fun b mp mw v st1 L hS a0 a1 => sleave_c id W hS hid a0 (by omega))
    rw [leave_cut hwf.asc] at K2
    refine K2.mono ?_
    rintro e w' ⟨he, hP'⟩
    have hq : D1.Perm ((dL T).filter (notI id)) := hp.trans (h2.filter _)
    rw [← dL_delU] at hq
    have hl : D1.Perm (dL (leaveU base cur T id).2.2.2.2) ∧ DayOk (leaveU base cur T id).2.2.2.2 := by
      unfold leaveU
      by_cases i1 : hasI (cutL T) id = true
      · rw [if_pos i1]; exact ⟨hq, h3.del id⟩
      · rw [if_neg i1]
        rw [delU_no (hasU_no.1 (by simpa using i1))] at hq
        exact ⟨hq, h3⟩
    exact ⟨he, UPost.of hP' (Nat.le_refl _) hl.1 hl.2⟩)
  generalize leaveU base cur T id = M at *
  obtain ⟨m1, m2, m3, m4, m5⟩ := M
  simp only at KL ⊢
  have HT : Hid (∀ W, Below w.heap.size w W → Trip A w A W) := Lib.hid (fun W hb => h1.self hb)
  clear h1 h2 h3 hwf hD hid s1 s2
  go_enter Tryz.func179, Tryz.ntmps179
  go_wp2_with fail
  refine K.out.mono ?_
  rintro e w1 ⟨r, bb, D1, rfl, hp, A1, hq1, ht1⟩
  obtain ⟨c2, -⟩ := hq1.box.cells
  have K2 := Lib.hid (KL.out _ _ _ hq1 hp)
  have H1 := Lib.hid ht1
  clear hq1 hp ht1 K KL c0 c1
  go_wp2_with fail
  refine K2.out.mono ?_
  rintro e w2 ⟨rfl, A2, hq2, ht2⟩
  have HP := Lib.hid (show UPost o A st m3 m4 m5 24 w w2 from ⟨A2, hq2.weak (by omega), H1.out.trans ht2⟩)
  clear hq2 ht2 K2
  go_wp2_with fail
  go_ret2
  exact ⟨rfl, HP.out⟩

set_option maxRecDepth 100000 in
set_option maxHeartbeats 4000000 in
theorem scharge_k (w : World) (h : IsU w o A st base cur T) (s1 : 0 ≤ st) (s2 : st < 10000000000000) :
    Calls Tryz.prog 176 #[.pointer (some ⟨o, 0, none⟩)] w fun e w' => e = .returned (.tuple #[.int .i64 (chargeU base cur T).1, .int .i64 (chargeU base cur T).2.1]) ∧ UPost o A st (chargeU base cur T).2.2.1 cur (chargeU base cur T).2.2.2 32 w w' := by
  obtain ⟨s, d, D, h1, h2, h3⟩ := h
  have hwf := h1.wf
  have hD : D.length ≤ 64 := by rw [h2.length_eq, length_dL]; exact len_of hwf
  obtain ⟨c0, -⟩ := h1.box.cells
  have K := p_s (Q := fun e => e = .returned (.tuple #[.int .i64 (chargeM base cur (cutL T)).1, .int .i64 (chargeM base cur (cutL T)).2.1])) (K := 16) h1 (fun b mp mw v st1 L hS a0 a1 => scharge_c w hS a0 (by omega))
  rw [charge_cut hwf.asc hwf.cur] at K
  have K := Lib.hid K
  by_cases hz : (chargeU base cur T).2.1 = 0
  · have hm : cur ≠ -1 ∧ (getU T cur).2.2.1 ≤ 2305843009213693952 - stepV (getU T cur).2.1 ∧ chargeU base cur T = (cur, 0, raiseM base (cutL (updU T cur chaT)), updU T cur chaT) := by
      unfold chargeU at hz ⊢
      by_cases i1 : cur = -1
      · rw [if_pos i1] at hz; cases hz
      · rw [if_neg i1] at hz ⊢
        by_cases i2 : 2305843009213693952 - stepV (getU T cur).2.1 < (getU T cur).2.2.1
        · rw [if_pos i2] at hz; cases hz
        · rw [if_neg i2]; exact ⟨i1, by omega, rfl⟩
    obtain ⟨i1, i2, e⟩ := hm
    have hh : hasI (cutL T) cur = true := hwf.cur.resolve_left i1
    rw [e] at K ⊢
    simp only at K ⊢
    obtain ⟨hm, he⟩ := getU_mem hh
    obtain ⟨x, hx⟩ : ∃ x, getU T cur = x := ⟨_, rfl⟩
    rw [hx] at hm he i2
    subst he
    have hex := hwf.each _ (cut_mem hm)
    have q1 : (cutT x).1 = x.1 := rfl
    have q2 : (cutT x).2.2 = x.2.2.1 := rfl
    rw [q1, q2] at hex
    have hst := stepV_bd x.2.1
    obtain ⟨T', hT'⟩ : ∃ T', updU T x.1 chaT = T' := ⟨_, rfl⟩
    have hperm : (dL T').Perm (dayI (chaT x) :: (dL T).filter (notI x.1)) := by rw [← hT']; exact dL_upd hwf.asc hm chaT
    have hday : DayOk T' := by
      rw [← hT']
      refine h3.upd (fun z hz _ => cha_day (good_of hwf hz) (h3 z hz))
    have hx' : chaT x ∈ T' := by rw [← hT']; exact (updU_perm hwf.asc hm chaT).mem_iff.2 (by simp)
    have hxD : (x.2.2.1, x.2.2.2, x.1) ∈ D := h2.mem_iff.2 (mem_dL.2 ⟨x, hm, rfl⟩)
    rw [hT'] at K ⊢
    generalize raiseM base (cutL T') = b' at *
    have KF : Hid (∀ W A1, IsP W o A1 s d (st + (16 : Nat)) b' x.1 (cutL T') D → Calls Tryz.prog 183 #[.pointer (some ⟨s, 0, none⟩), .int .i64 x.1] W fun e w' => e = .returned (.tuple #[.agg #[.int .i64 x.1, .int .i64 x.2.1, .int .i64 (x.2.2.1 + stepV x.2.1)], .bool true]) ∧ Below W.heap.size W w') := Lib.hid (fun W A1 hP => by
      have hI : hasI (cutL T') x.1 = true := hasU_iff.2 ⟨_, hx', rfl⟩
      have hg : getI (cutL T') x.1 = (x.1, x.2.1, x.2.2.1 + stepV x.2.1) := getI_of hP.wf.asc (cut_mem hx')
      have := p_read hP (fun b mp mw v st1 L hS => sfind_c x.1 W hS hI)
      rw [hg] at this
      exact this)
    have KR : Hid (∀ W A1, IsP W o A1 s d (st + (16 : Nat)) b' x.1 (cutL T') D → Calls Tryz.prog 184 #[.pointer (some ⟨o, 0, none⟩), .agg #[.int .i64 x.1, .int .i64 x.2.1, .int .i64 (x.2.2.1 + stepV x.2.1)]] W fun e w' => e = .returned (.tuple #[]) ∧ UPost o A1 (st + (16 : Nat)) b' x.1 T' 16 W w') := Lib.hid (fun W A1 hP => by
      refine (umove_c x.1 x.2.1 (x.2.2.1 + stepV x.2.1) x.2.2.1 x.2.2.2 W hP hxD hex.1 hex.2.1 (by omega) (by omega) hD (by omega)).mono ?_
      rintro e w' ⟨he, D', hp, hP'⟩
      exact ⟨he, UPost.of hP' (Nat.le_refl _) (hp.trans (((h2.filter _).cons _).trans hperm.symm)) hday⟩)
    obtain ⟨x0, x1, x2, x3⟩ := x
    simp only at KF KR K ⊢
    generalize x2 + stepV x1 = y2 at *
    clear h1 h2 h3 hwf hD hz i1 i2 e hh hm hx hex q1 q2 hst hperm hday hx' hxD hT' s1 s2
    go_enter Tryz.func176, Tryz.ntmps176
    go_wp2_with fail
    refine K.out.mono ?_
    rintro e w1 ⟨rfl, A1, hq1, ht1⟩
    have H1 := Lib.hid (And.intro hq1 ht1)
    obtain ⟨c1, -⟩ := hq1.box.cells
    have K2 := Lib.hid (KF.out _ _ hq1)
    clear hq1 ht1 K KF c0
    go_wp2_with fail
    refine K2.out.mono ?_
    rintro e w2 ⟨rfl, hb2⟩
    have hb3 := hb2.alloc hb2.size (.cells #[.int .i64 x0, .int .i64 x1, .int .i64 y2] 120)
    have K3 := Lib.hid (KR.out _ _ (H1.out.1.below hb3))
    have HB := Lib.hid (H1.out.1.self hb3)
    clear hb2 hb3 K2 KR
    go_wp2_with fail
    refine K3.out.mono ?_
    rintro e w4 ⟨rfl, A2, hq2, ht2⟩
    have HP := Lib.hid (show UPost o A st b' x0 T' 32 w w4 from ⟨A2, hq2.weak (by omega), H1.out.2.trans (HB.out.trans ht2)⟩)
    clear hq2 ht2 K3
    go_wp2_with fail
    go_ret2
    exact ⟨rfl, HP.out⟩
  · have hm : (chargeU base cur T).1 = 0 ∧ (chargeU base cur T).2.2 = (base, T) := by
      unfold chargeU at hz ⊢
      by_cases i1 : cur = -1
      · rw [if_pos i1]; exact ⟨rfl, rfl⟩
      · rw [if_neg i1] at hz ⊢
        by_cases i2 : 2305843009213693952 - stepV (getU T cur).2.1 < (getU T cur).2.2.1
        · rw [if_pos i2]; exact ⟨rfl, rfl⟩
        · rw [if_neg i2] at hz; exact absurd rfl hz
    rw [hm.1, hm.2] at K ⊢
    simp only at K ⊢
    generalize (chargeU base cur T).2.1 = r at *
    have hne : (r != 0) = true := by simp [hz]
    have POST := Lib.hid (fun w' (hP : PPost o A s d st base cur (cutL T) D 16 w w') => UPost.of (K2 := 32) hP (by omega) h2 h3)
    clear h1 h2 h3 hwf hD hz hm s1 s2
    go_enter Tryz.func176, Tryz.ntmps176
    go_wp2_with fail
    refine K.out.mono ?_
    rintro e w1 ⟨rfl, hP⟩
    have HP := Lib.hid (POST.out _ hP)
    clear hP K POST
    go_wp2_with fail
    go_ret2
    exact ⟨rfl, HP.out⟩

set_option maxRecDepth 100000 in
set_option maxHeartbeats 1000000 in
theorem sform_k (w : World) (h : IsU w o A st base cur T) :
    Calls Tryz.prog 178 #[.pointer (some ⟨o, 0, none⟩)] w fun e w' => ∃ A c, e = .returned (.agg #[.int .i64 cur, .slice A T.length c]) ∧ TRow w' A (formU base T) ∧ Below w.heap.size w w' := by
  obtain ⟨s, d, D, h1, -, -⟩ := h
  have hb1 : Below w.heap.size w (w.alloc (.cells #[.int .i64 0, .slice none 0 0] 47)) := (Below.refl _ w).alloc (Nat.le_refl _) _
  have hf1 : FoAt (w.alloc (.cells #[.int .i64 0, .slice none 0 0] 47)) w.heap.size 0 none 0 0 := heap_alloc_new w _
  obtain ⟨w1, hw1⟩ : ∃ w1, w.alloc (.cells #[.int .i64 0, .slice none 0 0] 47) = w1 := ⟨_, rfl⟩
  have hs1 : w1.heap.size = w.heap.size + 1 := by rw [← hw1]; simp
  rw [hw1] at hb1 hf1
  obtain ⟨c0, -⟩ := (h1.below hb1).box.cells
  have K := p_read (h1.below hb1) (fun b mp mw v st1 L hS => sform_c s b mp mw v st1 base cur L (cutL T) w1 hS)
  rw [cut_len] at K
  have K := Lib.hid K
  have H1 := Lib.hid (And.intro hb1 (And.intro hf1 hs1))
  have hfo : formU base T = formL base (cutL T) := rfl
  rw [hfo]
  generalize formL base (cutL T) = fl at *
  generalize T.length = n at *
  clear h1 hb1 hf1 hs1 hfo
  go_enter Tryz.func178, Tryz.ntmps178
  go_wp2_with fail
  refine K.out.mono ?_
  rintro e w2 ⟨g, c, rfl, hT, hb, hg⟩
  have hf2 : FoAt w2 w.heap.size 0 none 0 0 := BoxAt.next H1.out.2.1 hb (Nat.le_refl _)
  obtain ⟨t0, t1, t2, t3⟩ := two_cells hf2 (.int .i64 cur)
  have hf3 : FoAt (set2 w2 w.heap.size (.int .i64 cur) (.slice (some ⟨g, 0, none⟩) n c)) w.heap.size cur (some ⟨g, 0, none⟩) n c := set2_same _ _ hf2
  have hb3 : Below w.heap.size w (set2 w2 w.heap.size (.int .i64 cur) (.slice (some ⟨g, 0, none⟩) n c)) := below_set2 _ _ (H1.out.1.trans (hb.mono (by have := H1.out.2.2; omega))) (Nat.le_refl _)
  have hT3 : TRow (set2 w2 w.heap.size (.int .i64 cur) (.slice (some ⟨g, 0, none⟩) n c)) (some ⟨g, 0, none⟩) fl := trow_keep hT (set2_other _ _ (by have := H1.out.2.2; omega))
  have HT := Lib.hid (And.intro hf3 (And.intro hT3 hb3))
  clear hT hb K hf2 hf3 hb3 hT3 hg
  go_wp2_with fail
  refine bodyPost_ret (res_box1 rfl _ w.heap.size _ _ rfl HT.out.1 Tryz.underlying47 rfl (by kernel_rfl)) rfl ?_
  exact ⟨_, c, rfl, HT.out.2⟩

set_option maxRecDepth 100000 in
set_option maxHeartbeats 8000000 in
theorem spick_k (w : World) (h : IsU w o A st base cur T) :
    Calls Tryz.prog 180 #[.pointer (some ⟨o, 0, none⟩)] w fun e w' => e = .returned (.tuple #[.int .i64 (pickV T), .bool (pickB T)]) ∧ UPost o A st base (pickC T) T 0 w w' := by
  have hu := h
  obtain ⟨s, d, D, h1, h2, h3⟩ := h
  have hwf := h1.wf
  have hD : D.length ≤ 64 := by rw [h2.length_eq, length_dL]; exact len_of hwf
  obtain ⟨c0, c1⟩ := h1.box.cells
  have KL := p_read h1 (fun b mp mw v st1 L hS => (slist_c s b mp mw v st1 base cur L (cutL T) w hS).mono (fun e w' (hh : ∃ g c, e = .returned (.slice (some ⟨g, 0, none⟩) (cutL T).length c) ∧ TRow w' (some ⟨g, 0, none⟩) (L.map (itF (cutL T))) ∧ Below w.heap.size w w' ∧ w.heap.size ≤ g ∧ g < w'.heap.size) =>
    (⟨L.map (itF (cutL T)), itF_perm hS.perm hS.wf.asc, fun r0 hr0 r hr => ord_first hS.q.ord hr0 hr, hh⟩ : ∃ l', l'.Perm (cutL T) ∧ (∀ r0, l'[0]? = some r0 → ∀ r ∈ l', r0.2.2 ≤ r.2.2) ∧ ∃ g c, e = .returned (.slice (some ⟨g, 0, none⟩) (cutL T).length c) ∧ TRow w' (some ⟨g, 0, none⟩) l' ∧ Below w.heap.size w w' ∧ w.heap.size ≤ g ∧ g < w'.heap.size)))
  rw [cut_len] at KL
  have KL := Lib.hid KL
  unfold pickV pickB pickC
  by_cases hT : T = []
  · rw [if_pos hT, if_pos hT, decide_eq_true hT]
    have hn : T.length = 0 := by rw [hT]; rfl
    rw [hn] at KL
    have KB : Hid (∀ W, Below w.heap.size w W → Calls Tryz.prog 185 #[.pointer (some ⟨s, 0, none⟩)] W fun e w' => (∃ bb, e = .returned (.bool bb)) ∧ UPost o A st base (-1) T 0 w w') := Lib.hid (fun W hb => by
      refine (p_s (Q := fun e => e = .returned (.bool (!decide (cur = -1)))) (K := 0) (h1.below hb) (fun b mp mw v st1 L hS _ _ => sback_c W hS)).mono ?_
      rintro e w' ⟨he, hP⟩
      exact ⟨⟨_, he⟩, UPost.of (PPost.pre h1 hb hP) (Nat.le_refl _) h2 h3⟩)
    have HC : Hid (∀ W, Below w.heap.size w W → W.cell? ⟨o, 0, none⟩ = some (.pointer (some ⟨s, 0, none⟩))) := Lib.hid (fun W hb => ((h1.below hb).box.cells).1)
    clear hu h1 h2 h3 hwf hD c1 hT hn
    go_enter Tryz.func180, Tryz.ntmps180
    go_wp2_with fail
    refine KL.out.mono ?_
    rintro e w1 ⟨l', -, -, g, c, rfl, -, hb, -, -⟩
    have c2 := HC.out _ hb
    have K2 := Lib.hid (KB.out _ hb)
    clear hb KL KB HC c0
    go_wp2_with fail
    refine K2.out.mono ?_
    rintro e w2 ⟨⟨bb, rfl⟩, hP⟩
    have HP := Lib.hid hP
    clear hP K2
    go_wp2_with fail
    go_ret2
    exact ⟨rfl, HP.out⟩
  · rw [if_neg hT, if_neg hT, decide_eq_false hT]
    obtain ⟨x, hx, hpo, hpu, hmay, hbest⟩ := pick_spec hT (fun x hx => by have := wgt_of hwf hx; omega)
    rw [hpu]
    have hne0 : 0 < T.length := List.length_pos_iff.2 hT
    have hl64 := len_of hwf
    have hexW : hasI (cutL T) x.1 = true := hasU_iff.2 ⟨x, hx, rfl⟩
    have hx64 : wf64 x.1 := by
      have hex := hwf.each _ (cut_mem hx)
      have q1 : (cutT x).1 = x.1 := rfl
      rw [q1] at hex
      exact wf64_of (by omega) (by omega)
    have KX : Hid (∀ (l' : List RI) (g c : Nat) (w1 : World), l'.Perm (cutL T) → (∀ r0, l'[0]? = some r0 → ∀ r ∈ l', r0.2.2 ≤ r.2.2) → TRow w1 (some ⟨g, 0, none⟩) l' → Below w.heap.size w w1 → ∃ av, (∀ W, Below w1.heap.size w1 W → Calls Tryz.prog 187 #[.slice (some ⟨g, 0, none⟩) T.length c] W fun e w' => e = .returned (.int .i64 av) ∧ Below W.heap.size W w' ∧ Below w1.heap.size w1 w') ∧
        (∀ W, Below w1.heap.size w1 W → Calls Tryz.prog 186 #[.pointer (some ⟨d, 0, none⟩), .int .i64 av] W fun e w' => e = .returned (.tuple #[.agg #[.int .i64 x.2.2.1, .int .i64 x.2.2.2, .int .i64 x.1], .bool true]) ∧ Below W.heap.size W w' ∧ Below w1.heap.size w1 w') ∧
        (∀ W, Below w1.heap.size w1 W → W.cell? ⟨o, 0, none⟩ = some (.pointer (some ⟨s, 0, none⟩)) ∧ W.cell? ⟨o, 1, none⟩ = some (.pointer (some ⟨d, 0, none⟩))) ∧
        ∀ W, Below w1.heap.size w1 W → Calls Tryz.prog 145 #[.pointer (some ⟨s, 0, none⟩), .int .i64 x.1] W fun e w' => e = .returned (.tuple #[.int .i64 x.1, .bool true]) ∧ (w'.cell? ⟨o, 0, none⟩ = some (.pointer (some ⟨s, 0, none⟩)) ∧ ∀ k, w1.heap.size ≤ k → k < W.heap.size → w'.heap[k]? = W.heap[k]?) ∧ UPost o A st base x.1 T 0 w w') := Lib.hid (fun l' g c w1 hp hlo hrow hb => by
      have hlen : l'.length = T.length := by rw [hp.length_eq, cut_len]
      obtain ⟨r0, hr0⟩ : ∃ r0, l'[0]? = some r0 := ⟨_, List.getElem?_eq_getElem (by omega)⟩
      have hbd : ∀ r ∈ l', r0.2.2 ≤ r.2.2 ∧ r.2.2 ≤ 4000000000000000000 ∧ 1 ≤ r.2.1 ∧ r.2.1 ≤ 20 := fun r hr => by
        have := hwf.each r (hp.mem_iff.1 hr)
        exact ⟨hlo r0 hr0 r hr, by omega, by omega, by omega⟩
      have hm0 : -4000000000000000000 ≤ r0.2.2 := by
        have := hwf.each r0 (hp.mem_iff.1 (List.mem_of_getElem? hr0)); omega
      obtain ⟨s1, s2⟩ := sumW_perm hp
      obtain ⟨s3, s4⟩ := sumW_cut T
      have hpos : 0 < allW l' := allW_pos (List.ne_nil_of_mem (List.mem_of_getElem? hr0)) (fun r hr => (hbd r hr).2.2.1)
      have hav : ∀ z : Int, z ≤ avgW r0.2.2 l' ↔ z * allT T ≤ sumT 0 T := fun z => by rw [avg_le hpos z, s2, s4, s1, s3]
      have hbW : ∀ W, Below w1.heap.size w1 W → Below w.heap.size w W := fun W hb2 => hb.trans (hb2.mono hb.size)
      refine ⟨avgW r0.2.2 l', fun W hb2 => ?_, fun W hb2 => ?_, fun W hb2 => (h1.below (hbW W hb2)).box.cells, fun W hb2 => ?_⟩
      · refine (uavg_c g T.length c r0.2.2 l' r0 W hlen hl64 (hrow.below hb2 (Nat.le_refl _)) hr0 rfl hbd hm0).mono ?_
        rintro e w' ⟨he, hb3⟩
        exact ⟨he, hb3, hb2.trans (hb3.mono hb2.size)⟩
      · have hq := h1.below (hbW W hb2)
        have K := p_readD hq (fun b m v mp st2 hd => dfirst_c d b m 64 st2 D v mp (avgW r0.2.2 l') W hd (by omega))
        rw [first_pick hwf.asc h2 h1.ord.1 hav, hpo] at K
        refine K.mono ?_
        rintro e w' ⟨he, hb3⟩
        exact ⟨he, hb3, hb2.trans (hb3.mono hb2.size)⟩
      · have K := p_s (Q := fun e => e = .returned (.tuple #[.int .i64 x.1, .bool true])) (base' := base) (cur' := x.1) (R' := cutL T) (K := 0) (h1.below (hbW W hb2)) (fun b mp mw v st1 L hS _ _ => by
          have K := spid_c x.1 W hS hx64
          rw [hexW, if_pos rfl, if_pos rfl] at K
          exact K)
        refine K.mono ?_
        rintro e w' ⟨he, hP⟩
        have hP' := hP
        obtain ⟨A2, hq2, ht2⟩ := hP
        exact ⟨he, ⟨hq2.box.cells.1, fun k hk1 hk2 => ht2.block k hk2 (fun hh => by have := h1.lt k hh; have := hb.size; omega)⟩, UPost.of (PPost.pre h1 (hbW W hb2) hP') (Nat.le_refl _) h2 h3⟩)
    generalize T.length = n at *
    obtain ⟨x0, x1, x2, x3⟩ := x
    simp only at KX ⊢
    have hnz : ((n : Int) == 0) = false := by simp; omega
    clear hu h1 h2 h3 hwf hD c1 hT hx hpo hpu hmay hbest hl64 hexW hx64
    go_enter Tryz.func180, Tryz.ntmps180
    go_wp2_with fail
    refine KL.out.mono ?_
    rintro e w1 ⟨l', hp, hlo, g, c, rfl, hrow, hb, -, -⟩
    obtain ⟨av, kav, kfi, kw, kpi⟩ := KX.out l' g c w1 hp hlo hrow hb
    have KAV := Lib.hid kav
    have KFI := Lib.hid kfi
    have HW := Lib.hid kw
    have KPI := Lib.hid kpi
    have HB0 := Lib.hid (Below.refl w1.heap.size w1).drew
    have HBA := Lib.hid ((Below.refl w1.heap.size w1).alloc (Nat.le_refl _) (.cells #[.int .i64 0, .int .i64 0, .int .i64 0] 138)).drew
    obtain ⟨c2, c3⟩ := kw _ (Below.refl _ _)
    have HC0 := Lib.hid (kw _ HB0.out).2
    have HCA := Lib.hid (kw _ HBA.out).2
    clear kav kfi kw kpi KL KX hp hlo hrow hb c0
    go_wp2_with fail
    go_region_held3 (fun w' => w'.cell? ⟨o, 1, none⟩ = some (.pointer (some ⟨d, 0, none⟩))) (with_reducible first | exact HSS.out | exact HSA.out | exact HC0.out | exact HCA.out | exact HC3.out | exact HC3A.out | exact HC4.out | exact HC4Z.out | exact HC4A.out)
      (first
        | (go_at_call 187; with_reducible refine (KAV.out _ HB0.out).mono ?_; rintro e w3 ⟨rfl, hb2, hb⟩; have HB3 := Lib.hid hb; have HC3 := Lib.hid (HW.out _ hb).2; have HB3A := Lib.hid (hb.alloc hb.size (.cells #[.int .i64 0, .int .i64 0, .int .i64 0] 138)); have HC3A := Lib.hid (HW.out _ HB3A.out).2; clear hb2 hb)
        | (go_at_call 187; with_reducible refine (KAV.out _ HBA.out).mono ?_; rintro e w3 ⟨rfl, hb2, hb⟩
           have HZ3 : Hid (w3.heap[w1.heap.size]? = some (.cells #[.int .i64 0, .int .i64 0, .int .i64 0] 138 (0, 0))) := Lib.hid ((hb2.block _ (by show _ < (w1.alloc _).heap.size; simp)).trans (World.alloc_heap_new w1 _))
           have HB3 := Lib.hid hb
           have HC3 := Lib.hid (HW.out _ hb).2
           clear hb2 hb)
        | (go_at_call 186; with_reducible refine (KFI.out _ HB3.out).mono ?_; rintro e w4 ⟨rfl, hb2, hb⟩
           have HB4 := Lib.hid hb
           have HC4 := Lib.hid (HW.out _ hb).2
           first
             | (have hz := (hb2.block _ (Array.getElem?_eq_some_iff.1 HZ3.out).1).trans HZ3.out
                obtain ⟨r0, r1, r2, f0, f1, f2⟩ := zero3 hz
                have HZ4 := Lib.hid hz
                have HSS : Hid ((((w4.setCell ⟨w1.heap.size, 0, none⟩ (.int .i64 x2)).setCell ⟨w1.heap.size, 1, none⟩ (.int .i64 x3)).setCell ⟨w1.heap.size, 2, none⟩ (.int .i64 x0)).cell? ⟨o, 1, none⟩ = some (.pointer (some ⟨d, 0, none⟩))) := Lib.hid (HW.out _ (below_set3 hb (Nat.le_refl _) _ _ _)).2
                clear hb2 hb hz)
             | (have HC4Z := Lib.hid (HW.out _ (hb.alloc hb.size (.cells #[.int .i64 0, .int .i64 0, .int .i64 0] 138))).2
                have HC4A := Lib.hid (HW.out _ (hb.alloc hb.size (.cells #[.int .i64 x2, .int .i64 x3, .int .i64 x0] 138))).2
                clear hb2 hb))
        | (go_at_call 186; with_reducible refine (KFI.out _ HB3A.out).mono ?_; rintro e w4 ⟨rfl, hb2, hb⟩
           have HB4 := Lib.hid hb
           have HC4 := Lib.hid (HW.out _ hb).2
           have hz : w4.heap[w3.heap.size]? = some (.cells #[.int .i64 0, .int .i64 0, .int .i64 0] 138 (0, 0)) := (hb2.block _ (by simp)).trans (World.alloc_heap_new w3 _)
           obtain ⟨r0, r1, r2, f0, f1, f2⟩ := zero3 hz
           have HZ5 := Lib.hid hz
           have HSA : Hid ((((w4.setCell ⟨w3.heap.size, 0, none⟩ (.int .i64 x2)).setCell ⟨w3.heap.size, 1, none⟩ (.int .i64 x3)).setCell ⟨w3.heap.size, 2, none⟩ (.int .i64 x0)).cell? ⟨o, 1, none⟩ = some (.pointer (some ⟨d, 0, none⟩))) := Lib.hid (HW.out _ (below_set3 hb HB3.out.size _ _ _)).2
           clear hb2 hb hz))
    · obtain ⟨w5, hw5⟩ : ∃ w5, w4.alloc (.cells #[.int .i64 x2, .int .i64 x3, .int .i64 x0] 138) = w5 := ⟨_, rfl⟩
      have hb5 : Below w1.heap.size w1 w5 := by rw [← hw5]; exact HB4.out.alloc HB4.out.size _
      have hi5 : BoxAt w5 w4.heap.size 138 #[.int .i64 x2, .int .i64 x3, .int .i64 x0] := by rw [← hw5]; exact heap_alloc_new w4 _
      have hbl : w1.heap.size ≤ w4.heap.size := HB4.out.size
      rw [hw5]
      obtain ⟨bb, hbb⟩ : ∃ bb, w4.heap.size = bb := ⟨_, rfl⟩
      rw [hbb] at hi5 hbl ⊢
      have K : Hid (Calls Tryz.prog 145 #[.pointer (some ⟨s, 0, none⟩), .int .i64 x0] w5.drew fun e w' => e = .returned (.tuple #[.int .i64 x0, .bool true]) ∧ (w'.cell? ⟨o, 0, none⟩ = some (.pointer (some ⟨s, 0, none⟩)) ∧ w'.cell? ⟨bb, 2, none⟩ = some (.int .i64 x0)) ∧ UPost o A st base x0 T 0 w w') := Lib.hid ((KPI.out w5.drew hb5.drew).mono (fun e w' (hh : e = .returned (.tuple #[.int .i64 x0, .bool true]) ∧ (w'.cell? ⟨o, 0, none⟩ = some (.pointer (some ⟨s, 0, none⟩)) ∧ ∀ k, w1.heap.size ≤ k → k < w5.drew.heap.size → w'.heap[k]? = w5.drew.heap[k]?) ∧ UPost o A st base x0 T 0 w w') => ⟨hh.1, ⟨hh.2.1.1, (cellq_of (hh.2.1.2 bb (by omega) hi5.lt) 2).trans (BoxAt.cell hi5)⟩, hh.2.2⟩))
      have HS5 : Hid (w5.cell? ⟨o, 0, none⟩ = some (.pointer (some ⟨s, 0, none⟩)) ∧ w5.cell? ⟨bb, 2, none⟩ = some (.int .i64 x0)) := Lib.hid ⟨(HW.out _ hb5).1, BoxAt.cell hi5⟩
      have HSD : Hid (w5.drew.cell? ⟨o, 0, none⟩ = some (.pointer (some ⟨s, 0, none⟩)) ∧ w5.drew.cell? ⟨bb, 2, none⟩ = some (.int .i64 x0)) := Lib.hid HS5.out
      clear hb5 hi5 hbl hw5 KPI HW
      go_wp2_with fail
      go_region_held3 (fun w' => w'.cell? ⟨o, 0, none⟩ = some (.pointer (some ⟨s, 0, none⟩)) ∧ w'.cell? ⟨bb, 2, none⟩ = some (.int .i64 x0)) (with_reducible first | exact HS5.out | exact HSD.out | exact HS6.out)
        (first | (go_at_call 145; with_reducible refine K.out.mono ?_; rintro e w6 ⟨rfl, hS, hP⟩; have HS6 := Lib.hid hS; have HP := Lib.hid hP; clear hS hP))
      go_wp2_with fail
      go_ret2
      exact ⟨rfl, HP.out⟩
    · obtain ⟨w5, hw5⟩ : ∃ w5, ((w4.setCell ⟨w3.heap.size, 0, none⟩ (.int .i64 x2)).setCell ⟨w3.heap.size, 1, none⟩ (.int .i64 x3)).setCell ⟨w3.heap.size, 2, none⟩ (.int .i64 x0) = w5 := ⟨_, rfl⟩
      have hb5 : Below w1.heap.size w1 w5 := by rw [← hw5]; exact below_set3 HB4.out HB3.out.size _ _ _
      have hi5 : BoxAt w5 w3.heap.size 138 #[.int .i64 x2, .int .i64 x3, .int .i64 x0] := by rw [← hw5]; exact set3_same _ _ _ HZ5.out
      have hbl : w1.heap.size ≤ w3.heap.size := HB3.out.size
      rw [hw5]
      obtain ⟨bb, hbb⟩ : ∃ bb, w3.heap.size = bb := ⟨_, rfl⟩
      clear r0 r1 r2 f0 f1 f2
      rw [hbb] at hi5 hbl ⊢
      have K : Hid (Calls Tryz.prog 145 #[.pointer (some ⟨s, 0, none⟩), .int .i64 x0] w5.drew fun e w' => e = .returned (.tuple #[.int .i64 x0, .bool true]) ∧ (w'.cell? ⟨o, 0, none⟩ = some (.pointer (some ⟨s, 0, none⟩)) ∧ w'.cell? ⟨bb, 2, none⟩ = some (.int .i64 x0)) ∧ UPost o A st base x0 T 0 w w') := Lib.hid ((KPI.out w5.drew hb5.drew).mono (fun e w' (hh : e = .returned (.tuple #[.int .i64 x0, .bool true]) ∧ (w'.cell? ⟨o, 0, none⟩ = some (.pointer (some ⟨s, 0, none⟩)) ∧ ∀ k, w1.heap.size ≤ k → k < w5.drew.heap.size → w'.heap[k]? = w5.drew.heap[k]?) ∧ UPost o A st base x0 T 0 w w') => ⟨hh.1, ⟨hh.2.1.1, (cellq_of (hh.2.1.2 bb (by omega) hi5.lt) 2).trans (BoxAt.cell hi5)⟩, hh.2.2⟩))
      have HS5 : Hid (w5.cell? ⟨o, 0, none⟩ = some (.pointer (some ⟨s, 0, none⟩)) ∧ w5.cell? ⟨bb, 2, none⟩ = some (.int .i64 x0)) := Lib.hid ⟨(HW.out _ hb5).1, BoxAt.cell hi5⟩
      have HSD : Hid (w5.drew.cell? ⟨o, 0, none⟩ = some (.pointer (some ⟨s, 0, none⟩)) ∧ w5.drew.cell? ⟨bb, 2, none⟩ = some (.int .i64 x0)) := Lib.hid HS5.out
      clear hb5 hi5 hbl hw5 KPI HW
      go_wp2_with fail
      go_region_held3 (fun w' => w'.cell? ⟨o, 0, none⟩ = some (.pointer (some ⟨s, 0, none⟩)) ∧ w'.cell? ⟨bb, 2, none⟩ = some (.int .i64 x0)) (with_reducible first | exact HS5.out | exact HSD.out | exact HS6.out)
        (first | (go_at_call 145; with_reducible refine K.out.mono ?_; rintro e w6 ⟨rfl, hS, hP⟩; have HS6 := Lib.hid hS; have HP := Lib.hid hP; clear hS hP))
      go_wp2_with fail
      go_ret2
      exact ⟨rfl, HP.out⟩
    · obtain ⟨w5, hw5⟩ : ∃ w5, ((w4.setCell ⟨w1.heap.size, 0, none⟩ (.int .i64 x2)).setCell ⟨w1.heap.size, 1, none⟩ (.int .i64 x3)).setCell ⟨w1.heap.size, 2, none⟩ (.int .i64 x0) = w5 := ⟨_, rfl⟩
      have hb5 : Below w1.heap.size w1 w5 := by rw [← hw5]; exact below_set3 HB4.out (Nat.le_refl _) _ _ _
      have hi5 : BoxAt w5 w1.heap.size 138 #[.int .i64 x2, .int .i64 x3, .int .i64 x0] := by rw [← hw5]; exact set3_same _ _ _ HZ4.out
      have hbl : w1.heap.size ≤ w1.heap.size := Nat.le_refl _
      rw [hw5]
      obtain ⟨bb, hbb⟩ : ∃ bb, w1.heap.size = bb := ⟨_, rfl⟩
      clear r0 r1 r2 f0 f1 f2
      rw [hbb] at hi5 hbl ⊢
      have K : Hid (Calls Tryz.prog 145 #[.pointer (some ⟨s, 0, none⟩), .int .i64 x0] w5.drew fun e w' => e = .returned (.tuple #[.int .i64 x0, .bool true]) ∧ (w'.cell? ⟨o, 0, none⟩ = some (.pointer (some ⟨s, 0, none⟩)) ∧ w'.cell? ⟨bb, 2, none⟩ = some (.int .i64 x0)) ∧ UPost o A st base x0 T 0 w w') := Lib.hid ((KPI.out w5.drew hb5.drew).mono (fun e w' (hh : e = .returned (.tuple #[.int .i64 x0, .bool true]) ∧ (w'.cell? ⟨o, 0, none⟩ = some (.pointer (some ⟨s, 0, none⟩)) ∧ ∀ k, w1.heap.size ≤ k → k < w5.drew.heap.size → w'.heap[k]? = w5.drew.heap[k]?) ∧ UPost o A st base x0 T 0 w w') => ⟨hh.1, ⟨hh.2.1.1, (cellq_of (hh.2.1.2 bb (by omega) hi5.lt) 2).trans (BoxAt.cell hi5)⟩, hh.2.2⟩))
      have HS5 : Hid (w5.cell? ⟨o, 0, none⟩ = some (.pointer (some ⟨s, 0, none⟩)) ∧ w5.cell? ⟨bb, 2, none⟩ = some (.int .i64 x0)) := Lib.hid ⟨(HW.out _ hb5).1, BoxAt.cell hi5⟩
      have HSD : Hid (w5.drew.cell? ⟨o, 0, none⟩ = some (.pointer (some ⟨s, 0, none⟩)) ∧ w5.drew.cell? ⟨bb, 2, none⟩ = some (.int .i64 x0)) := Lib.hid HS5.out
      clear hb5 hi5 hbl hw5 KPI HW
      go_wp2_with fail
      go_region_held3 (fun w' => w'.cell? ⟨o, 0, none⟩ = some (.pointer (some ⟨s, 0, none⟩)) ∧ w'.cell? ⟨bb, 2, none⟩ = some (.int .i64 x0)) (with_reducible first | exact HS5.out | exact HSD.out | exact HS6.out)
        (first | (go_at_call 145; with_reducible refine K.out.mono ?_; rintro e w6 ⟨rfl, hS, hP⟩; have HS6 := Lib.hid hS; have HP := Lib.hid hP; clear hS hP))
      go_wp2_with fail
      go_ret2
      exact ⟨rfl, HP.out⟩
end
end Go.Proofs.YtandmngfajoinaaGreat

namespace Go.Proofs.YtandmngfajoinaaGreat
open Go.RowKit Go.Maps

def dayR (r : RI) : RI := (r.2.2, r.2.2 + 4 * stepV r.2.1, r.1)
theorem seed_days (base : Int) (l : List RI) : (cutL (seedU base l)).map dayR = dL (seedU base l) := by
  unfold cutL dL seedU
  rw [List.map_map, List.map_map, List.map_map]
  rfl
theorem ids_differ {l : List RI} {R : List RI} (hp : l.Perm R) (ha : AscR R) {i j : Nat} {a b : RI} (hi : l[i]? = some a) (hj : l[j]? = some b) (hij : i < j) : a.1 ≠ b.1 := by
  have h1 : (R.map (fun r => r.1)).Nodup := by
    unfold List.Nodup
    rw [List.pairwise_map]
    exact ha.imp (fun {a b} h => by omega)
  have h2 : (l.map (fun r => r.1)).Nodup := (hp.map _).nodup_iff.2 h1
  unfold List.Nodup at h2
  rw [List.pairwise_map] at h2
  obtain ⟨h3, rfl⟩ := List.getElem?_eq_some_iff.1 hi
  obtain ⟨h4, rfl⟩ := List.getElem?_eq_some_iff.1 hj
  exact List.pairwise_iff_getElem.1 h2 i j h3 h4 hij
/-- So many have their days. -/
def SdIn (w4 : World) (o s d : Nat) (A0 : Nat → Prop) (base cur : Int) (R : List RI) (l' : List RI) (k : Nat) (wr : World) : Prop :=
  ∃ A1 D, IsP wr o A1 s d (1000 + 16 * (k : Int)) base cur R D ∧ D.Perm ((l'.take k).map dayR) ∧ Trip A0 w4 A1 wr
/-- What Seed answers. -/
def SeedPost (base f0 : Int) (l : List RI) (w : World) (e : Ending) (w' : World) : Prop :=
  if goodV f0 l = true ∧ -1152921504606846976 ≤ base ∧ base ≤ 1152921504606846976 then
    ∃ o A st, e = .returned (.tuple #[.pointer (some ⟨o, 0, none⟩), .int .i64 0]) ∧ IsU w' o A st base f0 (seedU base l) ∧ 0 ≤ st ∧ st ≤ 4000 ∧ (∀ k, A k → w.heap.size ≤ k) ∧ Below w.heap.size w w'
  else e = .returned (.tuple #[.pointer none, .int .i64 1]) ∧ Below w.heap.size w w'
set_option maxRecDepth 100000 in
set_option maxHeartbeats 8000000 in
theorem sseed_c (f0 base : Int) (A : Option Addr) (n c : Nat) (l : List RI) (w : World) (hn : l.length = n) (hl : n ≤ 4611686018427387904) (hr : TRow w A l) :
    Calls Tryz.prog 59 #[.agg #[.int .i64 f0, .slice A n c], .int .i64 base] w (SeedPost base f0 l w) := by
  have hb1 : Below w.heap.size w (w.alloc (.cells #[.int .i64 f0, .slice A n c] 47)) := (Below.refl _ w).alloc (Nat.le_refl _) _
  have hf1 : FoAt (w.alloc (.cells #[.int .i64 f0, .slice A n c] 47)) w.heap.size f0 A n c := heap_alloc_new w _
  obtain ⟨w0, hw0⟩ : ∃ w0, w.alloc (.cells #[.int .i64 f0, .slice A n c] 47) = w0 := ⟨_, rfl⟩
  have hs1 : w0.heap.size = w.heap.size + 1 := by rw [← hw0]; simp
  rw [hw0] at hb1 hf1
  obtain ⟨d0, d1, -, -⟩ := FoAt.cells hf1
  have K0 := pseed_c f0 base A n c l w0 hn hl (hr.below hb1 (Nat.le_refl _))
  have HB1 := Lib.hid (And.intro hb1 hs1)
  by_cases hg : goodV f0 l = true ∧ -1152921504606846976 ≤ base ∧ base ≤ 1152921504606846976
  · refine Calls.mono (?_ : Calls _ _ _ _ (fun e w' => ∃ o A st, e = .returned (.tuple #[.pointer (some ⟨o, 0, none⟩), .int .i64 0]) ∧ IsU w' o A st base f0 (seedU base l) ∧ 0 ≤ st ∧ st ≤ 4000 ∧ (∀ k, A k → w.heap.size ≤ k) ∧ Below w.heap.size w w')) (fun e w' h => by unfold SeedPost; rw [if_pos hg]; exact h)
    have K := Lib.hid (K0.mono (fun e w' h => by unfold SeedPostP at h; rw [if_pos hg] at h; exact h))
    have hday := seedU_day (base := base) hg.1
    have hl64 : l.length ≤ 64 := (goodV_of hg.1).len
    have hn64 : n ≤ 64 := by omega
    have HG := Lib.hid (And.intro hday (And.intro hn hn64))
    clear hg hn hl hr hb1 hf1 hs1 K0 hday hl64
    go_enter Tryz.func59, Tryz.ntmps59
    go_wp2_with fail
    refine K.out.mono ?_
    rintro e w1 ⟨s, b, mp, mw, v, st, L, rfl, hq, s1, s2, hnw, hb⟩
    have hz : w.heap.size ≤ w0.heap.size := HB1.out.1.size
    have hbw : Below w.heap.size w w1 := HB1.out.1.trans (hb.mono hz)
    have HQ := Lib.hid (And.intro hq (And.intro s1 (And.intro s2 (And.intro (show ∀ k, SOf s b mp mw v k → w.heap.size ≤ k from fun k hk => Nat.le_trans hz (hnw k hk)) hbw))))
    clear hq s1 s2 hnw hb hz hbw K d0 d1
    go_wp2_with fail
    refine (dnew_c 64 w1).mono ?_
    rintro e w2 ⟨d, b2, m2, v2, mp2, rfl, hd, hdn, hb2⟩
    have ec : clampQ 64 = 64 := by decide
    rw [ec] at hd
    obtain ⟨w3, hw3⟩ : ∃ w3, w2.alloc (.cells #[.pointer (some ⟨s, 0, none⟩), .pointer (some ⟨d, 0, none⟩)] 116) = w3 := ⟨_, rfl⟩
    have hb3 : Below w2.heap.size w2 w3 := by rw [← hw3]; exact (Below.refl _ w2).alloc (Nat.le_refl _) _
    have hbx : UBox w3 w2.heap.size s d := by rw [← hw3]; exact heap_alloc_new w2 _
    have HP3 : Hid (∃ A0, IsP w3 w2.heap.size A0 s d 1000 base f0 (cutL (seedU base l)) [] ∧ (∀ k, A0 k → w.heap.size ≤ k) ∧ Below w.heap.size w w3) := by
      obtain ⟨hq, s1, s2, hnw, hbw⟩ := HQ.out
      have z1 := hbw.size
      have z2 := hb2.size
      refine Lib.hid ⟨fun k => k = w2.heap.size ∨ SOf s b mp mw v k ∨ DOf d b2 m2 v2 mp2 k, ⟨b, mp, mw, v, st, L, b2, m2, v2, mp2, 0, hbx, ?_, hd.below hb3, ⟨s1, s2, by omega, by omega⟩, fun hh => by have := hq.lt _ hh; omega, fun hh => by have := hd.lt _ hh; omega, fun k hk hk' => by have := hq.lt k hk; have := hdn k hk'; omega, fun _ => Iff.rfl⟩, ?_, hbw.trans ((hb2.trans (hb3.mono z2)).mono z1)⟩
      · rw [seedU_cut]
        exact (hq.below hb2).below hb3
      · rintro k (rfl | hk | hk)
        · omega
        · exact hnw k hk
        · have := hdn k hk; omega
    have hsd : w2.heap.size < w3.heap.size := hbx.lt
    have HW3 := Lib.hid hw3
    clear hd hdn hb2 hb3 hbx ec hw3 HQ HB1
    obtain ⟨A0, hP, hA0, hb3⟩ := HP3.out
    have KLI := p_read hP (fun b mp mw v st1 L hS => (slist_c s b mp mw v st1 base f0 L (cutL (seedU base l)) w3 hS).mono (fun e w' (hh : ∃ g c, e = .returned (.slice (some ⟨g, 0, none⟩) (cutL (seedU base l)).length c) ∧ TRow w' (some ⟨g, 0, none⟩) (L.map (itF (cutL (seedU base l)))) ∧ Below w3.heap.size w3 w' ∧ w3.heap.size ≤ g ∧ g < w'.heap.size) =>
      (⟨L.map (itF (cutL (seedU base l))), itF_perm hS.perm hS.wf.asc, hh⟩ : ∃ l', l'.Perm (cutL (seedU base l)) ∧ ∃ g c, e = .returned (.slice (some ⟨g, 0, none⟩) (cutL (seedU base l)).length c) ∧ TRow w' (some ⟨g, 0, none⟩) l' ∧ Below w3.heap.size w3 w' ∧ w3.heap.size ≤ g ∧ g < w'.heap.size)))
    have hcl : (cutL (seedU base l)).length = n := by rw [cut_len, seedU_length]; exact HG.out.2.1
    rw [hcl] at KLI
    have KLI := Lib.hid KLI
    have HP := Lib.hid (And.intro hP (And.intro hA0 hb3))
    have HCL := Lib.hid hcl
    clear hP hA0 hb3 HP3 hsd hcl
    go_wp2_with fail
    rw [HW3.out]
    clear HW3
    generalize w2.heap.size = o at *
    refine KLI.out.mono ?_
    rintro e w4 ⟨l', hp, g, c', rfl, hrow, hb4, hg1, hg2⟩
    have HL : Hid (l'.Perm (cutL (seedU base l)) ∧ TRow w4 (some ⟨g, 0, none⟩) l' ∧ l'.length = n ∧ ¬ A0 g ∧ g < w4.heap.size) := Lib.hid ⟨hp, hrow, by rw [hp.length_eq]; exact HCL.out, fun hh => by have := HP.out.1.lt _ hh; omega, hg2⟩
    have HS0 : Hid (SdIn w4 o s d A0 base f0 (cutL (seedU base l)) l' 0 w4) := Lib.hid ⟨A0, [], (HP.out.1.below hb4).weak (by omega), by rw [List.take_zero]; exact List.Perm.refl _, Trip.refl (HP.out.1.below hb4).lt⟩
    have HX4 := Lib.hid (And.intro hb4 hg1)
    have HT4 : Hid (∀ A1 wr, Trip A0 w3 A1 wr → w4.heap.size ≤ wr.heap.size → True) := Lib.hid (fun _ _ _ _ => trivial)
    clear hp hrow hb4 hg1 hg2 KLI HT4
    go_wp2_with fail
    go_loopw [27] (fun iv wr => ∃ k : Nat, iv = .int .i64 k ∧ k ≤ n ∧ Hid (SdIn w4 o s d A0 base f0 (cutL (seedU base l)) l' k wr ∧ Below w3.heap.size w3 w4 ∧ w4.heap.size ≤ wr.heap.size ∧ wr.heap[g]? = w4.heap[g]?)) (fun iv _ => n - (intOf iv).toNat)
    case atStart => exact ⟨0, rfl, by omega, Lib.hid ⟨HS0.out, HX4.out.1, Nat.le_refl _, rfl⟩⟩
    case round =>
      clear HS0
      obtain ⟨k, rfl, hk, HQ⟩ := hrel
      have hn64 := HG.out.2.2
      by_cases hlt : k < n
      · obtain ⟨x, hx⟩ : ∃ x, l'[k]? = some x := ⟨_, List.getElem?_eq_getElem (by rw [HL.out.2.2.1]; exact hlt)⟩
        obtain ⟨⟨A1, D, hq, hDp, ht⟩, hb4, hz4, hgk⟩ := HQ.out
        obtain ⟨ad, he, e0, e1, e2⟩ := (trow_keep HL.out.2.1 hgk).at hx
        obtain rfl := Option.some.inj he
        have hkm : (k : Int) < (n : Int) := by omega
        have hex := hq.wf.each x (HL.out.1.mem_iff.1 (List.mem_of_getElem? hx))
        have hno : ∀ z ∈ qL D, z.2 ≠ x.1 := fun z hz hze => by
          obtain ⟨r, hr, rfl⟩ := mem_qL.1 hz
          obtain ⟨y, hy, rfl⟩ := List.mem_map.1 (hDp.mem_iff.1 hr)
          obtain ⟨j, hj⟩ := List.getElem?_of_mem hy
          rw [List.getElem?_take] at hj
          split at hj
          · rename_i hjk
            exact ids_differ HL.out.1 hq.wf.asc hj hx hjk hze
          · cases hj
        have hDl : D.length = k := by rw [hDp.length_eq, List.length_map, List.length_take, HL.out.2.2.1]; omega
        have htk : (l'.take (k + 1)).map dayR = (l'.take k).map dayR ++ [dayR x] := by rw [List.take_add_one, hx, List.map_append]; rfl
        obtain ⟨wx, hwx⟩ : ∃ wx, wr.alloc (.cells #[.int .i64 x.1, .int .i64 x.2.1, .int .i64 x.2.2] 120) = wx := ⟨_, rfl⟩
        have hbx : Below wr.heap.size wr wx := by rw [← hwx]; exact (Below.refl _ wr).alloc (Nat.le_refl _) _
        have KR : Hid (Calls Tryz.prog 65 #[.pointer (some ⟨o, 0, none⟩), .agg #[.int .i64 x.1, .int .i64 x.2.1, .int .i64 x.2.2]] wx fun e w' => e = .returned (.tuple #[]) ∧ Hid (SdIn w4 o s d A0 base f0 (cutL (seedU base l)) l' (k + 1) w' ∧ Below w3.heap.size w3 w4 ∧ w4.heap.size ≤ w'.heap.size ∧ w'.heap[g]? = w4.heap[g]?)) := Lib.hid (by
          refine (urenew_c x.1 x.2.1 x.2.2 wx (hq.below hbx) hex.1 hex.2.1 hex.2.2.2.2.1 hex.2.2.2.2.2 (by omega) (by rw [filter_not hno]; omega) (by omega)).mono ?_
          rintro e w' ⟨he, D', hp', A2, hq2, ht2⟩
          rw [filter_not hno] at hp'
          have hg1 : ¬ A1 g := fun hh => (ht.sub g hh).elim HL.out.2.2.2.1 (fun h => by have := HL.out.2.2.2.2; omega)
          have hgl := HL.out.2.2.2.2
          have hzx := hbx.size
          refine ⟨he, Lib.hid ⟨⟨A2, D', hq2.weak (by omega), ?_, ht.trans ((hq.self hbx).trans ht2)⟩, hb4, by have := ht2.size; omega, ?_⟩⟩
          · rw [htk]
            exact hp'.trans ((hDp.cons _).trans (List.perm_append_singleton _ _).symm)
          · exact (ht2.block g (by omega) hg1).trans ((hbx.block g (by omega)).trans hgk))
        obtain ⟨x0, x1, x2⟩ := x
        simp only at e0 e1 e2 KR hwx
        rw [addr_add] at e0 e1 e2
        simp only [Nat.zero_add] at e0 e1 e2
        have bx0 : TaAt wx wr.heap.size (x0, x1, x2) := by rw [← hwx]; exact heap_alloc_new wr _
        obtain ⟨f0', f1', f2'⟩ := bx0.cells
        simp only at f0' f1' f2'
        clear hx hq hDp ht hb4 hz4 hgk hex hno hDl htk hbx bx0 HQ
        go_wp2_with fail
        refine KR.out.mono ?_
        rintro e w5 ⟨rfl, HS⟩
        clear KR e0 e1 e2 f0' f1' f2'
        go_wp2_with fail
        go_roundw
        case rel => exact ⟨k + 1, by go_num, by omega, HS⟩
        case measure => simp [intOf]; omega
      · obtain rfl : k = n := by omega
        have hnn : decide ((k : Int) < (k : Int)) = false := by simp
        have FIN : Hid (∃ A1 st, IsU wr o A1 st base f0 (seedU base l) ∧ 0 ≤ st ∧ st ≤ 4000 ∧ (∀ j, A1 j → w.heap.size ≤ j) ∧ Below w.heap.size w wr) := by
          obtain ⟨⟨A1, D, hq, hDp, ht⟩, hb4, hz4, hgk⟩ := HQ.out
          rw [List.take_of_length_le (by rw [HL.out.2.2.1]; exact Nat.le_refl _)] at hDp
          have hper : D.Perm (dL (seedU base l)) := by rw [← seed_days]; exact hDp.trans (HL.out.1.map _)
          have hz3 := HP.out.2.2.size
          refine Lib.hid ⟨A1, _, ⟨s, d, D, hq, hper, HG.out.1⟩, by omega, by omega, fun j hj => ?_, HP.out.2.2.trans (((HP.out.1.self hb4).trans ht).below HP.out.2.1 hz3)⟩
          have hz4' := hb4.size
          rcases ht.sub j hj with h | h
          · exact HP.out.2.1 j h
          · omega
        clear HQ HL HP HG HX4 hlt
        go_wp2_with fail
        go_ret2
        obtain ⟨A1, st', h⟩ := FIN.out
        exact ⟨o, A1, st', rfl, h⟩
  · refine Calls.mono (?_ : Calls _ _ _ _ (fun e w' => e = .returned (.tuple #[.pointer none, .int .i64 1]) ∧ Below w.heap.size w w')) (fun e w' h => by unfold SeedPost; rw [if_neg hg]; exact h)
    have K := Lib.hid (K0.mono (fun e w' h => by unfold SeedPostP at h; rw [if_neg hg] at h; exact h))
    clear hg hn hl hr hb1 hf1 hs1 K0
    go_enter Tryz.func59, Tryz.ntmps59
    go_wp2_with fail
    refine K.out.mono ?_
    rintro e w1 ⟨rfl, hb⟩
    have HB := Lib.hid (HB1.out.1.trans (hb.mono HB1.out.1.size))
    clear hb K d0 d1
    go_wp2_with fail
    go_ret2
    exact ⟨rfl, HB.out⟩

end Go.Proofs.YtandmngfajoinaaGreat

namespace Go.Proofs.YtandmngfajoinaaGreat
open Go.RowKit Go.Maps

/-- A queue that was made since W, its steps at most S; the blocks F are none of its. -/
def SIn (W w : World) (s : Nat) (base cur : Int) (R : List TI) (S : Nat) (F : Nat → Prop) : Prop :=
  ∃ A st, IsU w s A st base cur R ∧ 0 ≤ st ∧ st ≤ (S : Int) ∧ (∀ k, A k → W.heap.size ≤ k) ∧ Below W.heap.size W w ∧ ∀ k, F k → k < w.heap.size ∧ ¬ A k
section
variable {W w w' : World} {s S : Nat} {base cur : Int} {R : List TI} {F : Nat → Prop}
theorem SIn.wf (h : SIn W w s base cur R S F) : WfS base cur (cutL R) := by
  obtain ⟨A, st, h1, _⟩ := h
  exact h1.wf
theorem SIn.frame (h : SIn W w s base cur R S F) : Below W.heap.size W w := by
  obtain ⟨A, st, h1, h2, h3, h4, h5, h6⟩ := h
  exact h5
theorem SIn.below (h : SIn W w s base cur R S F) (hb : Below w.heap.size w w') : SIn W w' s base cur R S F := by
  obtain ⟨A, st, h1, h2, h3, h4, h5, h6⟩ := h
  exact ⟨A, st, h1.below hb, h2, h3, h4, h5.trans (hb.mono h5.size), fun k hk => ⟨by have := (h6 k hk).1; have := hb.size; omega, (h6 k hk).2⟩⟩
theorem SIn.weak (h : SIn W w s base cur R S F) {S' : Nat} (hS : S ≤ S') : SIn W w s base cur R S' F := by
  obtain ⟨A, st, h1, h2, h3, h4, h5, h6⟩ := h
  exact ⟨A, st, h1, h2, by omega, h4, h5, h6⟩
/-- What has been made since is none of its. -/
theorem SIn.more {G : Nat → Prop} (h : SIn W w s base cur R S F) (hb : Below w.heap.size w w') (hG : ∀ k, G k → F k ∨ (w.heap.size ≤ k ∧ k < w'.heap.size)) : SIn W w' s base cur R S G := by
  obtain ⟨A, st, h1, h2, h3, h4, h5, h6⟩ := h
  refine ⟨A, st, h1.below hb, h2, h3, h4, h5.trans (hb.mono h5.size), fun k hk => ?_⟩
  rcases hG k hk with h | h
  · exact ⟨by have := (h6 k h).1; have := hb.size; omega, (h6 k h).2⟩
  · exact ⟨h.2, fun hq => by have := h1.lt k hq; omega⟩
theorem SIn.alloc (h : SIn W w s base cur R S F) (o : Obj) : SIn W (w.alloc o) s base cur R S F := h.below ((Below.refl _ w).alloc (Nat.le_refl _) o)
theorem SIn.post {A : Nat → Prop} {K : Nat} {st base' cur' : Int} {R' : List TI} (hP : UPost s A st base' cur' R' K w w') (h2 : 0 ≤ st) (h3 : st ≤ (S : Int)) (h4 : ∀ k, A k → W.heap.size ≤ k) (h5 : Below W.heap.size W w) (h6 : ∀ k, F k → k < w.heap.size ∧ ¬ A k) :
    SIn W w' s base' cur' R' (S + K) F ∧ ∀ k, F k → w'.heap[k]? = w.heap[k]? := by
  obtain ⟨A', hq, ht⟩ := hP
  refine ⟨⟨A', _, hq, by omega, by omega, fun j hj => ?_, h5.trans (ht.below h4 h5.size), fun j hj => ?_⟩, fun j hj => ht.block j (h6 j hj).1 (h6 j hj).2⟩
  · rcases ht.sub j hj with h | h
    · exact h4 j h
    · have := h5.size; omega
  · have h7 := (h6 j hj).1
    refine ⟨by have := ht.size; omega, fun hq' => ?_⟩
    rcases ht.sub j hq' with h | h
    · exact (h6 j hj).2 h
    · omega
theorem SIn.day (h : SIn W w s base cur R S F) : DayOk R := by
  obtain ⟨A, st, h1, _⟩ := h
  exact h1.day
/-- What comes back, and what is left. -/
def InPost (W w : World) (s : Nat) (base cur : Int) (R : List TI) (S : Nat) (F : Nat → Prop) (r : Value) (e : Ending) (w' : World) : Prop :=
  e = .returned r ∧ SIn W w' s base cur R S F ∧ ∀ k, F k → w'.heap[k]? = w.heap[k]?
theorem sput_in (x : RI) (h : SIn W w s base cur R S F) (h1 : -3900000000000000000 ≤ base) (h2 : base ≤ 3900000000000000000) (hS : S ≤ 1000000000) :
    Calls Tryz.prog 181 #[.pointer (some ⟨s, 0, none⟩), .int .i64 x.1, .int .i64 x.2.1, .int .i64 x.2.2] w (InPost W w s (putU base R x).2.1 cur (putU base R x).2.2 (S + 24) F (.int .i64 (putU base R x).1)) := by
  obtain ⟨A, st, g1, g2, g3, g4, g5, g6⟩ := h
  refine (sput_k x.1 x.2.1 x.2.2 w g1 h1 h2 g2 (by omega)).mono ?_
  rintro e w' ⟨rfl, hP⟩
  exact ⟨rfl, SIn.post hP g2 g3 g4 g5 g6⟩
theorem senter_in (x : RI) (h : SIn W w s base cur R S F) (h1 : -3900000000000000000 ≤ base) (h2 : base ≤ 3900000000000000000) (hS : S ≤ 1000000000) :
    Calls Tryz.prog 177 #[.pointer (some ⟨s, 0, none⟩), .int .i64 x.1, .int .i64 x.2.1, .int .i64 x.2.2] w (InPost W w s (enterU base R x).2.1 cur (enterU base R x).2.2 (S + 24) F (.int .i64 (enterU base R x).1)) := by
  obtain ⟨A, st, g1, g2, g3, g4, g5, g6⟩ := h
  refine (senter_k x.1 x.2.1 x.2.2 w g1 h1 h2 g2 (by omega)).mono ?_
  rintro e w' ⟨rfl, hP⟩
  exact ⟨rfl, SIn.post hP g2 g3 g4 g5 g6⟩
theorem spick_in (h : SIn W w s base cur R S F) :
    Calls Tryz.prog 180 #[.pointer (some ⟨s, 0, none⟩)] w (InPost W w s base (pickC R) R S F (.tuple #[.int .i64 (pickV R), .bool (pickB R)])) := by
  obtain ⟨A, st, g1, g2, g3, g4, g5, g6⟩ := h
  refine (spick_k w g1).mono ?_
  rintro e w' ⟨rfl, hP⟩
  exact ⟨rfl, SIn.post hP g2 g3 g4 g5 g6⟩
theorem scharge_in (h : SIn W w s base cur R S F) (hS : S ≤ 1000000000) :
    Calls Tryz.prog 176 #[.pointer (some ⟨s, 0, none⟩)] w (InPost W w s (chargeU base cur R).2.2.1 cur (chargeU base cur R).2.2.2 (S + 32) F (.tuple #[.int .i64 (chargeU base cur R).1, .int .i64 (chargeU base cur R).2.1])) := by
  obtain ⟨A, st, g1, g2, g3, g4, g5, g6⟩ := h
  refine (scharge_k w g1 g2 (by omega)).mono ?_
  rintro e w' ⟨rfl, hP⟩
  exact ⟨rfl, SIn.post hP g2 g3 g4 g5 g6⟩
theorem sleave_in (id : Int) (h : SIn W w s base cur R S F) (hid : wf64 id) (hS : S ≤ 1000000000) :
    Calls Tryz.prog 179 #[.pointer (some ⟨s, 0, none⟩), .int .i64 id] w (InPost W w s (leaveU base cur R id).2.2.1 (leaveU base cur R id).2.2.2.1 (leaveU base cur R id).2.2.2.2 (S + 24) F (.tuple #[.int .i64 (leaveU base cur R id).1, .int .i64 (leaveU base cur R id).2.1])) := by
  obtain ⟨A, st, g1, g2, g3, g4, g5, g6⟩ := h
  refine (sleave_k id w g1 hid g2 (by omega)).mono ?_
  rintro e w' ⟨rfl, hP⟩
  exact ⟨rfl, SIn.post hP g2 g3 g4 g5 g6⟩
theorem sweigh_in (id n : Int) (h : SIn W w s base cur R S F) (hid : wf64 id) (hn : wf64 n) (hS : S ≤ 1000000000) :
    Calls Tryz.prog 182 #[.pointer (some ⟨s, 0, none⟩), .int .i64 id, .int .i64 n] w (InPost W w s base cur (weighU R id n).2 (S + 16) F (.int .i64 (weighU R id n).1)) := by
  obtain ⟨A, st, g1, g2, g3, g4, g5, g6⟩ := h
  refine (sweigh_k id n w g1 hid hn g2 (by omega)).mono ?_
  rintro e w' ⟨rfl, hP⟩
  exact ⟨rfl, SIn.post hP g2 g3 g4 g5 g6⟩
def FormPost (W w : World) (s : Nat) (base cur : Int) (R : List TI) (S : Nat) (F : Nat → Prop) (e : Ending) (w' : World) : Prop :=
  ∃ A c, e = .returned (.agg #[.int .i64 cur, .slice A R.length c]) ∧ TRow w' A (formU base R) ∧ SIn W w' s base cur R S F ∧ Below w.heap.size w w'
theorem sform_in (h : SIn W w s base cur R S F) :
    Calls Tryz.prog 178 #[.pointer (some ⟨s, 0, none⟩)] w (FormPost W w s base cur R S F) := by
  have h' := h
  obtain ⟨A, st, g1, _⟩ := h
  refine (sform_k w g1).mono ?_
  rintro e w' ⟨A, c, rfl, hT, hb⟩
  exact ⟨A, c, rfl, hT, h'.below hb, hb⟩
end
end Go.Proofs.YtandmngfajoinaaGreat

namespace Go.Proofs.YtandmngfajoinaaGreat
open Go.RowKit Go.Maps

def aw1 : List TI := [(1, 1, 0, 931170240)]
def aw2 : List TI := [(1, 1, 0, 931170240), (2, 1, 0, 931170240)]
def aw3 : List TI := [(1, 1, 232792560, 931170240), (2, 1, 0, 931170240)]
theorem tri {a : Int × Int × List TI} {x y : Int} {z : List TI} (h1 : a.1 = x) (h2 : a.2.1 = y) (h3 : a.2.2 = z) : a = (x, y, z) := by rw [← h1, ← h2, ← h3]
theorem quad {a : Int × Int × Int × List TI} {x y u : Int} {z : List TI} (h1 : a.1 = x) (h2 : a.2.1 = y) (h3 : a.2.2.1 = u) (h4 : a.2.2.2 = z) : a = (x, y, u, z) := by rw [← h1, ← h2, ← h3, ← h4]
theorem aw_init : enterU 0 [] (1, 1, 0) = (0, 0, aw1) ∧ enterU 0 aw1 (2, 1, 0) = (0, 0, aw2) := ⟨tri (by decide +kernel) (by decide +kernel) (by decide +kernel), tri (by decide +kernel) (by decide +kernel) (by decide +kernel)⟩
theorem aw_run : (pickV aw2 = 1 ∧ pickB aw2 = true ∧ pickC aw2 = 1) ∧ chargeU 0 1 aw2 = (1, 0, 0, aw3) ∧ pickV aw3 = 2 ∧ pickB aw3 = true := ⟨by decide +kernel, quad (by decide +kernel) (by decide +kernel) (by decide +kernel) (by decide +kernel), by decide +kernel, by decide +kernel⟩
end Go.Proofs.YtandmngfajoinaaGreat
