/- slices.symMergeCmpFunc where the right side is one element. -/
import Derived.Test.YtaeondpeaabfeaaSd
namespace Go.Proofs.Ytaeondpeaabfeaa
open Go.RowKit Go.Sort Go.Lib
variable {f : Int → Int}

/-- Where the search for the place of the last stands. -/
def SeekR (f : Int → Int) (cf : Int → Int → Int) (w0 : World) (blk off a m : Nat) (d : Array Int) (i j : Nat) (w : World) : Prop :=
  (a ≤ i ∧ i ≤ j ∧ j ≤ m) ∧ (i = a ∨ ltOf cf d[m]! d[i - 1]! = false) ∧ (j = m ∨ ltOf cf d[m]! d[j]! = true) ∧ SW (encF f) w0 blk off d w
/-- The last on its way to its place: it lies at k now. -/
def ShiftR (f : Int → Int) (w0 : World) (blk off i m : Nat) (d : Array Int) (k : Nat) (dk : Array Int) (w : World) : Prop :=
  dk.size = d.size ∧ (∀ q, dk[q]! = if k < q ∧ q ≤ m then d[q - 1]! else if q = k then d[m]! else d[q]!) ∧ PermIn i (m + 1) d dk ∧ SW (encF f) w0 blk off dk w

theorem ShiftR.next {w0 : World} {blk off i m : Nat} {d d0 : Array Int} {k : Nat} {dk : Array Int} {w : World} (h : ShiftR f w0 blk off i m d (k + 1) dk w) (R : Row1 (encF f) w0 blk off d0) (hi : i ≤ k) (hk : k + 1 ≤ m) (hm : m < d.size) :
    ShiftR f w0 blk off i m d k (swp dk (k + 1) k) ((w.setCell ⟨blk, off + (k + 1), none⟩ (.int .i64 (f dk[k]!))).setCell ⟨blk, off + k, none⟩ (.int .i64 (f dk[k + 1]!))).drew := by
  obtain ⟨h1, h2, h3, h4⟩ := h
  refine ⟨by rw [size_swp]; exact h1, ?_, ?_, h4.swapped R (k + 1) k (by omega) (by omega)⟩
  · intro q
    rw [swp_get dk (by omega) (by omega), h2 q, h2 k, h2 (k + 1)]
    repeat' split
    all_goals first | rfl | (exfalso; omega) | (apply congr_at (fun k => d[k]!); omega)
  · exact permIn_trans _ _ _ _ _ h3 (swp_permIn dk i (m + 1) (k + 1) k (by omega) (by omega) (by omega) (by omega) (by omega))

theorem ShiftR.done {lt : Int → Int → Bool} {cf : Int → Int → Int} {w0 : World} {blk off a m i : Nat} {d : Array Int} {dk : Array Int} {w : World} (h : ShiftR f w0 blk off i m d i dk w) (hS : SWO lt) (H : Sides lt (ltOf cf) a m (m + 1) d)
    (hl : i = a ∨ ltOf cf d[m]! d[i - 1]! = false) (hr : i = m ∨ ltOf cf d[m]! d[i]! = true) (hib : a ≤ i ∧ i ≤ m) (hb : m < d.size) : Merged lt a (m + 1) d dk ∧ SW (encF f) w0 blk off dk w := by
  obtain ⟨h1, h2, h3, h4⟩ := h
  refine ⟨⟨permIn_mono _ _ _ _ _ _ hib.1 (Nat.le_refl _) (by omega) h3, ?_⟩, h4⟩
  refine base_right hS H.left hib.1 hib.2 ?_ ?_ h2
  · rcases hl with hl | hl
    · exact .inl hl
    · by_cases e : i = a
      · exact .inl e
      · exact .inr (by rw [← H.cross (i - 1) m (by omega) (by omega) (by omega) (by omega)]; exact hl)
  · rcases hr with hr | hr
    · exact .inl hr
    · by_cases e : i = m
      · exact .inl e
      · exact .inr (by rw [← H.cross i m (by omega) (by omega) (by omega) (by omega)]; exact hr)

set_option maxHeartbeats 4000000 in
set_option maxRecDepth 100000 in
theorem sym_right (lt : Int → Int → Bool) (hS : SWO lt) (cf : Int → Int → Int) (g : Nat) (cb : Array Value) (blk off cap a m : Nat) (d0 d : Array Int) (w0 w : World) (F : Fam f g cb cf blk off d0 w0) (hs : d0.size = d.size) (S : SW (encF f) w0 blk off d w)
    (ham : a + 1 < m) (hb : m < d.size) (H : Sides lt (ltOf cf) a m (m + 1) d) (b : Nat) (hbe : b = m + 1) :
    Calls Try.prog 50 #[.slice (some ⟨blk, off, none⟩) d.size cap, .int .i64 a, .int .i64 m, .int .i64 b, .func (.func g) #[] cb] w (SortPost f w0 blk off a (m + 1) lt d) := by
  have mixed : Try.prog.follows .mixedOrders = true := by kernel_rfl
  have eg := F.eg
  have HF : Aside _ := F
  have hz := F.hsz
  have HS : Hid (SeekR f cf w0 blk off a m d a m w) := Lib.hid ⟨⟨by omega, by omega, by omega⟩, .inl rfl, .inl rfl, S⟩
  have h0 : ((m : Int) - (a : Int) == 1) = false := by simp; omega
  have h1 : ((b : Int) - (m : Int) == 1) = true := by simp; omega
  have hm2 : m < b := by omega
  have hs := Lib.hid hs
  have hb1 : b ≤ m + 1 := by omega
  clear hbe S F
  go_enter Try.func50, Try.ntmps50
  go_wp2_with fail
  go_loopw [14, 15] (fun vi vj wr => ∃ (i j : Nat), vi = .int .i64 i ∧ vj = .int .i64 j ∧ Hid (SeekR f cf w0 blk off a m d i j wr)) (fun vi vj _ => (intOf vj).toNat - (intOf vi).toNat)
  case atStart => exact ⟨a, m, rfl, rfl, HS⟩
  case round =>
    obtain ⟨i, j, rfl, rfl, HI⟩ := hrel
    clear HS
    obtain ⟨h1, h2, h3⟩ := HI.out.1
    by_cases hlt : i < j
    · obtain ⟨h, hh⟩ : ∃ h, h = (i + j) / 2 := ⟨_, rfl⟩
      have hh1 : i ≤ h := by omega
      have hh2 : h < j := by omega
      have eh : ((i : Int) + (j : Int)) / 2 = (h : Int) := by omega
      have hhd : h < d.size := by omega
      have had : m < d.size := by omega
      clear hh
      have SJ := Lib.hid HI.out.2.2.2
      have hsd := hs.out
      have la := SJ.out.cl HF.out.R (by omega) m had
      have lb := SJ.out.cl HF.out.R (by omega) h hhd
      have hc := SJ.out.cmp HF.out.hcmp (by omega) d[m]! d[h]!
      unfold encF at la lb hc
      clear hsd
      cases hlv : ltOf cf d[m]! d[h]! with
      | true =>
        have HN : ∀ n os, Hid (SeekR f cf w0 blk off a m d i h (grow (wr.drewN n) os)) := fun n os => Lib.hid ⟨⟨h1, by omega, by omega⟩, HI.out.2.1, .inr hlv, SJ.out.grown n os⟩
        obtain ⟨x, hx⟩ : ∃ x, x = d[m]! := ⟨_, rfl⟩
        obtain ⟨y, hy⟩ : ∃ x, x = d[h]! := ⟨_, rfl⟩
        rw [← hx] at la hc hlv
        rw [← hy] at lb hc hlv
        have hv : cf x y < 0 := of_decide_eq_true hlv
        have hd : decide (cf x y < 0) = true := decide_eq_true hv
        clear hx hy hlv SJ HI
        go_wp2_with fail
        go_quiet_grown (first | (go_at_fn g; refine Calls.grown_of (hc _ _)))
        have H2 := HN nq osq
        clear la lb hc HN
        generalize grow (wr.drewN nq) osq = w2 at H2 ⊢
        clear nq osq
        go_wp2_with fail
        go_roundw
        case rel => exact ⟨i, h, rfl, rfl, H2⟩
        case measure => simp [intOf]; omega
      | false =>
        have HN : ∀ n os, Hid (SeekR f cf w0 blk off a m d (h + 1) j (grow (wr.drewN n) os)) := fun n os => Lib.hid ⟨⟨by omega, by omega, h3⟩, .inr hlv, HI.out.2.2.1, SJ.out.grown n os⟩
        obtain ⟨x, hx⟩ : ∃ x, x = d[m]! := ⟨_, rfl⟩
        obtain ⟨y, hy⟩ : ∃ x, x = d[h]! := ⟨_, rfl⟩
        rw [← hx] at la hc hlv
        rw [← hy] at lb hc hlv
        have hv : ¬ cf x y < 0 := of_decide_eq_false hlv
        have hd : decide (cf x y < 0) = false := decide_eq_false hv
        clear hx hy hlv SJ HI
        go_wp2_with fail
        go_quiet_grown (first | (go_at_fn g; refine Calls.grown_of (hc _ _)))
        have H2 := HN nq osq
        clear la lb hc HN
        generalize grow (wr.drewN nq) osq = w2 at H2 ⊢
        clear nq osq
        go_wp2_with fail
        go_roundw
        case rel => exact ⟨h + 1, j, by go_num, rfl, H2⟩
        case measure => simp [intOf]; omega
    · have hij : i = j := by omega
      subst hij
      have HB := Lib.hid HI.out.2
      have H0 : Hid (ShiftR f w0 blk off i m d m d wr) := Lib.hid ⟨rfl, fun q => by rw [if_neg (by omega)]; split <;> simp_all, permIn_refl _ _ _, HI.out.2.2.2⟩
      clear HI
      go_wp2_with fail
      go_loopw [17] (fun vk wr => ∃ (k : Nat) (dk : Array Int), vk = .int .i64 k ∧ (i ≤ k ∧ k ≤ m) ∧ Hid (ShiftR f w0 blk off i m d k dk wr)) (fun vk _ => (intOf vk).toNat)
      case atStart => exact ⟨m, d, rfl, ⟨by omega, by omega⟩, H0⟩
      case round =>
        obtain ⟨k, dk, rfl, ⟨hk1, hk2⟩, HK⟩ := hrel
        clear H0
        by_cases hlt : i < k
        · obtain ⟨q, hq⟩ : ∃ q, k = q + 1 := ⟨k - 1, by omega⟩
          have hsd := hs.out
          have S2 := HK.out.2.2.2
          have hzk := HK.out.1
          have zk : (k : Int) = (q : Int) + 1 := by omega
          have eb : ((q : Int) + 1).toNat = k := by omega
          have pb : (0 : Int) ≤ (q : Int) + 1 := by omega
          have bb : (q : Int) + 1 < (d.size : Int) := by omega
          have rb : IntKind.i64.wrap ((q : Int) + 1) = (q : Int) + 1 := by rw [IntKind.wrap_i64]; omega
          have pa : (0 : Int) ≤ (q : Int) := by omega
          have ba : (q : Int) < (d.size : Int) := by omega
          have hlz : (i : Int) < (q : Int) + 1 := by omega
          have ca := S2.c1 HF.out.R (by omega) k (by omega)
          have cb' := S2.c1 HF.out.R (by omega) q (by omega)
          unfold encF at ca cb'
          have fa := S2.f1 HF.out.R (by omega) k (by omega)
          have fb := S2.f1 HF.out.R (by omega) q (by omega)
          have HN := Lib.hid ((hq ▸ HK.out : ShiftR f w0 blk off i m d (q + 1) dk wr).next HF.out.R (by omega) (by omega) (by omega))
          rw [← hq] at HN
          obtain ⟨x, hx⟩ : ∃ x, x = f (dk[k]!) := ⟨_, rfl⟩
          obtain ⟨y, hy⟩ : ∃ x, x = f (dk[q]!) := ⟨_, rfl⟩
          obtain ⟨u, cc⟩ := S2.c2 HF.out.R (by omega) k q (by omega) (by omega) (.int .i64 y)
          rw [← hx, ← hy] at HN
          rw [← hx] at ca
          rw [← hy] at cb'
          have hq2 : q + 1 ≤ k := by omega
          have hq3 : k ≤ q + 1 := by omega
          clear S2 hx hy hzk hq HK hsd
          go_wp2_with fail
          go_region
          clear ca cb' fa fb cc
          generalize ((wr.setCell ⟨blk, off + k, none⟩ (.int .i64 y)).setCell ⟨blk, off + q, none⟩ (.int .i64 x)).drew = w3 at HN ⊢
          clear eb zk
          go_wp2
          go_roundw
          case rel => exact ⟨q, _, by congr 1; omega, ⟨by omega, by omega⟩, HN⟩
          case measure => simp [intOf]; omega
        · have hki : k = i := by omega
          subst hki
          have HE := Lib.hid (HK.out.done hS H HB.out.1 HB.out.2.1 (by omega) hb)
          clear HK
          go_wp2_with fail
          go_end0
          exact ⟨rfl, dk, HE.out⟩
end Go.Proofs.Ytaeondpeaabfeaa
