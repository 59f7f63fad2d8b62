/- slices.symMergeCmpFunc where the left side is one element. -/
import Derived.Test.YtaeondpeaabfeaaSc
namespace Go.Proofs.Ytaeondpeaabfeaa
open Go.RowKit Go.Sort Go.Lib
variable {f : Int → Int}

/-- What every walk of the family is told. -/
structure Fam (f : Int → Int) (g : Nat) (cb : Array Value) (cf : Int → Int → Int) (blk off : Nat) (d0 : Array Int) (w0 : World) : Prop where
  eg : ∀ args w, (callFunc g args).run Try.prog w = .ok (.enter g args) w
  hcmp : CmpLays1 Try.prog g cb (encF f) cf blk off d0.size w0
  R : Row1 (encF f) w0 blk off d0
  hsz : d0.size < 4611686018427387904

/-- Where the search for the place of the first stands. -/
def SeekL (f : Int → Int) (cf : Int → Int → Int) (w0 : World) (blk off a b : Nat) (d : Array Int) (i j : Nat) (w : World) : Prop :=
  (a + 1 ≤ i ∧ i ≤ j ∧ j ≤ b) ∧ (i = a + 1 ∨ ltOf cf d[i - 1]! d[a]! = true) ∧ (j = b ∨ ltOf cf d[j]! d[a]! = false) ∧ SW (encF f) w0 blk off d w

/-- The first on its way to its place: it lies at k now. -/
def ShiftL (f : Int → Int) (w0 : World) (blk off a i : Nat) (d : Array Int) (k : Nat) (dk : Array Int) (w : World) : Prop :=
  dk.size = d.size ∧ (∀ q, dk[q]! = if a ≤ q ∧ q < k then d[q + 1]! else if q = k then d[a]! else d[q]!) ∧ PermIn a i d dk ∧ SW (encF f) w0 blk off dk w

theorem ShiftL.next {w0 : World} {blk off a i : Nat} {d d0 : Array Int} {k : Nat} {dk : Array Int} {w : World} (h : ShiftL f w0 blk off a i d k dk w) (R : Row1 (encF f) w0 blk off d0) (ha : a ≤ k) (hk : k + 1 < i) (hi : i ≤ d.size) :
    ShiftL f w0 blk off a i d (k + 1) (swp dk k (k + 1)) ((w.setCell ⟨blk, off + k, none⟩ (.int .i64 (f dk[k + 1]!))).setCell ⟨blk, off + (k + 1), none⟩ (.int .i64 (f dk[k]!))).drew := by
  obtain ⟨h1, h2, h3, h4⟩ := h
  refine ⟨by rw [size_swp]; exact h1, ?_, ?_, h4.swapped R k (k + 1) (by omega) (by omega)⟩
  · intro q
    rw [swp_get dk (by omega) (by omega), h2 q, h2 k, h2 (k + 1)]
    repeat' split
    all_goals first | rfl | (exfalso; omega) | (apply congr_at (fun k => d[k]!); omega)
  · exact permIn_trans _ _ _ _ _ h3 (swp_permIn dk a i k (k + 1) (by omega) (by omega) (by omega) (by omega) (by omega))

theorem ShiftL.done {lt : Int → Int → Bool} {cf : Int → Int → Int} {w0 : World} {blk off a b i : Nat} {d : Array Int} {k : Nat} {dk : Array Int} {w : World} (h : ShiftL f w0 blk off a i d k dk w) (hS : SWO lt) (H : Sides lt (ltOf cf) a (a + 1) b d) (hk : k + 1 = i)
    (hl : i = a + 1 ∨ ltOf cf d[i - 1]! d[a]! = true) (hr : i = b ∨ ltOf cf d[i]! d[a]! = false) (hib : a + 1 ≤ i ∧ i ≤ b) (hb : b ≤ d.size) : Merged lt a b d dk ∧ SW (encF f) w0 blk off dk w := by
  obtain ⟨h1, h2, h3, h4⟩ := h
  refine ⟨⟨permIn_mono _ _ _ _ _ _ (Nat.le_refl _) hib.2 hb h3, ?_⟩, h4⟩
  refine base_left hS H.right hib.1 hib.2 ?_ ?_ ?_
  · rcases hl with hl | hl
    · exact .inl hl
    · by_cases e : i = a + 1
      · exact .inl e
      · exact .inr (by rw [← H.cross a (i - 1) (by omega) (by omega) (by omega) (by omega)]; exact hl)
  · rcases hr with hr | hr
    · exact .inl hr
    · by_cases e : i = b
      · exact .inl e
      · exact .inr (by rw [← H.cross a i (by omega) (by omega) (by omega) (by omega)]; exact hr)
  · intro q
    rw [h2 q]
    subst hk
    repeat' split
    all_goals first | rfl | (exfalso; omega)

set_option maxHeartbeats 4000000 in
set_option maxRecDepth 100000 in
theorem sym_left (lt : Int → Int → Bool) (hS : SWO lt) (cf : Int → Int → Int) (g : Nat) (cb : Array Value) (blk off cap a b : Nat) (d0 d : Array Int) (w0 w : World) (F : Fam f g cb cf blk off d0 w0) (hs : d0.size = d.size) (S : SW (encF f) w0 blk off d w)
    (hmb : a + 1 < b) (hb : b ≤ d.size) (H : Sides lt (ltOf cf) a (a + 1) b d) (m : Nat) (hm : m = a + 1) :
    Calls Try.prog 50 #[.slice (some ⟨blk, off, none⟩) d.size cap, .int .i64 a, .int .i64 m, .int .i64 b, .func (.func g) #[] cb] w (SortPost f w0 blk off a b lt d) := by
  have mixed : Try.prog.follows .mixedOrders = true := by kernel_rfl
  have eg := F.eg
  have HF : Aside _ := F
  have hz := F.hsz
  have HS : Hid (SeekL f cf w0 blk off a b d m b w) := Lib.hid ⟨⟨by omega, by omega, by omega⟩, .inl hm, .inl rfl, S⟩
  have h1 : ((m : Int) - (a : Int) == 1) = true := by simp; omega
  have hme := Lib.hid hm
  have hm1 : a < m := by omega
  have hm2 : m < b := by omega
  have hs := Lib.hid hs
  clear hm S F
  go_enter Try.func50, Try.ntmps50
  go_wp2_with fail
  go_loopw [10, 11] (fun vi vj wr => ∃ (i j : Nat), vi = .int .i64 i ∧ vj = .int .i64 j ∧ Hid (SeekL f cf w0 blk off a b d i j wr)) (fun vi vj _ => (intOf vj).toNat - (intOf vi).toNat)
  case atStart => exact ⟨m, b, rfl, rfl, HS⟩
  case round =>
    obtain ⟨i, j, rfl, rfl, HI⟩ := hrel
    clear HS
    obtain ⟨h1, h2, h3⟩ := HI.out.1
    by_cases hlt : i < j
    · obtain ⟨h, hh⟩ : ∃ h, h = (i + j) / 2 := ⟨_, rfl⟩
      have hh1 : i ≤ h := by omega
      have hh2 : h < j := by omega
      have eh : ((i : Int) + (j : Int)) / 2 = (h : Int) := by omega
      have hhd : h < d.size := by omega
      have had : a < d.size := by omega
      clear hh
      have SJ := Lib.hid HI.out.2.2.2
      have hsd := hs.out
      have la := SJ.out.cl HF.out.R (by omega) h hhd
      have lb := SJ.out.cl HF.out.R (by omega) a had
      have hc := SJ.out.cmp HF.out.hcmp (by omega) d[h]! d[a]!
      unfold encF at la lb hc
      clear hsd
      cases hlv : ltOf cf d[h]! d[a]! with
      | true =>
        have HN : ∀ n os, Hid (SeekL f cf w0 blk off a b d (h + 1) j (grow (wr.drewN n) os)) := fun n os => Lib.hid ⟨⟨by omega, by omega, h3⟩, .inr hlv, HI.out.2.2.1, SJ.out.grown n os⟩
        obtain ⟨x, hx⟩ : ∃ x, x = d[h]! := ⟨_, rfl⟩
        obtain ⟨y, hy⟩ : ∃ x, x = d[a]! := ⟨_, rfl⟩
        rw [← hx] at la hc hlv
        rw [← hy] at lb hc hlv
        have hv : cf x y < 0 := of_decide_eq_true hlv
        have hd : decide (cf x y < 0) = true := decide_eq_true hv
        clear hx hy hlv SJ HI
        go_wp2_with fail
        go_quiet_grown (first | (go_at_fn g; refine Calls.grown_of (hc _ _)))
        have H2 := HN nq osq
        clear la lb hc HN
        generalize grow (wr.drewN nq) osq = w2 at H2 ⊢
        clear nq osq
        go_wp2_with fail
        go_roundw
        case rel => exact ⟨h + 1, j, by go_num, rfl, H2⟩
        case measure => simp [intOf]; omega
      | false =>
        have HN : ∀ n os, Hid (SeekL f cf w0 blk off a b d i h (grow (wr.drewN n) os)) := fun n os => Lib.hid ⟨⟨h1, by omega, by omega⟩, HI.out.2.1, .inr hlv, SJ.out.grown n os⟩
        obtain ⟨x, hx⟩ : ∃ x, x = d[h]! := ⟨_, rfl⟩
        obtain ⟨y, hy⟩ : ∃ x, x = d[a]! := ⟨_, rfl⟩
        rw [← hx] at la hc hlv
        rw [← hy] at lb hc hlv
        have hv : ¬ cf x y < 0 := of_decide_eq_false hlv
        have hd : decide (cf x y < 0) = false := decide_eq_false hv
        clear hx hy hlv SJ HI
        go_wp2_with fail
        go_quiet_grown (first | (go_at_fn g; refine Calls.grown_of (hc _ _)))
        have H2 := HN nq osq
        clear la lb hc HN
        generalize grow (wr.drewN nq) osq = w2 at H2 ⊢
        clear nq osq
        go_wp2_with fail
        go_roundw
        case rel => exact ⟨i, h, rfl, rfl, H2⟩
        case measure => simp [intOf]; omega
    · have hij : i = j := by omega
      subst hij
      have HB := Lib.hid HI.out.2
      have H0 : Hid (ShiftL f w0 blk off a i d a d wr) := Lib.hid ⟨rfl, fun k => by rw [if_neg (by omega)]; split <;> simp_all, permIn_refl _ _ _, HI.out.2.2.2⟩
      clear HI
      go_wp2_with fail
      go_loopw [13] (fun vk wr => ∃ (k : Nat) (dk : Array Int), vk = .int .i64 k ∧ (a ≤ k ∧ k + 1 ≤ i) ∧ Hid (ShiftL f w0 blk off a i d k dk wr)) (fun vk _ => i - (intOf vk).toNat)
      case atStart => exact ⟨a, d, rfl, ⟨by omega, by omega⟩, H0⟩
      case round =>
        obtain ⟨k, dk, rfl, ⟨hk1, hk2⟩, HK⟩ := hrel
        clear H0
        by_cases hlt : k + 1 < i
        · obtain ⟨q, hq⟩ : ∃ q, q = k + 1 := ⟨_, rfl⟩
          have hsd := hs.out
          have S2 := HK.out.2.2.2
          have hzk := HK.out.1
          have eb : ((k : Int) + 1).toNat = q := by omega
          have pb : (0 : Int) ≤ (k : Int) + 1 := by omega
          have bb : (k : Int) + 1 < (d.size : Int) := by omega
          have rb : IntKind.i64.wrap ((k : Int) + 1) = (k : Int) + 1 := by rw [IntKind.wrap_i64]; omega
          have pa : (0 : Int) ≤ (k : Int) := by omega
          have ba : (k : Int) < (d.size : Int) := by omega
          have hlz : (k : Int) < (i : Int) - 1 := by omega
          have ca := S2.c1 HF.out.R (by omega) k (by omega)
          have cb' := S2.c1 HF.out.R (by omega) q (by omega)
          unfold encF at ca cb'
          have fa := S2.f1 HF.out.R (by omega) k (by omega)
          have fb := S2.f1 HF.out.R (by omega) q (by omega)
          have HN := Lib.hid (HK.out.next HF.out.R hk1 hlt (by omega))
          rw [← hq] at HN
          obtain ⟨x, hx⟩ : ∃ x, x = f (dk[k]!) := ⟨_, rfl⟩
          obtain ⟨y, hy⟩ : ∃ x, x = f (dk[q]!) := ⟨_, rfl⟩
          obtain ⟨u, cc⟩ := S2.c2 HF.out.R (by omega) k q (by omega) (by omega) (.int .i64 y)
          rw [← hx, ← hy] at HN
          rw [← hx] at ca
          rw [← hy] at cb'
          have hq2 : k + 1 ≤ q := by omega
          have hq3 : q ≤ k + 1 := by omega
          clear S2 hx hy hzk hq HK hsd
          go_wp2_with fail
          go_region
          clear ca cb' fa fb cc
          generalize ((wr.setCell ⟨blk, off + k, none⟩ (.int .i64 y)).setCell ⟨blk, off + q, none⟩ (.int .i64 x)).drew = w3 at HN ⊢
          clear eb
          go_wp2
          go_roundw
          case rel => exact ⟨q, _, by congr 1; omega, ⟨by omega, by omega⟩, HN⟩
          case measure => simp [intOf]; omega
        · have hki : k + 1 = i := by omega
          have hlz : ¬ (k : Int) < (i : Int) - 1 := by omega
          have HE := Lib.hid (HK.out.done hS H hki HB.out.1 HB.out.2.1 (by omega) hb)
          clear HK hki
          go_wp2_with fail
          go_end0
          exact ⟨rfl, dk, HE.out⟩
end Go.Proofs.Ytaeondpeaabfeaa
