/- slices.symMergeCmpFunc. -/
import Derived.Test.YtaeondpeaabfeaaSe
import Derived.Deep.CutBlock
import Derived.Deep.DeepCutAuto
namespace Go.Proofs.Ytaeondpeaabfeaa
open Go.RowKit Go.Sort Go.Lib
variable {f : Int → Int}

/-- symMerge merges two sorted sides that are not more than k long together. -/
def SymOK (f : Int → Int) (lt : Int → Int → Bool) (cf : Int → Int → Int) (g : Nat) (cb : Array Value) (blk off cap : Nat) (d0 : Array Int) (w0 : World) (k : Nat) : Prop :=
  ∀ (a m b : Nat) (d : Array Int) (w : World) (N : Nat), b - a ≤ k → a < m → m < b → b ≤ d.size → d0.size = d.size → d.size = N → Sides lt (ltOf cf) a m b d → SW (encF f) w0 blk off d w →
    Calls Try.prog 50 #[.slice (some ⟨blk, off, none⟩) N cap, .int .i64 a, .int .i64 m, .int .i64 b, .func (.func g) #[] cb] w (SortPost f w0 blk off a b lt d)

theorem rotate_n (blk off cap a m b : Nat) (d0 d : Array Int) (w0 w : World) (v : Value) (R : Row1 (encF f) w0 blk off d0) (hs : d0.size = d.size) (S : SW (encF f) w0 blk off d w)
    (ham : a < m) (hmb : m < b) (hb : b ≤ d.size) (hsz : d.size < 4611686018427387904) :
    Calls Try.prog 52 #[.slice (some ⟨blk, off, none⟩) d.size cap, .int .i64 a, .int .i64 m, .int .i64 b, v] w (RotPost f w0 blk off a m b d) :=
  rotate_c blk off cap a m b d0 d w0 w v R hs S ham hmb hb hsz

/-- Where the search for the cut stands. -/
def SeekM (f : Int → Int) (cf : Int → Int → Int) (w0 : World) (blk off lo hi p : Nat) (d : Array Int) (s r : Nat) (w : World) : Prop :=
  (lo ≤ s ∧ s ≤ r ∧ r ≤ hi) ∧ (s = lo ∨ ltOf cf d[p + 1 - s]! d[s - 1]! = false) ∧ (r = hi ∨ ltOf cf d[p - r]! d[r]! = true) ∧ SW (encF f) w0 blk off d w

/-- What is known behind the rotation. -/
def Cut (f : Int → Int) (lt : Int → Int → Bool) (cf : Int → Int → Int) (w0 : World) (blk off a s mid e b : Nat) (d d1 : Array Int) (w : World) : Prop :=
  Parted lt (ltOf cf) a s mid e b d1 ∧ PermIn a b d d1 ∧ SW (encF f) w0 blk off d1 w

theorem SeekM.cut {lt : Int → Int → Bool} {cf : Int → Int → Int} {w0 : World} {blk off a m b mid lo hi s e : Nat} {d d1 : Array Int} {w w1 : World} (h : SeekM f cf w0 blk off lo hi (mid + m - 1) d s s w) (hS : SWO lt) (H : Sides lt (ltOf cf) a m b d)
    (ham : a < m) (hmb : m < b) (hmid : mid = (a + b) / 2) (hlh : m > mid ∧ lo = mid + m - b ∧ hi = mid ∨ m ≤ mid ∧ lo = a ∧ hi = m) (he : e = mid + m - s)
    (hd : ∀ k, d1[k]! = rotF (fun k => d[k]!) s m e k) (hp : PermIn a b d d1) (hw : SW (encF f) w0 blk off d1 w1) : Cut f lt cf w0 blk off a s mid e b d d1 w1 := by
  obtain ⟨⟨h1, _, h2⟩, h3, h4, _⟩ := h
  refine ⟨parted hS H (by omega) (by omega) (by omega) (by omega) (by omega) (by omega) ?_ ?_ hd, hp, hw⟩
  · rcases h3 with h3 | h3
    · omega
    · by_cases x : s = a
      · exact .inl x
      · right; right
        rw [show e = mid + m - 1 + 1 - s by omega]; exact h3
  · rcases h4 with h4 | h4
    · omega
    · right; right
      rw [show e - 1 = mid + m - 1 - s by omega]; exact h4

theorem Merged.same {lt : Int → Int → Bool} {a b : Nat} {d : Array Int} (h : SortedIn lt a b d) : Merged lt a b d d := ⟨permIn_refl _ _ _, h⟩

set_option maxHeartbeats 8000000 in
set_option maxRecDepth 100000 in
theorem sym_mid (lt : Int → Int → Bool) (hS : SWO lt) (cf : Int → Int → Int) (g : Nat) (cb : Array Value) (blk off cap a m b : Nat) (d0 d : Array Int) (w0 w : World) (F : Fam f g cb cf blk off d0 w0) (hs : d0.size = d.size) (S : SW (encF f) w0 blk off d w)
    (ham : a + 1 < m) (hmb : m + 1 < b) (hb : b ≤ d.size) (H : Sides lt (ltOf cf) a m b d) (IH : SymOK f lt cf g cb blk off cap d0 w0 (b - a - 1)) :
    Calls Try.prog 50 #[.slice (some ⟨blk, off, none⟩) d.size cap, .int .i64 a, .int .i64 m, .int .i64 b, .func (.func g) #[] cb] w (SortPost f w0 blk off a b lt d) := by
  have mixed : Try.prog.follows .mixedOrders = true := by kernel_rfl
  have eg := F.eg
  have HF : Aside _ := F
  have hz := F.hsz
  have hzd : d.size < 4611686018427387904 := by omega
  have HIH := Lib.hid IH
  have H0 := Lib.hid H
  obtain ⟨mid, hmid⟩ : ∃ mid, mid = (a + b) / 2 := ⟨_, rfl⟩
  have eM : ((a : Int) + (b : Int)) / 2 = (mid : Int) := by omega
  have hm1 : a < mid := by omega
  have hm2 : mid < b := by omega
  have HM := Lib.hid hmid
  have hs := Lib.hid hs
  have h0 : ((m : Int) - (a : Int) == 1) = false := by simp; omega
  have h1 : ((b : Int) - (m : Int) == 1) = false := by simp; omega
  obtain ⟨P, hP⟩ : ∃ P, P = mid + m - 1 := ⟨_, rfl⟩
  have eP : (mid : Int) + (m : Int) - 1 = (P : Int) := by omega
  have HP := Lib.hid hP
  have hP1 : P + 1 ≤ mid + m := by omega
  have hP2 : mid + m ≤ P + 1 := by omega
  obtain ⟨lo, hi, hlh, hl0⟩ : ∃ lo hi, (m > mid ∧ lo = mid + m - b ∧ hi = mid ∨ m ≤ mid ∧ lo = a ∧ hi = m) ∧ lo ≤ hi := by
    by_cases hc : m > mid
    · exact ⟨mid + m - b, mid, .inl ⟨hc, rfl, rfl⟩, by omega⟩
    · exact ⟨a, m, .inr ⟨by omega, rfl, rfl⟩, by omega⟩
  have HL := Lib.hid hlh
  have HS : Hid (SeekM f cf w0 blk off lo hi P d lo hi w) := Lib.hid ⟨⟨by omega, by omega, by omega⟩, .inl rfl, .inl rfl, S⟩
  have hlo : a ≤ lo := by omega
  have hhi : hi ≤ m := by omega
  have hhi2 : hi ≤ mid := by omega
  have hc1 : ∀ c, lo ≤ c → c < hi → c ≤ P ∧ P - c < b ∧ m ≤ P - c := by intro c _ _; omega
  have HC1 := Lib.hid hc1
  clear hmid hP F IH H S hc1
  go_enter Try.func50, Try.ntmps50
  go_upto_if 140 with fail
  go_cut [20, 21] (fun v1 v2 wx => v1 = .int .i64 lo ∧ v2 = .int .i64 hi ∧ wx = w)
  case first => as_aux_lemma =>
    by_cases hc : m > mid
    · have hcz : (mid : Int) < (m : Int) := by omega
      go_wp2_with fail
      go_meet
      exact ⟨by congr 1; omega, by congr 1; omega, rfl⟩
    · have hcz : ¬ (mid : Int) < (m : Int) := by omega
      go_wp2_with fail
      go_meet
      exact ⟨by congr 1; omega, by congr 1; omega, rfl⟩
  case rest =>
    obtain ⟨rfl, rfl, rfl⟩ := hcut
    clear hlh
    go_upto_block 8 with fail
    go_cut [20] (fun v1 wx => ∃ s : Nat, v1 = .int .i64 s ∧ Hid (SeekM f cf w0 blk off lo hi P d s s wx))
    case first => as_aux_lemma =>
      go_wp2_with fail
      go_loopw [20, 21] (fun vi vj wr => ∃ (s r : Nat), vi = .int .i64 s ∧ vj = .int .i64 r ∧ Hid (SeekM f cf w0 blk off lo hi P d s r wr)) (fun vi vj _ => (intOf vj).toNat - (intOf vi).toNat)
      case atStart => exact ⟨lo, hi, rfl, rfl, HS⟩
      case round =>
        obtain ⟨s, r, rfl, rfl, HI⟩ := hrel
        clear HS
        obtain ⟨h1, h2, h3⟩ := HI.out.1
        by_cases hlt : s < r
        · obtain ⟨c, hh⟩ : ∃ c, c = (s + r) / 2 := ⟨_, rfl⟩
          have hh1 : s ≤ c := by omega
          have hh2 : c < r := by omega
          have eh : ((s : Int) + (r : Int)) / 2 = (c : Int) := by omega
          clear hh
          obtain ⟨y1, y2, y3⟩ := HC1.out c (by omega) (by omega)
          obtain ⟨q, hq⟩ : ∃ q, q = P - c := ⟨_, rfl⟩
          rw [← hq] at y2 y3
          have hcd : c < d.size := by omega
          have hqd : q < d.size := by omega
          have SJ := Lib.hid HI.out.2.2.2
          have hsd := hs.out
          have la := SJ.out.cl HF.out.R (by omega) q hqd
          have lb := SJ.out.cl HF.out.R (by omega) c hcd
          have hcc := SJ.out.cmp HF.out.hcmp (by omega) d[q]! d[c]!
          unfold encF at la lb hcc
          have eq1 : ((P : Int) - (c : Int)).toNat = q := by omega
          have eq2 : (0 : Int) ≤ (P : Int) - (c : Int) := by omega
          have eq3 : (c : Int) ≤ (P : Int) := by omega
          have eq4 : (P : Int) - (c : Int) < (d.size : Int) := by omega
          have eq5 : IntKind.i64.wrap ((P : Int) - (c : Int)) = (P : Int) - (c : Int) := by rw [IntKind.wrap_i64]; omega
          clear hsd
          cases hlv : ltOf cf d[q]! d[c]! with
          | true => as_aux_lemma =>
            have HN : ∀ n os, Hid (SeekM f cf w0 blk off lo hi P d s c (grow (wr.drewN n) os)) := fun n os => Lib.hid ⟨⟨h1, by omega, by omega⟩, HI.out.2.1, .inr (by rw [← hq]; exact hlv), SJ.out.grown n os⟩
            obtain ⟨x, hx⟩ : ∃ x, x = d[q]! := ⟨_, rfl⟩
            obtain ⟨y, hy⟩ : ∃ x, x = d[c]! := ⟨_, rfl⟩
            rw [← hx] at la hcc hlv
            rw [← hy] at lb hcc hlv
            have hv : cf x y < 0 := of_decide_eq_true hlv
            have hd : decide (cf x y < 0) = true := decide_eq_true hv
            clear hx hy hlv SJ HI hq
            go_wp2_with fail
            go_quiet_grown (first | (go_at_fn g; refine Calls.grown_of (hcc _ _)))
            have H2 := HN nq osq
            clear la lb hcc HN
            generalize grow (wr.drewN nq) osq = w2 at H2 ⊢
            clear nq osq
            go_wp2_with fail
            go_roundw
            case rel => exact ⟨s, c, rfl, rfl, H2⟩
            case measure => simp [intOf]; omega
          | false => as_aux_lemma =>
            have HN : ∀ n os, Hid (SeekM f cf w0 blk off lo hi P d (c + 1) r (grow (wr.drewN n) os)) := fun n os => Lib.hid ⟨⟨by omega, by omega, h3⟩, .inr (by rw [show P + 1 - (c + 1) = q by omega]; exact hlv), HI.out.2.2.1, SJ.out.grown n os⟩
            obtain ⟨x, hx⟩ : ∃ x, x = d[q]! := ⟨_, rfl⟩
            obtain ⟨y, hy⟩ : ∃ x, x = d[c]! := ⟨_, rfl⟩
            rw [← hx] at la hcc hlv
            rw [← hy] at lb hcc hlv
            have hv : ¬ cf x y < 0 := of_decide_eq_false hlv
            have hd : decide (cf x y < 0) = false := decide_eq_false hv
            clear hx hy hlv SJ HI hq
            go_wp2_with fail
            go_quiet_grown (first | (go_at_fn g; refine Calls.grown_of (hcc _ _)))
            have H2 := HN nq osq
            clear la lb hcc HN
            generalize grow (wr.drewN nq) osq = w2 at H2 ⊢
            clear nq osq
            go_wp2_with fail
            go_roundw
            case rel => exact ⟨c + 1, r, by go_num, rfl, H2⟩
            case measure => simp [intOf]; omega
        · have hij : s = r := by omega
          subst hij
          go_wp2_with fail
          go_meet
          exact ⟨s, rfl, HI⟩
    case rest =>
      obtain ⟨s, rfl, HI⟩ := hcut
      obtain ⟨h1, _, h3⟩ := HI.out.1
      obtain ⟨e, he⟩ : ∃ e, e = mid + m - s := ⟨_, rfl⟩
      have eE : (mid : Int) + (m : Int) - (s : Int) = (e : Int) := by omega
      have hlh := HL.out
      have he1 : m ≤ e := by omega
      have he2 : e ≤ b := by omega
      have he3 : mid ≤ e := by omega
      have hsm : s ≤ mid := by omega
      have has : a ≤ s := by omega
      have hsm2 : s ≤ m := by omega
      have HE := Lib.hid he
      have HP' : Hid (SeekM f cf w0 blk off lo hi (mid + m - 1) d s s wc) := Lib.hid (by rw [← HP.out]; exact HI.out)
      clear he HC1 hlh HS
      go_upto_region 39 with fail
      go_cut [185] (fun v wx => ∃ c : Bool, v = .bool c ∧ Hid (c = true ↔ s < m ∧ m < e) ∧ wx = wc)
      case first => as_aux_lemma =>
        by_cases hr1 : s < m <;> by_cases hr2 : m < e
        all_goals
          go_wp2_with fail
          go_meet
          exact ⟨_, rfl, Lib.hid (by simp [hr1, hr2]), rfl⟩
      case rest =>
        obtain ⟨c, rfl, hc, rfl⟩ := hcut
        go_upto_if 185 with fail
        go_cut [20] (fun v1 wx => v1 = .int .i64 s ∧ ∃ d1, Hid (Cut f lt cf w0 blk off a s mid e b d d1 wx))
        case first => as_aux_lemma =>
          cases c
          · have HK := Lib.hid (HP'.out.cut hS H0.out (by omega) (by omega) HM.out HL.out HE.out (d1 := d) (fun k => (rot_none _ s m e (by omega) (by omega) (by have := hc.out; simp at this; omega) k).symm) (permIn_refl _ _ _) HI.out.2.2.2)
            go_wp2_with fail
            go_meet
            exact ⟨rfl, d, HK⟩
          · obtain ⟨hr1, hr2⟩ := hc.out.1 rfl
            have hcr := Lib.hid (rotate_n blk off cap s m e d0 d w0 wc (.func (.func g) #[] cb) HF.out.R hs.out HI.out.2.2.2 hr1 hr2 (by omega) hzd)
            have hcut : ∀ d1 w1, (∀ k, d1[k]! = rotF (fun k => d[k]!) s m e k) → PermIn s e d d1 → SW (encF f) w0 blk off d1 w1 → Hid (Cut f lt cf w0 blk off a s mid e b d d1 w1) := fun d1 w1 z2 z3 z4 =>
              Lib.hid (HP'.out.cut hS H0.out (by omega) (by omega) HM.out HL.out HE.out z2 (permIn_mono _ _ _ _ _ _ (by omega) (by omega) hb z3) z4)
            have HC := Lib.hid hcut
            clear HI HP' hcut
            go_wp2_with fail
            go_at_call 52
            refine hcr.out.mono ?_
            rintro e' w1 ⟨rfl, d1, z1, z2, z3, z4⟩
            have HK := HC.out d1 w1 z2 z3 z4
            clear hcr z1 z2 z3 z4 HC
            go_wp2_with fail
            go_meet
            exact ⟨rfl, d1, HK⟩
        case rest =>
          obtain ⟨rfl, d1, HK⟩ := hcut
          clear HI HP' hc c
          have hz1 := Lib.hid HK.out.2.1.1
          go_upto_region 41 with fail
          go_cut [199] (fun v wx => ∃ c : Bool, v = .bool c ∧ Hid (c = true ↔ a < s ∧ s < mid) ∧ wx = wc)
          case first => as_aux_lemma =>
            by_cases hr1 : a < s <;> by_cases hr2 : s < mid
            all_goals
              go_wp2_with fail
              go_meet
              exact ⟨_, rfl, Lib.hid (by simp [hr1, hr2]), rfl⟩
          case rest =>
            obtain ⟨c, rfl, hc, rfl⟩ := hcut
            go_upto_if 199 with fail
            go_cut [20] (fun v1 wx => v1 = .int .i64 s ∧ ∃ d2, Hid (Merged lt a mid d1 d2 ∧ SW (encF f) w0 blk off d2 wx))
            case first => as_aux_lemma =>
              cases c
              · have HQ := Lib.hid (And.intro (Merged.same (HK.out.1.one.whole (by have := hc.out; simp at this; omega))) HK.out.2.2)
                go_wp2_with fail
                go_meet
                exact ⟨rfl, d1, HQ⟩
              · obtain ⟨hr1, hr2⟩ := hc.out.1 rfl
                have hc1 := Lib.hid (HIH.out a s mid d1 wc d.size (by omega) hr1 hr2 (by rw [hz1.out]; omega) (by rw [hz1.out]; exact hs.out) hz1.out HK.out.1.one HK.out.2.2)
                go_wp2_with fail
                go_at_call 50
                refine hc1.out.mono ?_
                rintro e' w2 ⟨rfl, d2, z1, z2⟩
                have HQ := Lib.hid (And.intro z1 z2)
                clear hc1 z1 z2
                go_wp2_with fail
                go_meet
                exact ⟨rfl, d2, HQ⟩
            case rest =>
              obtain ⟨rfl, d2, HQ⟩ := hcut
              clear hc c
              have hz2 : Hid (d2.size = d.size) := Lib.hid (HQ.out.1.1.1.trans hz1.out)
              have hk2 : Hid (∀ i, mid ≤ i → i < b → d2[i]! = d1[i]!) := Lib.hid fun i x1 x2 => HQ.out.1.1.2.1 i (by omega)
              have HT : Hid (Sides lt (ltOf cf) mid e b d2) := Lib.hid (HK.out.1.two.keep hk2.out he3 he2)
              have HR : Hid (∀ d3, Merged lt mid b d2 d3 → Merged lt a b d d3) := Lib.hid fun d3 z => HK.out.1.merged (by omega) (by omega) hb HK.out.2.1 HQ.out.1 z
              by_cases hr : mid < e ∧ e < b
              · obtain ⟨hr1, hr2⟩ := hr
                have hc1 := Lib.hid (HIH.out mid e b d2 wc d.size (by omega) hr1 hr2 (by rw [hz2.out]; omega) (by rw [hz2.out]; exact hs.out) hz2.out HT.out HQ.out.2)
                clear HT HK HQ hk2
                go_wp2_with fail
                go_at_call 50
                refine hc1.out.mono ?_
                rintro e' w2 ⟨rfl, d3, z1, z2⟩
                have HZ := Lib.hid (And.intro (HR.out d3 z1) z2)
                clear hc1 z1 z2 HR
                go_wp2_with fail
                go_end0
                exact ⟨rfl, d3, HZ.out⟩
              · have HZ := Lib.hid (And.intro (HR.out d2 (Merged.same (HT.out.whole (by omega)))) HQ.out.2)
                clear HT HK HQ hk2 HR
                by_cases hr1 : mid < e
                · have hr2 : ¬ e < b := by omega
                  go_wp2_with fail
                  go_end0
                  exact ⟨rfl, d2, HZ.out⟩
                · go_wp2_with fail
                  go_end0
                  exact ⟨rfl, d2, HZ.out⟩

theorem sym_all (lt : Int → Int → Bool) (hS : SWO lt) (cf : Int → Int → Int) (g : Nat) (cb : Array Value) (blk off cap : Nat) (d0 : Array Int) (w0 : World) (F : Fam f g cb cf blk off d0 w0) : ∀ k, SymOK f lt cf g cb blk off cap d0 w0 k
  | 0 => fun a m b d w N h1 h2 h3 _ _ _ _ _ => by omega
  | k + 1 => by
    intro a m b d w N h1 h2 h3 h4 h5 h6 h7 h8
    subst h6
    by_cases hl : m = a + 1
    · subst hl; exact sym_left lt hS cf g cb blk off cap a b d0 d w0 w F h5 h8 h3 h4 h7 _ rfl
    · by_cases hr : b = m + 1
      · subst hr; exact sym_right lt hS cf g cb blk off cap a m d0 d w0 w F h5 h8 (by omega) (by omega) h7 _ rfl
      · refine sym_mid lt hS cf g cb blk off cap a m b d0 d w0 w F h5 h8 (by omega) (by omega) h4 h7 ?_
        intro a' m' b' d' w' N' x1
        exact sym_all lt hS cf g cb blk off cap d0 w0 F k a' m' b' d' w' N' (by omega)
end Go.Proofs.Ytaeondpeaabfeaa
