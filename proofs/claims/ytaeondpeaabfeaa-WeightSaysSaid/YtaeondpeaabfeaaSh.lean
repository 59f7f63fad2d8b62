/- slices.stableCmpFunc and slices.SortStableFunc: sorted, and stable. -/
import Derived.Test.YtaeondpeaabfeaaSg
namespace Go.Proofs.Ytaeondpeaabfeaa
open Go.RowKit Go.Sort Go.Lib
variable {f : Int → Int}

theorem insertion_n (lt : Int → Int → Bool) (hS : SWO lt) (cf : Int → Int → Int) (g : Nat) (cb : Array Value) (blk off cap a b : Nat) (d0 d : Array Int) (w0 w : World) (F : Fam f g cb cf blk off d0 w0) (hs : d0.size = d.size) (S : SW (encF f) w0 blk off d w) (hab : a ≤ b) (hb : b ≤ d.size)
    (hag : ∀ p q, a ≤ p → p < q → q < b → ltOf cf d[q]! d[p]! = lt d[q]! d[p]!) (N : Nat) (hN : d.size = N) (x y : Int) (hx : x = (a : Int)) (hy : y = (b : Int)) :
    Calls Try.prog 49 #[.slice (some ⟨blk, off, none⟩) N cap, .int .i64 x, .int .i64 y, .func (.func g) #[] cb] w (SortPost f w0 blk off a b lt d) := by
  subst hN hx hy
  exact insertion_c lt hS cf g cb blk off cap a b d0 d w0 w F.eg F.hcmp F.R hs S hab hb (by have := F.hsz; omega) hag
theorem sym_n (lt : Int → Int → Bool) (hS : SWO lt) (cf : Int → Int → Int) (g : Nat) (cb : Array Value) (blk off cap a m b : Nat) (d0 d : Array Int) (w0 w : World) (F : Fam f g cb cf blk off d0 w0) (hs : d0.size = d.size) (S : SW (encF f) w0 blk off d w) (ham : a < m) (hmb : m < b) (hb : b ≤ d.size)
    (H : Sides lt (ltOf cf) a m b d) (N : Nat) (hN : d.size = N) (x y z : Int) (hx : x = (a : Int)) (hy : y = (m : Int)) (hz : z = (b : Int)) :
    Calls Try.prog 50 #[.slice (some ⟨blk, off, none⟩) N cap, .int .i64 x, .int .i64 y, .int .i64 z, .func (.func g) #[] cb] w (SortPost f w0 blk off a b lt d) := by
  subst hx hy hz
  exact sym_all lt hS cf g cb blk off cap d0 w0 F (b - a) a m b d w N (Nat.le_refl _) ham hmb hb hs hN H S

/-- The relation of each loop, with the world. -/
def AtFirst (f : Int → Int) (lt : Int → Int → Bool) (w0 : World) (blk off : Nat) (d : Array Int) (t : Nat) (dk : Array Int) (w : World) : Prop := Begun lt d t dk ∧ SW (encF f) w0 blk off dk w
def AtOuter (f : Int → Int) (lt : Int → Int → Bool) (w0 : World) (blk off : Nat) (d : Array Int) (bs : Nat) (dk : Array Int) (w : World) : Prop := Blocks lt d bs dk ∧ SW (encF f) w0 blk off dk w
def AtInner (f : Int → Int) (lt : Int → Int → Bool) (w0 : World) (blk off : Nat) (d : Array Int) (bs t : Nat) (dk : Array Int) (w : World) : Prop := Pairs lt d bs t dk ∧ SW (encF f) w0 blk off dk w

set_option maxHeartbeats 4000000 in
set_option maxRecDepth 100000 in
theorem stable_c (lt : Int → Int → Bool) (hS : SWO lt) (cf : Int → Int → Int) (g : Nat) (cb : Array Value) (blk off cap : Nat) (d : Array Int) (w0 : World) (F : Fam f g cb cf blk off d w0) (ha : Agree lt (ltOf cf) d) :
    Calls Try.prog 40 #[.slice (some ⟨blk, off, none⟩) d.size cap, .int .i64 d.size, .func (.func g) #[] cb] w0 (SortPost f w0 blk off 0 d.size lt d) := by
  have hz := F.hsz
  have HF : Aside _ := F
  have HA := Lib.hid ha
  have HS : Hid (AtFirst f lt w0 blk off d 0 d w0) := Lib.hid ⟨Begun.start, SW.start F.R.hH⟩
  obtain ⟨n, hn⟩ : ∃ n, n = d.size := ⟨_, rfl⟩
  have HN := Lib.hid hn
  rw [← hn] at hz ⊢
  clear hn F ha
  go_enter Try.func40, Try.ntmps40
  go_wp2_with fail
  go_loopw [7, 8] (fun va vb wr => ∃ (t : Nat) (dk : Array Int), va = .int .i64 ((20 * t : Nat) : Int) ∧ vb = .int .i64 ((20 * t + 20 : Nat) : Int) ∧ 20 * t ≤ n ∧ Hid (AtFirst f lt w0 blk off d t dk wr)) (fun va _ _ => n - (intOf va).toNat)
  case atStart => exact ⟨0, d, rfl, rfl, by omega, HS⟩
  case round =>
    obtain ⟨t, dk, rfl, rfl, ht, HI⟩ := hrel
    clear HS
    obtain ⟨a, hae⟩ : ∃ a, a = 20 * t := ⟨_, rfl⟩
    rw [← hae] at ht ⊢
    have HE := Lib.hid hae
    clear hae
    by_cases hlt : a + 20 ≤ n
    · have hc : Hid (∀ x y : Int, x = (a : Int) → y = ((a + 20 : Nat) : Int) → Calls Try.prog 49 #[.slice (some ⟨blk, off, none⟩) n cap, .int .i64 x, .int .i64 y, .func (.func g) #[] cb] wr (SortPost f w0 blk off a (a + 20) lt dk)) :=
        Lib.hid fun x y hx hy => insertion_n lt hS cf g cb blk off cap a (a + 20) d dk w0 wr HF.out (by rw [HI.out.1.2.1.1]) HI.out.2 (by omega) (by rw [HI.out.1.2.1.1, ← HN.out]; omega) (HA.out.part (fun i y1 y2 => HI.out.1.2.2.2 i (by rw [← HE.out]; exact y1)) (by rw [← HN.out]; omega)) n (by rw [HI.out.1.2.1.1, HN.out]) x y hx hy
      have HX : Hid (∀ d' w', Merged lt a (a + 20) dk d' → SW (encF f) w0 blk off d' w' → Hid (AtFirst f lt w0 blk off d (t + 1) d' w')) := Lib.hid fun d' w' z1 z2 => Lib.hid ⟨HI.out.1.next (by rw [← HE.out, ← HN.out]; omega) (by rw [← HE.out]; exact z1), z2⟩
      clear HI
      go_wp2_with fail
      refine (hc.out _ _ (by omega) (by omega)).mono ?_
      rintro e w1 ⟨rfl, d', z1, z2⟩
      have H2 := HX.out d' w1 z1 z2
      clear z1 z2 HX hc
      go_wp2_with fail
      go_roundw
      case rel => exact ⟨t + 1, d', by rw [Nat.mul_add, ← HE.out]; congr 1, by rw [Nat.mul_add, ← HE.out]; congr 1, by rw [Nat.mul_add, ← HE.out]; omega, H2⟩
      case measure => simp [intOf]; omega
    · have hc : Hid (∀ x y : Int, x = (a : Int) → y = (n : Int) → Calls Try.prog 49 #[.slice (some ⟨blk, off, none⟩) n cap, .int .i64 x, .int .i64 y, .func (.func g) #[] cb] wr (SortPost f w0 blk off a n lt dk)) :=
        Lib.hid fun x y hx hy => insertion_n lt hS cf g cb blk off cap a n d dk w0 wr HF.out (by rw [HI.out.1.2.1.1]) HI.out.2 (by omega) (by rw [HI.out.1.2.1.1, ← HN.out]; omega) (HA.out.part (fun i y1 y2 => HI.out.1.2.2.2 i (by rw [← HE.out]; exact y1)) (by rw [← HN.out]; omega)) n (by rw [HI.out.1.2.1.1, HN.out]) x y hx hy
      have HX : Hid (∀ d' w', Merged lt a n dk d' → SW (encF f) w0 blk off d' w' → Hid (AtOuter f lt w0 blk off d 20 d' w')) := Lib.hid fun d' w' z1 z2 => Lib.hid ⟨HI.out.1.done (by rw [← HE.out, ← HN.out]; omega) (by rw [← HE.out, ← HN.out]; exact z1), z2⟩
      clear HI
      go_wp2_with fail
      refine (hc.out _ _ (by omega) (by omega)).mono ?_
      rintro e w1 ⟨rfl, d', z1, z2⟩
      have H2 := HX.out d' w1 z1 z2
      clear z1 z2 HX hc
      go_wp2_with fail
      go_loopw [6] (fun vs wr => ∃ (bs : Nat) (dk : Array Int), vs = .int .i64 bs ∧ 1 ≤ bs ∧ Hid (AtOuter f lt w0 blk off d bs dk wr)) (fun vs _ => n - (intOf vs).toNat)
      case atStart => exact ⟨20, d', rfl, by omega, H2⟩
      case round =>
        clear H2
        obtain ⟨bs, dk, rfl, hb1, HO⟩ := hrel
        by_cases hbn : bs < n
        · have H0 : Hid (AtInner f lt w0 blk off d bs 0 dk wr) := Lib.hid ⟨HO.out.1.pairs, HO.out.2⟩
          clear HO
          go_wp2_with fail
          go_loopw [7, 8] (fun va vb wr => ∃ (t a : Nat) (dk : Array Int), va = .int .i64 (a : Int) ∧ vb = .int .i64 ((a : Int) + 2 * (bs : Int)) ∧ Hid (a = 2 * (bs * t)) ∧ a ≤ n ∧ Hid (AtInner f lt w0 blk off d bs t dk wr)) (fun va _ _ => n - (intOf va).toNat)
          case atStart => exact ⟨0, 0, dk, rfl, by congr 1; omega, Lib.hid rfl, by omega, H0⟩
          case round =>
            clear H0
            obtain ⟨t, a, dk, rfl, rfl, HE2, han, HI⟩ := hrel
            by_cases hlt2 : a + 2 * bs ≤ n
            · have hc : Hid (∀ x y z : Int, x = (a : Int) → y = ((a + bs : Nat) : Int) → z = ((a + 2 * bs : Nat) : Int) → Calls Try.prog 50 #[.slice (some ⟨blk, off, none⟩) n cap, .int .i64 x, .int .i64 y, .int .i64 z, .func (.func g) #[] cb] wr (SortPost f w0 blk off a (a + 2 * bs) lt dk)) :=
                Lib.hid fun x y z hx hy hz => sym_n lt hS cf g cb blk off cap a (a + bs) (a + 2 * bs) d dk w0 wr HF.out (by rw [HI.out.1.1.1]) HI.out.2 (by omega) (by omega) (by rw [HI.out.1.1.1, ← HN.out]; omega) (by rw [HE2.out]; exact HI.out.1.sides HA.out (by omega) (by rw [← HE2.out, ← HN.out]; omega)) n (by rw [HI.out.1.1.1, HN.out]) x y z hx hy hz
              have HX : Hid (∀ d' w', Merged lt a (a + 2 * bs) dk d' → SW (encF f) w0 blk off d' w' → Hid (AtInner f lt w0 blk off d bs (t + 1) d' w')) := Lib.hid fun d' w' z1 z2 => Lib.hid ⟨HI.out.1.next (by rw [← HE2.out, ← HN.out]; omega) (by rw [← HE2.out]; exact z1), z2⟩
              clear HI
              have hlz : (a : Int) + 2 * (bs : Int) ≤ (n : Int) := by omega
              go_wp2_with fail
              refine (hc.out _ _ _ (by omega) (by omega) (by omega)).mono ?_
              rintro e w1 ⟨rfl, d', z1, z2⟩
              have H2 := HX.out d' w1 z1 z2
              clear z1 z2 HX hc
              go_wp2_with fail
              go_roundw
              case rel => exact ⟨t + 1, a + 2 * bs, d', by congr 1, by congr 1, Lib.hid (by rw [HE2.out, Nat.mul_add, Nat.mul_one]; omega), by omega, H2⟩
              case measure => simp [intOf]; omega
            · have hlz : ¬ (a : Int) + 2 * (bs : Int) ≤ (n : Int) := by omega
              by_cases hm : a + bs < n
              · have hmz : (a : Int) + (bs : Int) < (n : Int) := by omega
                have hc : Hid (∀ x y z : Int, x = (a : Int) → y = ((a + bs : Nat) : Int) → z = (n : Int) → Calls Try.prog 50 #[.slice (some ⟨blk, off, none⟩) n cap, .int .i64 x, .int .i64 y, .int .i64 z, .func (.func g) #[] cb] wr (SortPost f w0 blk off a n lt dk)) :=
                  Lib.hid fun x y z hx hy hz => sym_n lt hS cf g cb blk off cap a (a + bs) n d dk w0 wr HF.out (by rw [HI.out.1.1.1]) HI.out.2 (by omega) (by omega) (by rw [HI.out.1.1.1, ← HN.out]; omega) (by rw [HE2.out]; exact HI.out.1.sides HA.out (by rw [← HE2.out]; omega) (by rw [← HE2.out, ← HN.out]; omega)) n (by rw [HI.out.1.1.1, HN.out]) x y z hx hy hz
                have HX : Hid (∀ d' w', Merged lt a n dk d' → SW (encF f) w0 blk off d' w' → Hid (AtOuter f lt w0 blk off d (2 * bs) d' w')) := Lib.hid fun d' w' z1 z2 => Lib.hid ⟨HI.out.1.done (by rw [← HE2.out, ← HN.out]; omega) (by rw [← HE2.out, ← HN.out]; exact z1) (by rw [← HE2.out, ← HN.out]; omega), z2⟩
                clear HI
                go_wp2_with fail
                refine (hc.out _ _ _ (by omega) (by omega) (by omega)).mono ?_
                rintro e w1 ⟨rfl, d', z1, z2⟩
                have H2 := HX.out d' w1 z1 z2
                clear z1 z2 HX hc
                go_wp2_with fail
                go_roundw
                case rel => exact ⟨2 * bs, d', by congr 1; omega, by omega, H2⟩
                case measure => simp [intOf]; omega
              · have hmz : ¬ (a : Int) + (bs : Int) < (n : Int) := by omega
                have H2 : Hid (AtOuter f lt w0 blk off d (2 * bs) dk wr) := Lib.hid ⟨HI.out.1.over (by rw [← HE2.out, ← HN.out]; omega) (by rw [← HE2.out, ← HN.out]; omega), HI.out.2⟩
                clear HI
                go_wp2_with fail
                go_roundw
                case rel => exact ⟨2 * bs, dk, by congr 1; omega, by omega, H2⟩
                case measure => simp [intOf]; omega
        · have HZ := Lib.hid (And.intro (HO.out.1.all (by rw [← HN.out]; omega)) HO.out.2)
          rw [← HN.out] at HZ
          clear HO
          go_wp2_with fail
          go_end0
          exact ⟨rfl, dk, HZ.out⟩

set_option maxHeartbeats 400000 in
theorem sortstable_c (lt : Int → Int → Bool) (hS : SWO lt) (cf : Int → Int → Int) (g : Nat) (cb : Array Value) (blk off cap : Nat) (d : Array Int) (w0 : World) (F : Fam f g cb cf blk off d w0) (ha : Agree lt (ltOf cf) d) :
    Calls Try.prog 32 #[.slice (some ⟨blk, off, none⟩) d.size cap, .func (.func g) #[] cb] w0 (SortPost f w0 blk off 0 d.size lt d) := by
  have hc := Lib.hid (stable_c lt hS cf g cb blk off cap d w0 F ha)
  have hz := F.hsz
  obtain ⟨n, hn⟩ : ∃ n, n = d.size := ⟨_, rfl⟩
  rw [← hn] at hc hz ⊢
  have HN := Lib.hid hn
  clear hn F ha
  go_enter Try.func32, Try.ntmps32
  go_wp2_with fail
  refine hc.out.mono ?_
  rintro e w1 ⟨rfl, H2⟩
  have H3 := Lib.hid H2
  clear H2
  go_wp2_with fail
  go_end0
  exact ⟨rfl, H3.out⟩
end Go.Proofs.Ytaeondpeaabfeaa
