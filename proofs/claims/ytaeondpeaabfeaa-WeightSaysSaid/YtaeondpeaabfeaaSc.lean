/- The contract of slices.insertionSortCmpFunc, laid at this program: the library's own, over any program. -/
import Derived.Test.YtaeondpeaabfeaaSb
import Derived.Shelf.SlSortCmp.Insertion1
namespace Go.Proofs.Ytaeondpeaabfeaa
open Go.RowKit Go.Sort Go.Lib Go.Shelf
variable {f : Int → Int}

def insRen : Go.Shelf.Ren := ⟨fun | 20 => 49 | n => n, fun | 0 => 0 | 3 => 3 | 4 => 4 | 22 => 27 | 24 => 3 | 25 => 50 | n => n, fun n => n⟩
theorem insLaid : SlLaysF.n20 Try.prog insRen :=
  { mixed := by kernel_rfl
    f20 := ⟨Try.f49.name, by decide, Try.func49.trans (congrArg some (by kernel_rfl))⟩
    t0 := Try.underlying0
    a0 := Try.isAgg0
    z0 := Try.sizeOf0
    v0 := Try.zeroValue0
    t3 := Try.underlying3
    a3 := Try.isAgg3
    z3 := Try.sizeOf3
    v3 := Try.zeroValue3
    t4 := Try.underlying4
    a4 := Try.isAgg4
    z4 := Try.sizeOf4
    v4 := Try.zeroValue4
    t22 := Try.underlying27
    a22 := Try.isAgg27
    z22 := Try.sizeOf27
    v22 := Try.zeroValue27
    a24 := Try.isAgg3
    z24 := Try.sizeOf3
    t25 := Try.underlying50
    a25 := Try.isAgg50
    z25 := Try.sizeOf50
    v25 := Try.zeroValue50 }

/-- Behind it [a, b) is sorted by lt, where the test is the order itself between one that came later and one that came earlier. -/
def SortPost (f : Int → Int) (w0 : World) (blk off a b : Nat) (lt : Int → Int → Bool) (d : Array Int) (e : Ending) (w' : World) : Prop :=
  e = .returned (.tuple #[]) ∧ ∃ d', Merged lt a b d d' ∧ SW (encF f) w0 blk off d' w'

theorem insertion_c (lt : Int → Int → Bool) (hS : SWO lt) (cf : Int → Int → Int) (g : Nat) (cb : Array Value) (blk off cap a b : Nat) (d0 d : Array Int) (w0 w : World) (eg : ∀ args w, (callFunc g args).run Try.prog w = .ok (.enter g args) w)
    (hcmp : CmpLays1 Try.prog g cb (encF f) cf blk off d0.size w0) (R : Row1 (encF f) w0 blk off d0) (hs : d0.size = d.size) (S : SW (encF f) w0 blk off d w) (hab : a ≤ b) (hb : b ≤ d.size) (hsz : d.size < 4611686018427387904)
    (hag : ∀ p q, a ≤ p → p < q → q < b → ltOf cf d[q]! d[p]! = lt d[q]! d[p]!) :
    Calls Try.prog 49 #[.slice (some ⟨blk, off, none⟩) d.size cap, .int .i64 a, .int .i64 b, .func (.func g) #[] cb] w (SortPost f w0 blk off a b lt d) := by
  have h := Any.insertionSortCmpFunc_s insLaid (encF f) cf g cb blk off cap a b d0 d w0 w eg hcmp R hs S hab hb hsz
  refine h.mono ?_
  rintro e w' ⟨rfl, h2⟩
  rw [insertionSort_agree a b d hb hag] at h2
  exact ⟨rfl, _, insertionSort_holds hS d a b hab hb, h2⟩
end Go.Proofs.Ytaeondpeaabfeaa
