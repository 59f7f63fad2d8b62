/- Queues: place. -/
import Derived.Test.YtandmngfajoinaaGreatOe
namespace Go.Proofs.YtandmngfajoinaaGreat
open Go.RowKit

theorem SrchPost.keep3 {b mp : Nat} {most s : Int} {v : Value} {L : List QI} {x : QI} {B p : Nat} {w w' : World} {x0 x1 : Int} (hP : SrchPost b mp most s v L x B (w.alloc (.cells #[.int .i64 x0, .int .i64 x1] 136)).drew p w') (hb : b < w.heap.size) :
    w'.cell? ⟨b, 1, none⟩ = some v ∧ w'.cell? ⟨w.heap.size, 0, none⟩ = some (.int .i64 x0) ∧ w'.cell? ⟨w.heap.size, 1, none⟩ = some (.int .i64 x1) := by
  obtain ⟨k, _, _, hq, ht⟩ := hP
  have e : w'.heap[w.heap.size]? = some (.cells #[.int .i64 x0, .int .i64 x1] 136 (0, 0)) := (ht.block _ (by show _ < (w.alloc _).heap.size; simp) (by omega)).trans (World.alloc_heap_new w _)
  exact ⟨by simp [World.cell?, show w'.heap[b]? = _ from hq], by simp [World.cell?, e], by simp [World.cell?, e]⟩

set_option maxRecDepth 100000 in
set_option maxHeartbeats 4000000 in
/-- q.place(x). -/
theorem place_c (b mp : Nat) (most s : Int) (v : Value) (L : List QI) (x : QI) (B : Nat) (w : World) (hq : QBox w b most v mp s) (hr : QRow w 136 v L) (hne : v.ownBlock ≠ some b) (ho : Ord L) (hL : L.length ≤ 1000000) (hB : L.length < 2 ^ B) (hB' : B ≤ 1000) (hs : 0 ≤ s) (hs' : s < 2305843009213693952) :
    Calls Tryz.prog 98 #[.pointer (some ⟨b, 0, none⟩), .agg (encQ x).toArray] w fun e w' => ∃ p : Nat, e = .returned (.int .i64 p) ∧ SrchPost b mp most s v L x B w p w' := by
  have hbw := hq.lt
  have hq1 : QBox (w.alloc (.cells (encQ x).toArray 136)).drew b most v mp s := (Below.heap_alloc _ _ b hbw).trans hq
  have hr1 : QRow (w.alloc (.cells (encQ x).toArray 136)).drew 136 v L := hr.keep (fun g hg => Below.heap_alloc w _ g (hr.lt hg))
  have KB := Lib.hid (bsf_c b mp most s v L x B _ hq1 hr1 hne ho hL hB hB' hs hs')
  have ht1 : Trip (fun j => j = b) w (fun j => j = b) (w.alloc (.cells (encQ x).toArray 136)).drew := ((Trip.refl (fun j hj => by omega)).alloc _).drew
  have HT1 := Lib.hid ht1
  obtain ⟨A, c, rfl, _⟩ := hr.form
  have c1 : w.cell? ⟨b, 1, none⟩ = some (.slice A L.length c) := by simp [World.cell?, show w.heap[b]? = _ from hq]
  clear hq hr hq1 hr1 ho hB ht1
  obtain ⟨x0, x1⟩ := x
  have KB' : Hid (Calls Tryz.prog 102 #[.slice A L.length c, .agg #[.int .i64 x0, .int .i64 x1], .func (.func 103) #[.pointer (some ⟨b, 0, none⟩)] #[]] (w.alloc (.cells #[.int .i64 x0, .int .i64 x1] 136)).drew fun e w' => ∃ p f, e = .returned (.tuple #[.int .i64 (p : Nat), .bool f]) ∧ SrchPost b mp most s (.slice A L.length c) L (x0, x1) B (w.alloc (.cells #[.int .i64 x0, .int .i64 x1] 136)).drew p w') := KB
  clear KB
  show Calls _ _ #[_, .agg #[.int .i64 x0, .int .i64 x1]] _ _
  go_enter Tryz.func98, Tryz.ntmps98
  go_wp2_with fail
  go_region_held3 (fun w' => w'.cell? ⟨b, 1, none⟩ = some (.slice A L.length c) ∧ w'.cell? ⟨w.heap.size, 0, none⟩ = some (.int .i64 x0) ∧ w'.cell? ⟨w.heap.size, 1, none⟩ = some (.int .i64 x1)) (first | go_keep | exact KS)
    (first
      | (go_at_call 102; refine (KB'.out).mono ?_; rintro e w' ⟨p, f, rfl, hP⟩; have HP := Lib.hid hP; have KS := hP.keep3 hbw; clear hP))
  all_goals
    go_wp2_with fail
    go_ret
    obtain ⟨k, hk, hp, hq, ht⟩ := HP.out
    exact ⟨p, rfl, k, hk, hp, hq, HT1.out.trans ht⟩
end Go.Proofs.YtandmngfajoinaaGreat
