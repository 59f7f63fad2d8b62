/- A core, the reference's queue, and a map that counts, side by side: the program's queue is the reference's moved by d. What a core and the reference's do alike: each act, done on both. -/
import Derived.Test.YtandmngfajoinaaGreatCab
import Derived.Test.YtandmngfajoinaaGreatJes
namespace Go.Proofs.YtandmngfajoinaaGreat.Po
open Go.RowKit Go.Maps

/-- The program's core; the reference's queue; the law's map. F: blocks that are none of theirs. -/
def PC (W w : World) (o p mr : Nat) (tP bP cP : Int) (TP : List TI) (C : Int → Int) (idle age : Int) (S N : Nat) (tR bR cR : Int) (TR : List TI) (D : Int → Int) (n : Nat) (F : Nat → Prop) : Prop :=
  ∃ vt Q, CIn tP W w o bP cP TP C idle age S N (fun j => TOf p vt j ∨ j = mr ∨ F j) ∧ (IsT w p tR bR cR vt Q ∧ Q = TR) ∧ (∀ j, TOf p vt j → W.heap.size ≤ j) ∧ W.heap.size ≤ mr ∧ ¬ TOf p vt mr ∧ CMap w mr n D ∧ ∀ j, F j → ¬ TOf p vt j ∧ j ≠ mr
section
variable {W w w' : World} {o p mr S N n : Nat} {tP bP cP tR bR cR idle age : Int} {TP TR : List TI} {C D : Int → Int} {F : Nat → Prop}
theorem PC.frame (h : PC W w o p mr tP bP cP TP C idle age S N tR bR cR TR D n F) : Below W.heap.size W w := by
  obtain ⟨vt, Q, h1, _⟩ := h
  exact h1.frame
theorem PC.more {G : Nat → Prop} (h : PC W w o p mr tP bP cP TP C idle age S N tR bR cR TR D n F) (hb : Below w.heap.size w w') (hG : ∀ k, G k → F k ∨ (w.heap.size ≤ k ∧ k < w'.heap.size)) : PC W w' o p mr tP bP cP TP C idle age S N tR bR cR TR D n G := by
  obtain ⟨vt, Q, h1, ⟨h2, h2'⟩, h3, h4, h5, h6, h7⟩ := h
  have hm := h6.lt
  refine ⟨vt, Q, h1.more hb (fun k hk => ?_), ⟨h2.below hb, h2'⟩, h3, h4, h5, h6.keep (hb.block _ hm), fun k hk => ?_⟩
  · rcases hk with hk | hk | hk
    · exact .inl (.inl hk)
    · exact .inl (.inr (.inl hk))
    · exact (hG k hk).imp (fun h => .inr (.inr h)) id
  · rcases hG k hk with h | h
    · exact h7 k h
    · exact ⟨fun hq => by have := h2.lt k hq; omega, by omega⟩
theorem PC.weak {S' N' n' : Nat} (h : PC W w o p mr tP bP cP TP C idle age S N tR bR cR TR D n F) (hS : S ≤ S') (hN : N ≤ N') (hn : n ≤ n') : PC W w o p mr tP bP cP TP C idle age S' N' tR bR cR TR D n' F := by
  obtain ⟨vt, Q, h1, h2, h3, h4, h5, h6, h7⟩ := h
  exact ⟨vt, Q, h1.weak hS hN, h2, h3, h4, h5, h6.weak hn, h7⟩
/-- A call on the program's. -/
theorem pc_prog {f : Nat} {args : Array Value} {r : Value} {t' b' c' i' a' : Int} {T' : List TI} {C' : Int → Int} {S' N' : Nat} (h : PC W w o p mr tP bP cP TP C idle age S N tR bR cR TR D n F)
    (hc : ∀ G, CIn tP W w o bP cP TP C idle age S N G → Calls Tryz.prog f args w (CPost t' W w o b' c' T' C' i' a' S' N' G r)) :
    Calls Tryz.prog f args w fun e w' => e = .returned r ∧ PC W w' o p mr t' b' c' T' C' i' a' S' N' tR bR cR TR D n F ∧ ∀ j, F j → w'.heap[j]? = w.heap[j]? := by
  obtain ⟨vt, Q, h1, ⟨h2, h2'⟩, h3, h4, h5, h6, h7⟩ := h
  refine (hc _ h1).mono ?_
  rintro e w' ⟨he, hq, hk⟩
  exact ⟨he, ⟨vt, Q, hq, ⟨h2.keep (fun j hj => hk j (.inl hj)), h2'⟩, h3, h4, h5, h6.keep (hk mr (.inr (.inl rfl))), h7⟩, fun j hj => hk j (.inr (.inr hj))⟩
/-- Blocks that are none of the core's have turned. -/
theorem CIn.apart {t : Int} {G G' X : Nat → Prop} {base cur : Int} {T : List TI} (h : CIn t W w o base cur T C idle age S N G) (hb : Below W.heap.size W w') (hz : w.heap.size ≤ w'.heap.size) (hX : ∀ k, X k → G k) (hs : ∀ k, k < w.heap.size → ¬ X k → w'.heap[k]? = w.heap[k]?)
    (hG : ∀ k, G' k → G k ∨ (w.heap.size ≤ k ∧ k < w'.heap.size)) : CIn t W w' o base cur T C idle age S N G' := by
  obtain ⟨q, m, ⟨A, st, a1, a2, a3, a4, a5, a6⟩, h2, h3, h4, h5, h6⟩ := h
  have ho := h2.lt
  have hm := h3.lt
  refine ⟨q, m, ⟨A, st, a1.keep (fun k hk => hs k (a1.lt k hk) (fun e => (a6 k (.inl (hX k e))).2 hk)), a2, a3, a4, hb, fun k hk => ?_⟩, h2.keep (hs o ho (fun e => (h5 o (hX o e)).1 rfl)), h3.keep (hs m hm (fun e => (h5 m (hX m e)).2 rfl)), h4, fun k hk => ?_, h6⟩
  · rcases hk with hk | hk
    · rcases hG k hk with h | h
      · exact ⟨by have := (a6 k (.inl h)).1; omega, (a6 k (.inl h)).2⟩
      · exact ⟨h.2, fun hq => by have := a1.lt k hq; omega⟩
    · exact ⟨by have := (a6 k (.inr hk)).1; omega, (a6 k (.inr hk)).2⟩
  · rcases hG k hk with h | h
    · exact h5 k h
    · exact ⟨by omega, by omega⟩
/-- A call on the reference's. -/
theorem pc_ref {f : Nat} {args : Array Value} {r : Value} {b' c' : Int} {Q' : List TI} (h : PC W w o p mr tP bP cP TP C idle age S N tR bR cR TR D n F)
    (hc : ∀ vt T, IsT w p tR bR cR vt T → T = TR → Calls Tryz.prog f args w (RIn tR w p vt r b' c' Q')) :
    Calls Tryz.prog f args w fun e w' => e = .returned r ∧ PC W w' o p mr tP bP cP TP C idle age S N tR b' c' Q' D n F ∧ ∀ j, F j → w'.heap[j]? = w.heap[j]? := by
  obtain ⟨vt, Q, h1, ⟨h2, h2'⟩, h3, h4, h5, h6, h7⟩ := h
  refine (hc vt Q h2 h2').mono ?_
  rintro e w' ⟨he, T', hT', v', hq, ht⟩
  have hWw := h1.frame.size
  have hF : ∀ j, F j → j < w.heap.size := fun j hj => (h1.lts.2 j (.inr (.inr hj)))
  refine ⟨he, ⟨v', T', h1.apart (X := TOf p vt) (h1.frame.trans (ht.below h3 hWw)) ht.size (fun k hk => .inl hk) ht.block (fun k hk => ?_), ⟨hq, hT'⟩, fun j hj => ?_, h4, fun hj => ?_, h6.keep (ht.block mr h6.lt h5), fun j hj => ⟨fun hj' => ?_, (h7 j hj).2⟩⟩, fun j hj => ht.block j (hF j hj) (h7 j hj).1⟩
  · rcases hk with hk | hk | hk
    · rcases ht.sub k hk with h | h
      · exact .inl (.inl h)
      · exact .inr ⟨h, ht.bd k hk⟩
    · exact .inl (.inr (.inl hk))
    · exact .inl (.inr (.inr hk))
  · rcases ht.sub j hj with h | h
    · exact h3 j h
    · omega
  · rcases ht.sub mr hj with h | h
    · exact h5 h
    · have := h6.lt; omega
  · rcases ht.sub j hj' with h | h
    · exact (h7 j hj).1 h
    · have := hF j hj; omega
/-- The law's map counts one more. -/
theorem PC.noted {i : Int} (h : PC W w o p mr tP bP cP TP C idle age S N tR bR cR TR D n F) (hm : CMap w' mr (n + 1) (incC D i)) (hg : w.grownBy w' (some mr)) (hz : w'.heap.size = w.heap.size) : PC W w' o p mr tP bP cP TP C idle age S N tR bR cR TR (incC D i) (n + 1) F ∧ ∀ j, F j → w'.heap[j]? = w.heap[j]? := by
  obtain ⟨vt, Q, h1, ⟨h2, h2'⟩, h3, h4, h5, h6, h7⟩ := h
  have hs : ∀ k, k < w.heap.size → ¬ (k = mr) → w'.heap[k]? = w.heap[k]? := fun k hk hne => hg.block k hk (fun e => hne (Option.some.inj e))
  have hb : Below W.heap.size W w' := h1.frame.grown hg h1.frame.size (fun k e => by injection e with e; rw [← e]; exact h4)
  exact ⟨⟨vt, Q, h1.apart (X := fun k => k = mr) hb (by omega) (fun k hk => .inr (.inl hk)) hs (fun k hk => .inl hk), ⟨h2.keep (fun k hk => hs k (h2.lt k hk) (fun e => h5 (e ▸ hk))), h2'⟩, h3, h4, h5, hm, h7⟩, fun j hj => hs j (h1.lts.2 j (.inr (.inr hj))) (h7 j hj).2⟩
/-- Another queue of the reference's takes its place. -/
theorem PC.other {q : Nat} {vt : Value} {t2 b2 c2 : Int} {Q : List TI} {w0 : World} (h : PC W w0 o p mr tP bP cP TP C idle age S N tR bR cR TR D n F) (hb : Below w0.heap.size w0 w) (hq : IsT w q t2 b2 c2 vt Q) (hn : ∀ k, TOf q vt k → w0.heap.size ≤ k) : PC W w o q mr tP bP cP TP C idle age S N t2 b2 c2 Q D n F := by
  obtain ⟨v0, Q0, h1, ⟨h2, h2'⟩, h3, h4, h5, h6, h7⟩ := h
  have hz := h1.frame.size
  have hm := h6.lt
  refine ⟨vt, Q, h1.more hb (fun k hk => ?_), ⟨hq, rfl⟩, fun j hj => by have := hn j hj; omega, h4, fun hj => by have := hn mr hj; omega, h6.keep (hb.block _ hm), fun j hj => ⟨fun hj' => ?_, (h7 j hj).2⟩⟩
  · rcases hk with hk | hk | hk
    · exact .inr ⟨hn k hk, hq.lt k hk⟩
    · exact .inl (.inr (.inl hk))
    · exact .inl (.inr (.inr hk))
  · have := h1.lts.2 j (.inr (.inr hj))
    have := hn j hj'
    omega
end

/-! Moved by d -/
theorem sh_entC (t : Int) (ex : Bool) (d base : Int) (T : List TI) (x : RI) : entC t ex (base + d) (shU d T) x = ((entC t ex base T x).1, (entC t ex base T x).2.1 + d, shU d (entC t ex base T x).2.2) := by
  unfold entC
  cases ex with
  | true => rw [if_pos rfl, if_pos rfl]; exact shU_put d base T x
  | false => rw [if_neg Bool.false_ne_true, if_neg Bool.false_ne_true]; exact sh_entP t d base T x
theorem UpF.entC {t base : Int} {T : List TI} {k : Nat} (ex : Bool) (h : UpF base T k) (x : RI) : UpF (Po.entC t ex base T x).2.1 (Po.entC t ex base T x).2.2 (k + 1) := by
  unfold Po.entC
  cases ex with
  | true => rw [if_pos rfl]; exact h.put x
  | false => rw [if_neg Bool.false_ne_true]; exact h.enter t x
theorem low_entC (t : Int) (ex : Bool) (base : Int) (T : List TI) (x : RI) (h : Low base (cutL T)) : Low (entC t ex base T x).2.1 (cutL (entC t ex base T x).2.2) := by
  unfold entC
  cases ex with
  | true => rw [if_pos rfl]; exact low_put base T x h
  | false => rw [if_neg Bool.false_ne_true]; exact low_enter t base T x h
theorem UpF.upto {base : Int} {T : List TI} {k : Nat} (h : UpF base T 0) : UpF base T k := by
  induction k with
  | zero => exact h
  | succ k ih => exact ih.more
theorem asc_sh {d : Int} {T : List TI} (h : AscR (cutL (shU d T))) : AscR (cutL T) := by
  have h2 := shU_asc (d := -d) h
  have e : shU (-d) (shU d T) = T := by
    unfold shU
    rw [List.map_map]
    conv => rhs; rw [← List.map_id T]
    refine List.map_congr_left (fun x _ => ?_)
    simp only [Function.comp, mvT, id]
    refine Prod.ext rfl (Prod.ext rfl (Prod.ext ?_ ?_))
    · simp only; omega
    · simp only; omega
  rwa [e] at h2
/-- The reference's queue is well formed, as the program's is. -/
theorem wf_sh {d b c : Int} {T : List TI} {k : Nat} (hw : WfS (b + d) c (cutL (shU d T))) (hu : UpF b T k) (hk : k ≤ 300) : WfS b c (cutL T) := by
  have h1 := hu.lo
  have h2 := hu.hi
  refine ⟨asc_sh hw.asc, ?_, fun r hr => ?_, by omega, by omega, ?_⟩
  · have := hw.len
    rw [shU_cut, sh_len] at this
    exact this
  · obtain ⟨x, hx, rfl⟩ := List.mem_map.1 hr
    have h3 := hw.each _ (cut_mem (shU_mem (d := d) hx))
    have h4 := hu.fit x hx
    have e1 : (cutT (mvT d x)).1 = x.1 := rfl
    have e2 : (cutT (mvT d x)).2.1 = x.2.1 := rfl
    rw [e1, e2] at h3
    have e3 : (cutT x).1 = x.1 := rfl
    have e4 : (cutT x).2.1 = x.2.1 := rfl
    have e5 : (cutT x).2.2 = x.2.2.1 := rfl
    rw [e3, e4, e5]
    omega
  · rcases hw.cur with h | h
    · exact .inl h
    · rw [shU_has] at h
      exact .inr h
theorem pick_has {b0 c0 : Int} {T : List TI} (t cur : Int) (hw : WfS b0 c0 (cutL T)) (hT : T ≠ []) : hasI (cutL T) (pickPC t cur T) = true := by
  unfold pickPC
  rw [if_neg hT]
  have hc : cutL T ≠ [] := fun e => hT (cut_nil.1 e)
  have hm : hasI (cutL T) (minR (cutL T)).2 = true := by
    obtain ⟨q, hq, _, h2⟩ := minR_mem hc
    exact hasI_iff.2 ⟨q, hq, h2⟩
  unfold pickP
  split
  · exact hm
  · split
    · unfold Fa.pickC
      rw [if_neg hc]
      split
      · rename_i hI
        split
        · exact hm
        · exact hI
      · exact hm
    · have h := pickC_ok hw
      unfold pickC at h
      rw [if_neg hT] at h
      rcases h with h | h
      · exfalso
        obtain ⟨x, hx, _, h2, _⟩ := pick_spec hT (fun x hx => by have := wgt_of hw hx; omega)
        have := (hw.each _ (cut_mem hx)).1
        have e : (cutT x).1 = x.1 := rfl
        omega
      · exact h
/-- Who is there is charged. -/
theorem charge_yes {t cur base : Int} {T : List TI} {k : Nat} (hw : WfS base cur (cutL T)) (hu : UpF base T k) (hk : k ≤ 300) (hT : T ≠ []) :
    ∃ i b' T', chargeU base (pickPC t cur T) T = (i, 0, b', T') ∧ wf64 i ∧ pickPC t cur T = i := by
  have hI := pick_has t cur hw hT
  have hne : pickPC t cur T ≠ -1 := fun e => by
    obtain ⟨r, hr, he⟩ := hasI_iff.1 hI
    have := (hw.each r hr).1
    omega
  have hm := (getU_mem hI).1
  have he := hw.each _ (cut_mem hm)
  have hid := (getU_mem hI).2
  have hup := hu.up.each _ (cut_mem hm)
  have hst := stepV_bd (getU T (pickPC t cur T)).2.1
  have i1 : (cutT (getU T (pickPC t cur T))).2.2 = (getU T (pickPC t cur T)).2.2.1 := rfl
  have i2 : (cutT (getU T (pickPC t cur T))).1 = (getU T (pickPC t cur T)).1 := rfl
  rw [i1] at hup
  rw [i2, hid] at he
  refine ⟨pickPC t cur T, raiseM base (cutL (updU T (pickPC t cur T) chaT)), updU T (pickPC t cur T) chaT, ?_, wf64_of (by omega) (by omega), rfl⟩
  unfold chargeU
  rw [if_neg hne, if_neg (by omega)]
end Go.Proofs.YtandmngfajoinaaGreat.Po

namespace Go.Proofs.YtandmngfajoinaaGreat.Po
open Go.RowKit Go.Maps

/-- k acts are done on both. -/
def PlS (W w : World) (o p mr k : Nat) (idle age : Int) (F : Nat → Prop) : Prop :=
  ∃ t d b c T C, PC W w o p mr t (b + d) c (shU d T) C idle age (4000 + 64 * k) (2 * k) t b c T C k F ∧ UpF b T k ∧ UpF (b + d) (shU d T) k ∧ Low b (cutL T) ∧ Tag t ∧ k ≤ 200
section
variable {W w w' : World} {o p mr k : Nat} {idle age : Int} {F : Nat → Prop}
theorem PlS.more {G : Nat → Prop} (h : PlS W w o p mr k idle age F) (hb : Below w.heap.size w w') (hG : ∀ j, G j → F j ∨ (w.heap.size ≤ j ∧ j < w'.heap.size)) : PlS W w' o p mr k idle age G := by
  obtain ⟨t, d, b, c, T, C, h1, h2⟩ := h
  exact ⟨t, d, b, c, T, C, h1.more hb hG, h2⟩
theorem PlS.frame (h : PlS W w o p mr k idle age F) : Below W.heap.size W w := by
  obtain ⟨t, d, b, c, T, C, h1, h2⟩ := h
  exact h1.frame
theorem PlS.lts (h : PlS W w o p mr k idle age F) : ∀ j, F j → j < w.heap.size := by
  obtain ⟨t, d, b, c, T, C, ⟨vt, Q, h1, _⟩, h2⟩ := h
  exact fun j hj => h1.lts.2 j (.inr (.inr hj))
/-- An act that is done neither here nor there. -/
theorem PlS.skip (h : PlS W w o p mr k idle age F) (hk : k < 200) : PlS W w o p mr (k + 1) idle age F := by
  obtain ⟨t, d, b, c, T, C, h1, h2, h3, h4, h5, h6⟩ := h
  exact ⟨t, d, b, c, T, C, h1.weak (by omega) (by omega) (by omega), h2.more, h3.more, h4, h5, by omega⟩
/-- What both answer to Enter. -/
theorem pl_enter (x : RI) (ex : Bool) (h : PlS W w o p mr k idle age F) (hk : k < 200) :
    ∃ r, Calls Tryz.prog 11 #[.pointer (some ⟨o, 0, none⟩), .int .i64 x.1, .int .i64 x.2.1, .int .i64 x.2.2, .bool ex] w fun e w' => e = .returned (.int .i64 r) ∧ (∀ j, F j → w'.heap[j]? = w.heap[j]?) ∧
      Hid (Calls Tryz.prog 12 #[.pointer (some ⟨p, 0, none⟩), .int .i64 x.1, .int .i64 x.2.1, .int .i64 x.2.2, .bool ex] w' fun e w2 => e = .returned (.int .i64 r) ∧ (∀ j, F j → w2.heap[j]? = w.heap[j]?) ∧ Hid (PlS W w2 o p mr (k + 1) idle (upI r age) F)) := by
  obtain ⟨t, d, b, c, T, C, h1, h2, h3, h4, h5, h6⟩ := h
  have l1 := h3.lo
  have l2 := h3.hi
  have hwf : WfS b c (cutL T) := by
    obtain ⟨_, _, hc, _⟩ := h1
    exact wf_sh hc.wf h2 (by omega)
  refine ⟨(entC t ex b T x).1, (pc_prog h1 (fun G hG => center_in x ex hG (by omega) (by omega) (by omega) (by omega))).mono ?_⟩
  rintro e w1 ⟨he, hp, hF⟩
  have hu := h3.entC (t := t) ex x
  rw [sh_entC] at he hp hu
  refine ⟨he, hF, Lib.hid ((pc_ref hp (fun vt Q hi hQ => by subst hQ; exact rent_m h5 ex x hi hwf)).mono ?_)⟩
  rintro e w2 ⟨he2, hp2, hF2⟩
  exact ⟨he2, fun j hj => (hF2 j hj).trans (hF j hj), Lib.hid ⟨t, d, _, c, _, C, hp2.weak (by omega) (by omega) (by omega), h2.entC ex x, hu, low_entC t ex b T x h4, h5, by omega⟩⟩
/-- To Leave. -/
theorem pl_leave (id : Int) (hid : wf64 id) (h : PlS W w o p mr k idle age F) (hk : k < 200) :
    ∃ r0 r, Calls Tryz.prog 13 #[.pointer (some ⟨o, 0, none⟩), .int .i64 id] w fun e w' => e = .returned (.tuple #[.int .i64 r0, .int .i64 r]) ∧ (∀ j, F j → w'.heap[j]? = w.heap[j]?) ∧
      Hid (Calls Tryz.prog 14 #[.pointer (some ⟨p, 0, none⟩), .int .i64 id] w' fun e w2 => e = .returned (.tuple #[.int .i64 r0, .int .i64 r]) ∧ (∀ j, F j → w2.heap[j]? = w.heap[j]?) ∧ Hid (PlS W w2 o p mr (k + 1) idle (upI r age) F)) := by
  obtain ⟨t, d, b, c, T, C, h1, h2, h3, h4, h5, h6⟩ := h
  obtain ⟨hwf, hwd⟩ : WfS b c (cutL T) ∧ WfS (b + d) c (cutL (shU d T)) := by
    obtain ⟨_, _, hc, _⟩ := h1
    exact ⟨wf_sh hc.wf h2 (by omega), hc.wf⟩
  refine ⟨(leaveU b c T id).1, (leaveU b c T id).2.1, (pc_prog h1 (fun G hG => cleave_in id hG hid (by omega) (by omega))).mono ?_⟩
  rintro e w1 ⟨he, hp, hF⟩
  have hu := h3.leave hwd.asc (cur := c) id
  rw [shU_leave hwf.asc] at he hp hu
  refine ⟨he, hF, Lib.hid ((pc_ref hp (fun vt Q hi hQ => by subst hQ; exact rlea_m id hi hwf)).mono ?_)⟩
  rintro e w2 ⟨he2, hp2, hF2⟩
  exact ⟨he2, fun j hj => (hF2 j hj).trans (hF j hj), Lib.hid ⟨t, d, _, _, _, C, hp2.weak (by omega) (by omega) (by omega), h2.leave hwf.asc id, hu, low_leave b c T id h4, h5, by omega⟩⟩
/-- To Weigh. -/
theorem pl_weigh (id n : Int) (hid : wf64 id) (hn : wf64 n) (h : PlS W w o p mr k idle age F) (hk : k < 200) :
    ∃ r, Calls Tryz.prog 15 #[.pointer (some ⟨o, 0, none⟩), .int .i64 id, .int .i64 n] w fun e w' => e = .returned (.int .i64 r) ∧ (∀ j, F j → w'.heap[j]? = w.heap[j]?) ∧
      Hid (Calls Tryz.prog 16 #[.pointer (some ⟨p, 0, none⟩), .int .i64 id, .int .i64 n] w' fun e w2 => e = .returned (.int .i64 r) ∧ (∀ j, F j → w2.heap[j]? = w.heap[j]?) ∧ Hid (PlS W w2 o p mr (k + 1) idle (upI r age) F)) := by
  obtain ⟨t, d, b, c, T, C, h1, h2, h3, h4, h5, h6⟩ := h
  have hwf : WfS b c (cutL T) := by
    obtain ⟨_, _, hc, _⟩ := h1
    exact wf_sh hc.wf h2 (by omega)
  refine ⟨(weighU T id n).1, (pc_prog h1 (fun G hG => cweigh_in id n hG hid hn (by omega) (by omega))).mono ?_⟩
  rintro e w1 ⟨he, hp, hF⟩
  have hu := h3.weigh id n
  rw [shU_weigh] at he hp hu
  refine ⟨he, hF, Lib.hid ((pc_ref hp (fun vt Q hi hQ => by subst hQ; exact rwei_m id n hi hwf h4)).mono ?_)⟩
  rintro e w2 ⟨he2, hp2, hF2⟩
  exact ⟨he2, fun j hj => (hF2 j hj).trans (hF j hj), Lib.hid ⟨t, d, b, c, _, C, hp2.weak (by omega) (by omega) (by omega), h2.weigh id n, hu, low_weigh b T id n h4, h5, by omega⟩⟩
/-- To Run: nobody is there; or one has run, and the law's map counts it. -/
theorem pl_run (h : PlS W w o p mr k idle age F) (hk : k < 200) :
    (Hid (Calls Tryz.prog 17 #[.pointer (some ⟨o, 0, none⟩)] w fun e w' => e = .returned (.tuple #[.int .i64 (-1), .int .i64 0]) ∧ (∀ j, F j → w'.heap[j]? = w.heap[j]?) ∧
      Hid (Calls Tryz.prog 18 #[.pointer (some ⟨p, 0, none⟩)] w' fun e w2 => ∃ v, e = .returned (.tuple #[.int .i64 v, .bool false]) ∧ (∀ j, F j → w2.heap[j]? = w.heap[j]?) ∧ Hid (PlS W w2 o p mr (k + 1) (idle + 1) (age + 1) F)))) ∨
    (∃ i, wf64 i ∧ Hid (Calls Tryz.prog 17 #[.pointer (some ⟨o, 0, none⟩)] w fun e w' => e = .returned (.tuple #[.int .i64 i, .int .i64 0]) ∧ (∀ j, F j → w'.heap[j]? = w.heap[j]?) ∧
      Hid (Calls Tryz.prog 18 #[.pointer (some ⟨p, 0, none⟩)] w' fun e w2 => ∃ v, e = .returned (.tuple #[.int .i64 v, .bool true]) ∧ (∀ j, F j → w2.heap[j]? = w.heap[j]?) ∧
      Hid (Calls Tryz.prog 19 #[.pointer (some ⟨p, 0, none⟩)] w2 fun e w3 => e = .returned (.tuple #[.int .i64 i, .int .i64 0]) ∧ (∀ j, F j → w3.heap[j]? = w.heap[j]?) ∧
      ∃ z w4, 0 ≤ z ∧ z ≤ 1000 ∧ (Instr.lookup 31 (.map (some mr)) (.int .i64 i) false).run Tryz.prog w3 = .ok (.int .i64 z) w3 ∧ (Instr.mapUpdate 31 (.map (some mr)) (.int .i64 i) (.int .i64 (z + 1))).run Tryz.prog w3 = .ok () w4 ∧ (∀ j, F j → w4.heap[j]? = w.heap[j]?) ∧ Hid (PlS W w4 o p mr (k + 1) idle (age + 1) F))))) := by
  obtain ⟨t, d, b, c, T, C, h1, h2, h3, h4, h5, h6⟩ := h
  obtain ⟨hwf, hwd⟩ : WfS b c (cutL T) ∧ WfS (b + d) c (cutL (shU d T)) := by
    obtain ⟨_, _, hc, _⟩ := h1
    exact ⟨wf_sh hc.wf h2 (by omega), hc.wf⟩
  by_cases hT : T = []
  · subst hT
    have e0 : shU d [] = [] := rfl
    rw [e0] at h1 h3
    refine .inl (Lib.hid ((pc_prog h1 (fun G hG => crun_none hG (by omega) (by omega))).mono ?_))
    rintro e w1 ⟨he, hp, hF⟩
    refine ⟨he, hF, Lib.hid ((pc_ref hp (r := .tuple #[.int .i64 (pickPV t c []), .bool (pickPB [])]) (b' := b) (c' := pickPC t c []) (Q' := []) (fun vt Q hi hQ => by subst hQ; exact rpick_m h5 hi hwf (h2.fitT hwf (by omega)))).mono ?_)⟩
    rintro e w2 ⟨he2, hp2, hF2⟩
    have e1 : pickPC t c [] = -1 := if_pos rfl
    rw [e1] at hp2
    exact ⟨_, he2, fun j hj => (hF2 j hj).trans (hF j hj), Lib.hid ⟨t, d, b, -1, [], C, hp2.weak (by omega) (by omega) (by omega), h2.more, h3.more, h4, h5, by omega⟩⟩
  · obtain ⟨i, b', T', hcg, hi, hpi⟩ := charge_yes (t := t) (cur := c) hwf h2 (by omega) hT
    have hwp := WfS.pick (cur := c) t hwf
    have hwdp := WfS.pick (cur := c) t hwd
    have hsh : chargeU (b + d) (pickPC t c (shU d T)) (shU d T) = (i, 0, b' + d, shU d T') := by
      rw [sh_pickP h5 d hwf, shU_charge hwp h2.up h3.up (by omega), hcg]
    have hu2 := h2.charge hwp
    have hl2 := low_charge b (pickPC t c T) T h4
    have hu3 := h3.charge hwdp
    rw [hcg] at hu2 hl2
    rw [hsh] at hu3
    refine .inr ⟨i, hi, Lib.hid ((pc_prog h1 (fun G hG => crun_ok hsh hi hG (by omega) (by omega))).mono ?_)⟩
    rintro e w1 ⟨he, hp, hF⟩
    rw [sh_pickP h5 d hwf] at hp
    refine ⟨he, hF, Lib.hid ((pc_ref hp (r := .tuple #[.int .i64 (pickPV t c T), .bool (pickPB T)]) (b' := b) (c' := pickPC t c T) (Q' := T) (fun vt Q hi hQ => by subst hQ; exact rpick_m h5 hi hwf (h2.fitT hwf (by omega)))).mono ?_)⟩
    rintro e w2 ⟨he2, hp2, hF2⟩
    have hpb : pickPB T = true := by unfold pickPB; rw [decide_eq_false hT]; rfl
    rw [hpb] at he2
    refine ⟨_, he2, fun j hj => (hF2 j hj).trans (hF j hj), Lib.hid ((pc_ref hp2 (r := .tuple #[.int .i64 (chargeU b (pickPC t c T) T).1, .int .i64 (chargeU b (pickPC t c T) T).2.1]) (b' := (chargeU b (pickPC t c T) T).2.2.1) (c' := pickPC t c T) (Q' := (chargeU b (pickPC t c T) T).2.2.2) (fun vt Q hi hQ => by subst hQ; exact rcha_m hi hwp)).mono ?_)⟩
    rintro e w3 ⟨he3, hp3, hF3⟩
    rw [hcg] at he3 hp3
    have hF03 : ∀ j, F j → w3.heap[j]? = w.heap[j]? := fun j hj => (hF3 j hj).trans ((hF2 j hj).trans (hF j hj))
    refine ⟨he3, hF03, ?_⟩
    obtain ⟨vt, Q, q1, q2, q3, q4, q5, q6, q7⟩ := hp3
    obtain ⟨w4, hrun, hm, hg, hz⟩ := q6.inc hi (by omega)
    have hb := q6.bd i
    obtain ⟨hp4, hF4⟩ := PC.noted (⟨vt, Q, q1, q2, q3, q4, q5, q6, q7⟩ : PC W w3 o p mr _ _ _ _ _ _ _ _ _ _ _ _ _ _ _ F) hm hg hz
    exact ⟨C i, w4, hb.1, by omega, q6.look hi, hrun, fun j hj => (hF4 j hj).trans (hF03 j hj), Lib.hid ⟨t, d, b', _, T', incC C i, hp4.weak (by omega) (by omega) (by omega), hu2, hu3, hl2, h5, by omega⟩⟩
/-- Another queue, of what is owed: made for both, or for none. -/
theorem pl_change (g : Int) (h : PlS W w o p mr k idle age F) (hk : k < 200) :
    (∃ c n, Hid (Calls Tryz.prog 21 #[.pointer (some ⟨o, 0, none⟩)] w.drew fun e w1 => ∃ A c1, e = .returned (.agg #[.int .i64 c, .slice A n c1]) ∧ Below w.heap.size w w1 ∧
      Hid (Calls Tryz.prog 20 #[.int .i64 g, .agg #[.int .i64 c, .slice A n c1], .int .i64 (1000 * (k : Int))] w1 fun e w2 => ∃ q, e = .returned (.tuple #[.pointer (some ⟨q, 0, none⟩), .int .i64 0]) ∧ Below w.heap.size w w2 ∧
      Hid (Calls Tryz.prog 22 #[.pointer (some ⟨o, 0, none⟩), .pointer (some ⟨q, 0, none⟩)] w2 fun e w3 => e = .returned (.int .i64 0) ∧ (∀ j, F j → w3.heap[j]? = w.heap[j]?) ∧
      Hid (Calls Tryz.prog 24 #[.pointer (some ⟨p, 0, none⟩)] w3.drew fun e w4 => ∃ A4 c4, e = .returned (.agg #[.int .i64 c, .slice A4 n c4]) ∧ Below w3.heap.size w3 w4 ∧
      Hid (Calls Tryz.prog 23 #[.int .i64 g, .agg #[.int .i64 c, .slice A4 n c4], .int .i64 0] w4 fun e w5 => ∃ p2, e = .returned (.tuple #[.pointer (some ⟨p2, 0, none⟩), .int .i64 0]) ∧ Below w3.heap.size w3 w5 ∧ Hid (PlS W w5 o p2 mr (k + 1) idle age F)))))) ) ∨
    (∃ c n, Hid (Calls Tryz.prog 21 #[.pointer (some ⟨o, 0, none⟩)] w.drew fun e w1 => ∃ A c1, e = .returned (.agg #[.int .i64 c, .slice A n c1]) ∧ Below w.heap.size w w1 ∧
      Hid (Calls Tryz.prog 20 #[.int .i64 g, .agg #[.int .i64 c, .slice A n c1], .int .i64 (1000 * (k : Int))] w1 fun e w2 => e = .returned (.tuple #[.pointer none, .int .i64 1]) ∧ Below w.heap.size w w2 ∧ Hid (PlS W w2 o p mr (k + 1) idle age F)))) := by
  have hskip := h.skip hk
  obtain ⟨t, d, b, c, T, C, h1, h2, h3, h4, h5, h6⟩ := h
  have hwf : WfS b c (cutL T) := by
    obtain ⟨_, _, hc, _⟩ := h1
    exact wf_sh hc.wf h2 (by omega)
  have hl := len_of hwf
  have hfo : formU (b + d) (shU d T) = formU b T := shU_form d b T
  have hln : (shU d T).length = T.length := shU_len d T
  have KF : ∀ w0, Below w.heap.size w w0 → Calls Tryz.prog 21 #[.pointer (some ⟨o, 0, none⟩)] w0 fun e w1 => ∃ A c1, e = .returned (.agg #[.int .i64 c, .slice A T.length c1]) ∧ TRow w1 A (formU b T) ∧ Below w0.heap.size w0 w1 := fun w0 hb => by
    obtain ⟨vt, Q, hc, _⟩ := h1
    have K := cform_in (hc.below hb)
    rw [hfo, hln] at K
    exact K
  by_cases hg : Tag g ∧ SdOk (1000 * (k : Int)) c (formU b T)
  · refine .inl ⟨c, T.length, Lib.hid ((KF _ (Below.refl _ w).drew).mono ?_)⟩
    rintro e w1 ⟨A, c1, rfl, hT, hb1⟩
    have k1 : Below w.heap.size w w1 := (Below.refl _ w).drew.trans hb1
    refine ⟨A, c1, rfl, k1, Lib.hid ((sseed_p c (1000 * (k : Int)) A T.length c1 (formU b T) w1 g (formU_length _ _) (by omega) hT).mono ?_)⟩
    intro e w2 hs
    unfold SeedP at hs
    rw [if_pos hg] at hs
    obtain ⟨q, Aq, st, rfl, hq, s1, s2, hnn, hb2⟩ := hs
    refine ⟨q, rfl, k1.trans (hb2.mono k1.size), Lib.hid ?_⟩
    have hp1 := h1.more k1 (fun _ hj => .inl hj)
    have hp2 := hp1.more hb2 (fun _ hj => .inl hj)
    have hqs : SIn g W w2 q (1000 * (k : Int)) c (seedU (1000 * (k : Int)) (formU b T)) 4000 (fun j => j < w1.heap.size) := seed_in hp1.frame (fun _ h => h) hq s1 s2 hnn hb2
    obtain ⟨vt, Q, hc1, hq1, hq2, hq3, hq4, hq5, hq6⟩ := hp1
    have K := cchange_in hc1 hb2 hqs
    rw [formU_seed, hfo] at K
    have hlt : ∀ j, F j → j < w.heap.size := by
      obtain ⟨_, _, hc0, _⟩ := h1
      exact fun j hj => hc0.lts.2 j (.inr (.inr hj))
    refine K.mono ?_
    intro e w3 h3'
    rw [if_pos (show sameB c c (formU b T) (formU b T) = true by unfold sameB; simp)] at h3'
    obtain ⟨he, hc3, hk3⟩ := h3'
    have k2 : Below w.heap.size w w2 := k1.trans (hb2.mono k1.size)
    have hF3 : ∀ j, F j → w3.heap[j]? = w.heap[j]? := fun j hj => (hk3 j (.inr (.inr hj))).trans (k2.block j (hlt j hj))
    have hi2 := hq1.1.below hb2
    have hi3 := hi2.keep (fun j hj => hk3 j (.inl hj))
    have hm3 := (hq5.keep (hb2.block mr hq5.lt)).keep (hk3 mr (.inr (.inl rfl)))
    have hp3 : PC W w3 o p mr g (1000 * (k : Int)) c (seedU (1000 * (k : Int)) (formU b T)) C idle age 4000 (2 * k) t b c T C k F := ⟨vt, Q, hc3, ⟨hi3, hq1.2⟩, hq2, hq3, hq4, hm3, hq6⟩
    refine ⟨he, hF3, Lib.hid ?_⟩
    have hp3d := hp3.more (Below.refl _ w3).drew (fun _ hj => .inl hj)
    obtain ⟨_, _, _, ⟨hi4, hQ4⟩, _⟩ := hp3d
    rw [hQ4] at hi4
    refine (rform_m hi4 hwf).mono ?_
    rintro e w4 ⟨A4, c4, rfl, hT4, hb4⟩
    have k4 : Below w3.heap.size w3 w4 := (Below.refl _ w3).drew.trans hb4
    rw [formU_length]
    refine ⟨A4, c4, rfl, k4, Lib.hid ((rseed_p g c 0 A4 _ c4 _ w4 (formU_length _ _) (by omega) hT4).mono ?_)⟩
    intro e w5 hs5
    unfold RSPost at hs5
    rw [if_pos ⟨hg.1, hg.2.1, by decide, by decide⟩] at hs5
    obtain ⟨p2, v5, rfl, hi5, hn5, hb5⟩ := hs5
    have k5 : Below w3.heap.size w3 w5 := k4.trans (hb5.mono k4.size)
    refine ⟨p2, rfl, k5, Lib.hid ?_⟩
    have hgU := seed_upF (base := 0) hg.2.1 (by decide) (by decide)
    have hgU2 := seed_upF (base := 1000 * (k : Int)) hg.2.1 hg.2.2.1 hg.2.2.2
    have hlow := (seed_lag (base := 0) hg.2.1).2
    have esh : seedU (1000 * (k : Int)) (formU b T) = shU (1000 * (k : Int)) (seedU 0 (formU b T)) := by
      have := shU_seed 0 (1000 * (k : Int)) (formU b T)
      rw [Int.sub_zero] at this
      exact this
    have e0 : 1000 * (k : Int) = 0 + 1000 * (k : Int) := (Int.zero_add _).symm
    have hp5 := (hp3.more k4 (fun _ hj => .inl hj)).other hb5 hi5 hn5
    rw [esh] at hp5 hgU2
    rw [← seedU_cut] at hlow
    have hp6 : PC W w5 o p2 mr g (0 + 1000 * (k : Int)) c (shU (1000 * (k : Int)) (seedU 0 (formU b T))) C idle age 4000 (2 * k) g 0 c (seedU 0 (formU b T)) C k F := by rw [← e0]; exact hp5
    refine ⟨g, 1000 * (k : Int), 0, c, seedU 0 (formU b T), C, hp6.weak (by omega) (by omega) (by omega), hgU.upto, ?_, hlow, hg.1, by omega⟩
    rw [← e0]
    exact hgU2.upto
  · refine .inr ⟨c, T.length, Lib.hid ((KF _ (Below.refl _ w).drew).mono ?_)⟩
    rintro e w1 ⟨A, c1, rfl, hT, hb1⟩
    have k1 : Below w.heap.size w w1 := (Below.refl _ w).drew.trans hb1
    refine ⟨A, c1, rfl, k1, Lib.hid ((sseed_p c (1000 * (k : Int)) A T.length c1 (formU b T) w1 g (formU_length _ _) (by omega) hT).mono ?_)⟩
    intro e w2 hs
    unfold SeedP at hs
    rw [if_neg hg] at hs
    exact ⟨hs.1, k1.trans (hs.2.mono k1.size), Lib.hid (hskip.more (k1.trans (hs.2.mono k1.size)) (fun _ hj => .inl hj))⟩
end
end Go.Proofs.YtandmngfajoinaaGreat.Po
