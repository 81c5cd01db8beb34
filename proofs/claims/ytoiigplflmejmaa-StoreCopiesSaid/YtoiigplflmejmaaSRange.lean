/-
  A range over an iterator that may itself range over one, by a body that always goes on: the caller's state must abide whatever is no cells and is laid since.
-/
import Derived.Test.YtoiigplflmejmaaSFromN
import Derived.RangeFuncNested
import Derived.RangeFuncBound
import Derived.RangeFuncCalls
import Derived.RangeFuncLeaves
import Derived.Shelf.Abstract
import Derived.Shelf.RegionOpen
import Derived.WalkKit
import Derived.OwnWalkIn
import Derived.TacticsInMore
import Derived.LoopNIn
import Derived.LoopIn
namespace Go.Proofs.Ytoiigplflmejmaa
open Go.RowKit Go.Shelf
set_option linter.unusedVariables false
set_option linter.unusedSimpArgs false
set_option maxRecDepth 100000
attribute [local go_sem] Oper.semAt_some


theorem round_wide {n n' : Nat} {P : Program} {l : Nat} {f : FuncId} {tmps : Array Value} {assign body : Code} {w : World} {R : Ending → World → Prop} (h : RoundIn Fence.wide n P l f tmps assign body w R) : RoundIn Fence.wide n' P l f tmps assign body w R :=
  ⟨h.1, fun c cs _ => h.2 c cs (room_wide _)⟩
theorem round_in {n : Nat} {P : Program} {l : Nat} {f : FuncId} {tmps : Array Value} {assign body : Code} {w : World} {R : Ending → World → Prop} (k : Nat) (h : RoundIn Fence.wide n P l f tmps assign body w R) : RoundIn (Fence.wide.inRound k) n P l f tmps assign body w R := h
/-- All lies as it lay but what X names. -/
structure Kq (X : Nat → Prop) (W W' : World) : Prop where
  os : W'.os = W.os
  tape : W'.tape = W.tape
  output : W'.output = W.output
  size : W.heap.size ≤ W'.heap.size
  block : ∀ (q : Nat) (o : Obj), ¬ X q → W.heap[q]? = some o → W'.heap[q]? = some o
theorem Kq.refl (X : Nat → Prop) (W : World) : Kq X W W := ⟨rfl, rfl, rfl, Nat.le_refl _, fun _ _ _ h => h⟩
theorem Kq.trans {X : Nat → Prop} {A B C : World} (h : Kq X A B) (k : Kq X B C) : Kq X A C := ⟨k.os.trans h.os, k.tape.trans h.tape, k.output.trans h.output, Nat.le_trans h.size k.size, fun q o hn hq => k.block q o hn (h.block q o hn hq)⟩
theorem Kq.of {X : Nat → Prop} {A B : World} (h : Below A.heap.size A B) : Kq X A B := ⟨h.os, h.tape, h.output, h.size, fun q o _ hq => (h.block q (Array.getElem?_eq_some_iff.1 hq).1).trans hq⟩
theorem Kq.weak {X Y : Nat → Prop} {A B : World} (h : Kq X A B) (hy : ∀ q, X q → Y q) : Kq Y A B := ⟨h.os, h.tape, h.output, h.size, fun q o hn hq => h.block q o (fun e => hn (hy q e)) hq⟩
theorem kq_put {X : Nat → Prop} (W : World) (l : Nat) (o' : Obj) (hl : X l) : Kq X W (W.putObj l o') := ⟨rfl, rfl, rfl, by simp, fun q o hn hq => (World.putObj_heap_other (fun e => hn (by rw [e]; exact hl))).trans hq⟩
/-- What an iterator gives to a body that always goes on. -/
def GivesAll {α : Type} (P : Program) (g : Nat) (lb : Array Value) (encs : α → Array Value) (X : Nat → Prop) (S : List α → Prop) (N : Nat) (w : World) : Prop :=
  ∀ (l : Nat) (J : List α → World → Prop) (W : World), Below w.heap.size w W → (∀ q, W.heap.size ≤ q → ¬ X q) → OwnFrom W.heap.size J →
    (∀ pre x W1, J pre W1 → pre.length < N → YieldAt Fence.wide 3 P l (encs x) W1 fun e W' => e = .returned (.bool true) ∧ J (pre ++ [x]) W' ∧ Kq X W1 W') → J [] W →
    CallsIn Fence.wide 4 P g (#[.func (.yield l) #[] #[]] ++ lb) W fun e W' => (∃ v, e = .returned v) ∧ ∃ xs, S xs ∧ J xs W'
section
variable {α : Type} {P : Program}
/-- The loop's record and its block for deferred calls, as they lie between two rounds. -/
def Kept2 (b : Nat) (r : Loop) (W : World) : Prop := W.heap[b + 1]? = some (.loop r) ∧ W.heap[b]? = some (.deferred (some []))
theorem Kept2.grown {b : Nat} {r : Loop} {W W' : World} {row : Option Nat} (h : Kept2 b r W) (hg : W.grownBy W' row) (hr : ∀ q, row = some q → b + 2 ≤ q) : Kept2 b r W' := by
  have h1 := (Array.getElem?_eq_some_iff.1 h.1).1
  have h2 := (Array.getElem?_eq_some_iff.1 h.2).1
  exact ⟨(hg.block _ h1 (fun e => by have := hr _ e.symm; omega)).trans h.1, (hg.block _ h2 (fun e => by have := hr _ e.symm; omega)).trans h.2⟩
set_option maxHeartbeats 4000000 in
theorem range_all {g : Operand} {ps : Array Tmp} {assign body : Code} {Q : Exit → Act → World → Prop} {a : Act} {w : World} {gf : Nat} {lb : Array Value}
    (hg : a.eval g = .func (.func gf) #[] lb) (eg : ∀ args w, (callFunc gf args).run P w = .ok (.enter gf args) w)
    {encs : α → Array Value} {gn : Nat} {S : List α → Prop} {N : Nat} {w0 : World} (hgn : gn < w.heap.size) (hseq : GivesAll P gf lb encs (fun q => q = gn ∨ q = w.heap.size + 1) S N w0)
    (hb0 : Below w0.heap.size w0 w) (hps : ∀ x, (encs x).size = ps.size) (I : List α → World → Prop) (hI : OwnFrom w.heap.size I) (h0 : I [] w) (a₁ : α → Act)
    (hassign : ∀ (l : Nat) (x : α) (W : World) (K : Act → World → Prop), K (a₁ x) W → assign.wpIn (Fence.wide.inRound l) 3 P (Exit.then K (fun _ _ _ => False)) { tmps := (ps.zip (encs x)).foldl (fun t (p, v) => t.setIfInBounds p v) a.tmps, defers := [] } W)
    (hbody : ∀ (l : Nat) (pre : List α) (x : α) (W : World), I pre W → pre.length < N → body.wpIn (Fence.wide.inRound l) 3 P (fun e _ W' => e = .normal ∧ Kq (fun q => q = gn) W W' ∧ I (pre ++ [x]) W') (a₁ x) W)
    (hdone : ∀ (D : Nat) (xs : List α) (W : World), w.heap.size ≤ D → S xs → I xs W → W.heap[D]? = some (.deferred (some [])) → Q .normal { a with defers := { target := .collected D, args := #[] } :: a.defers } W) :
    (Code.rangeFunc g ps assign body).wpIn Fence.wide 5 P Q a w := by
  refine wpIn_rangeFunc fun fn hfn => ?_
  obtain ⟨b, hb⟩ : ∃ b, b = w.heap.size := ⟨_, rfl⟩
  obtain ⟨rd, hrd⟩ : ∃ rd : Loop, rd = { state := .ready, pending := none, fn, tmps := a.tmps, params := ps, assign, body, defers := b } := ⟨_, rfl⟩
  obtain ⟨W1, hW1⟩ : ∃ W1, W1 = (w.alloc (.deferred (some []))).alloc (.loop rd) := ⟨_, rfl⟩
  have hz : W1.heap.size = b + 2 := by rw [hW1, hb]; simp
  have hK1 : Kept2 b rd W1 := by
    constructor
    · have := World.alloc_heap_new (w.alloc (.deferred (some []))) (.loop rd)
      rw [World.size_alloc] at this
      rw [hW1, hb]; exact this
    · rw [hW1, hb]; exact (Below.heap_alloc _ _ _ (by simp)).trans (World.alloc_heap_new w _)
  have hI1 : I [] W1 := by rw [hW1]; exact hI.alloc _ (hI.alloc _ h0)
  have hb1 : Below w0.heap.size w0 W1 := by
    rw [hW1]; exact hb0.trans ((((Below.refl _ w).alloc (Nat.le_refl _) _).alloc (by simp) _).mono hb0.size)
  have hrun : (Instr.enterLoop fn a.tmps ps assign body Fence.wide.round).run P w = .ok (b + 1, [{ target := .collected b, args := #[] }]) W1 := by
    rw [hW1, hrd, hb]; exact run_enterLoop_outer _ _ _ _ _
  refine ⟨b + 1, _, W1, { target := .fn (.func gf) lb, args := #[.func (.yield (b + 1)) #[] #[]] }, W1, gf, #[.func (.yield (b + 1)) #[] #[]] ++ lb, W1, hrun, ?_, fun _ _ => trivial, ?_, fun _ => (by decide), ?_⟩
  · simp only [resolve, hg]
    simp [go_sem]
  · simp [invoke, go_sem, eg]
  refine (hseq (b + 1) (fun pre W => I pre W ∧ Kept2 b rd W) W1 hb1 (fun q hq e => by rw [hz] at hq; omega) ?own ?one ⟨hI1, hK1⟩).mono ?behind
  case own =>
    rintro pre A B row ⟨h1, h2⟩ hgr hr
    refine ⟨hI pre A B row h1 hgr (fun r e => ⟨?_, (hr r e).2⟩), h2.grown hgr (fun q e => ?_)⟩
    · have := (hr r e).1; rw [hz] at this; omega
    · have := (hr q e).1; rw [hz] at this; exact this
  case one =>
    rintro pre x W ⟨hi, hl, hk⟩ hlen
    have hlt := (Array.getElem?_eq_some_iff.1 hl).1
    have hy := run_yield (P := P) (args := encs x) hl (by rw [hrd]; exact hps x)
    rw [hrd] at hy
    refine ⟨fn, _, assign, body, hy, roundIn_of_wpIn hfn (hassign _ x W _ ?_)⟩
    have hbeg := run_beginRound (P := P) hl (by rw [hrd])
    refine ⟨_, hbeg, ?_⟩
    obtain ⟨bz, hbz⟩ : ∃ bz : Loop, bz = { rd with state := .busy } := ⟨_, rfl⟩
    rw [← hbz]
    have hl2 : (W.putObj (b + 1) (.loop bz)).heap[b + 1]? = some (.loop bz) := World.putObj_heap_same hlt
    have hk2 : (W.putObj (b + 1) (.loop bz)).heap[b]? = some (.deferred (some [])) := (World.putObj_heap_other (by omega)).trans hk
    have hp2 : Kq (fun q => q = gn ∨ q = w.heap.size + 1) W (W.putObj (b + 1) (.loop bz)) := kq_put _ _ _ (.inr (by rw [hb]))
    refine wpIn_mono (hbody (b + 1) pre x _ (hI.putObj _ hi (by omega) hl rfl) hlen) ?_
    rintro e a3 W3 ⟨rfl, hkp, hi3⟩
    have hl3 := hkp.block _ _ (by omega) hl2
    have hk3 := hkp.block _ _ (by omega) hk2
    have hend := run_endRound (P := P) none hl3
    refine ⟨_, _, hend, rfl, ⟨hI.putObj _ hi3 (by omega) hl3 rfl, ?_⟩, (hp2.trans (hkp.weak (fun q e => .inl e))).trans (kq_put _ _ _ (.inr (by rw [hb])))⟩
    have e : ({ bz with state := if (none : Option Code).isNone then .ready else .done, pending := none } : Loop) = rd := by rw [hbz, hrd]; rfl
    exact ⟨by rw [e]; exact World.putObj_heap_same (Array.getElem?_eq_some_iff.1 hl3).1, (World.putObj_heap_other (by omega)).trans hk3⟩
  case behind =>
    rintro e W2 ⟨⟨v, rfl⟩, xs, hS, hi, hl, hk⟩
    have hend := run_endLoop (P := P) hl (by rw [hrd]; simp)
    refine ⟨none, _, by rw [hrd] at hend; exact hend, hdone b xs _ (by omega) hS (hI.putObj _ hi (by omega) hl rfl) ((World.putObj_heap_other (by omega)).trans hk)⟩
end
end Go.Proofs.Ytoiigplflmejmaa
