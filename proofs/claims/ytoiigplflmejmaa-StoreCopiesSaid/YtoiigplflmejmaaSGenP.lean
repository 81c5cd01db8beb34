/-
  A LIST OF KEYS, one block: add, in general.
-/
import Derived.Test.YtoiigplflmejmaaSGenH
import Derived.Deep.RegionLaw
namespace Go.Proofs.Ytoiigplflmejmaa
open Go.RowKit
set_option linter.unusedVariables false
set_option linter.unusedSimpArgs false
set_option maxRecDepth 100000

/-- What an add may turn. -/
structure Tk (gb : Nat) (v v' : Value) (W W' : World) : Prop where
  os : W'.os = W.os
  tape : W'.tape = W.tape
  output : W'.output = W.output
  size : W.heap.size ≤ W'.heap.size
  far : ∀ k, v'.ownBlock = some k → v.ownBlock = some k ∨ W.heap.size ≤ k
  block : ∀ k, k < W.heap.size → k ≠ gb → v.ownBlock ≠ some k → W'.heap[k]? = W.heap[k]?
theorem ins_perm (l : List Kt) (j : Nat) (k : Kt) : (l.take j ++ k :: l.drop j).Perm (k :: l) := by
  have := List.perm_middle (a := k) (l₁ := l.take j) (l₂ := l.drop j)
  rwa [List.take_append_drop] at this
theorem ins_rs {n : Int} {l : List Kt} {k : Kt} {j : Nat} (hs : Rs n l) (hk : k ∉ l) (hj : j ≤ l.length) (h1 : ∀ t, t < j → notA n l k t = false) (h2 : ∀ t, j ≤ t → t < l.length → notA n l k t = true) : Rs n (l.take j ++ k :: l.drop j) := by
  have hlt : ∀ x ∈ l.take j, ltK n x k = true := fun x hx => by
    obtain ⟨t, ht⟩ := List.getElem?_of_mem hx
    rw [List.getElem?_take] at ht
    split at ht
    · rename_i h
      have := h1 t h
      rw [notA_at ht] at this
      simpa using this
    · cases ht
  have hgt : ∀ x ∈ l.drop j, ltK n k x = true := fun x hx => by
    obtain ⟨t, ht⟩ := List.getElem?_of_mem hx
    rw [List.getElem?_drop] at ht
    have htl := (List.getElem?_eq_some_iff.1 ht).1
    have := h2 (j + t) (by omega) htl
    rw [notA_at ht] at this
    have hn : ltK n x k = false := by simpa using this
    cases hq : ltK n k x with
    | true => rfl
    | false => exact absurd (ltK_tot hn hq ▸ List.mem_of_getElem? ht) hk
  unfold Rs
  rw [List.pairwise_append, List.pairwise_cons]
  refine ⟨hs.sublist (List.take_sublist _ _), ⟨hgt, hs.sublist (List.drop_sublist _ _)⟩, fun x hx y hy => ?_⟩
  rcases List.mem_cons.1 hy with rfl | hy
  · exact hlt x hx
  · exact ltK_tr (hlt x hx) (hgt y hy)
def SladdPost (B : Nat) (W : World) (d o : Nat) (n : Int) (gb cb : Nat) (v : Value) (l : List Kt) (k : Kt) (e : Ending) (w' : World) : Prop := e = .returned (.tuple #[]) ∧ ∃ v' l', Lm B w' d o n gb cb v' l' ∧ Rs n l' ∧ l'.Perm (k :: l) ∧ Tk gb v v' W w'
/-- Behind the store. -/
structure PsA (B : Nat) (W : World) (d o : Nat) (n : Int) (gb cb : Nat) (v : Value) (l' : List Kt) (v' : Value) (wx : World) : Prop where
  lm : Lm B wx d o n gb cb v' l'
  tk : Tk gb v v' W wx
section
variable {B : Nat} {W W' : World} {d o gb cb : Nat} {n : Int} {v : Value} {l : List Kt}
theorem keys_ne : 70 ≠ 37 := by decide
theorem psa_fb {w1 w4 w5 : World} (h : Lm B W d o n gb cb v l) (hb1 : Below W.heap.size W w1) (hb4 : Below w1.heap.size w1 w4) (hg : w4.grownBy w5 v.ownBlock) : Fk w5 gb 70 v := by
  have hgl := h.hb.lt
  have hbn : v.ownBlock ≠ some gb := fun e => by
    obtain ⟨cur, hc⟩ := row_block h.hr e
    obtain ⟨rs, this⟩ := h.hb
    unfold Fb at this
    rw [hc] at this
    injection this with this
    injection this with _ this
    exact keys_ne this.symm
  have hb14 : Below W.heap.size W w4 := hb1.trans (hb4.mono hb1.size)
  exact h.hb.keep ((hg.block gb (by have := hb14.size; omega) (fun e => hbn e.symm)).trans (hb14.block gb hgl))
theorem psa_cell {w1 w4 w5 : World} (h : Lm B W d o n gb cb v l) (hv : v.ownBlock ≠ some d) (hb1 : Below W.heap.size W w1) (hb4 : Below w1.heap.size w1 w4) (hg : w4.grownBy w5 v.ownBlock) : w5.cell? ⟨d, o + 1, none⟩ = some (.slice (some ⟨gb, 0, none⟩) 1 cb) ∧ d < w5.heap.size := by
  have hdl : d < W.heap.size := World.block_lt_of_cell? _ _ h.h0
  have hb14 : Below W.heap.size W w4 := hb1.trans (hb4.mono hb1.size)
  have h1 : w5.heap[d]? = W.heap[d]? := (hg.block d (by have := hb14.size; omega) (fun e => hv e.symm)).trans (hb14.block d hdl)
  refine ⟨?_, by have := hb14.size; have := hg.size; omega⟩
  rw [World.cell?_of_block (w := W) (a := ⟨d, o + 1, none⟩) h1]
  exact h.h1
theorem psa_of {w1 w4 w5 : World} {v' : Value} {k : Kt} {j : Nat} (h : Lm B W d o n gb cb v l) (hv : v.ownBlock ≠ some d) (hdg : d ≠ gb) (hb1 : Below W.heap.size W w1) (hb4 : Below w1.heap.size w1 w4) (hr : KtR B w5 v' (l.take j ++ k :: l.drop j)) (hg : w4.grownBy w5 v.ownBlock) (hf : ∀ k, v'.ownBlock = some k → v.ownBlock = some k ∨ w4.heap.size ≤ k) : PsA B W d o n gb cb v (l.take j ++ k :: l.drop j) v' (w5.setCell ⟨gb, 0, none⟩ v') := by
  have hdl : d < W.heap.size := World.block_lt_of_cell? _ _ h.h0
  have hgl := h.hb.lt
  have hbn : v.ownBlock ≠ some gb := fun e => by
    obtain ⟨cur, hc⟩ := row_block h.hr e
    obtain ⟨rs, this⟩ := h.hb
    unfold Fb at this
    rw [hc] at this
    injection this with this
    injection this with _ this
    exact keys_ne this.symm
  have hb14 : Below W.heap.size W w4 := hb1.trans (hb4.mono hb1.size)
  have hrow : ∀ q, v'.ownBlock = some q → q ≠ gb := fun q hq e => by
    rcases hf q hq with y | y
    · exact hbn (by rw [y, e])
    · have := hb14.size; omega
  have hcell : ∀ (i : Nat) (u : Value), W.cell? ⟨d, i, none⟩ = some u → (w5.setCell ⟨gb, 0, none⟩ v').cell? ⟨d, i, none⟩ = some u := fun i u hu => by
    have h1 : w5.heap[d]? = W.heap[d]? := (hg.block d (by have := hb14.size; omega) (fun e => hv e.symm)).trans (hb14.block d hdl)
    rw [World.cell?_of_block (w := w5) (a := ⟨d, i, none⟩) (Below.heap_setCell _ _ _ _ hdg), World.cell?_of_block (w := W) (a := ⟨d, i, none⟩) h1]
    exact hu
  have hG : Fk w5 gb 70 v := h.hb.keep ((hg.block gb (by have := hb14.size; omega) (fun e => hbn e.symm)).trans (hb14.block gb hgl))
  refine ⟨⟨hcell o _ h.h0, hcell (o + 1) _ h.h1, hG.set 0 v', ?_⟩, ⟨hg.os.trans hb14.os, hg.tape.trans hb14.tape, hg.output.trans hb14.output, ?_, fun q hq => ?_, fun q hq hne hvq => ?_⟩⟩
  · refine ⟨hr.1, ?_⟩
    rcases id hr.2 with y | ⟨g, cap, cur, y1, y2, y3, y4⟩
    · exact .inl y
    · exact .inr ⟨g, cap, cur, y1, y2, (Below.heap_setCell _ _ _ _ (hrow g (by rw [y1]; rfl))).trans y3, y4⟩
  · have := hb14.size
    have := hg.size
    simp
    omega
  · rcases hf q hq with y | y
    · exact .inl y
    · right; have := hb14.size; omega
  · rw [Below.heap_setCell _ _ _ _ hne, hg.block q (by have := hb14.size; omega) (fun e => hvq e.symm)]
    exact hb14.block q hq
end
end Go.Proofs.Ytoiigplflmejmaa
