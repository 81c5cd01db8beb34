/-
  MERGED (a claim has at most 60 files): NgArg.
-/
import Derived.Test.YtghlajfalgdkfaaZ09
import Derived.Test.YtghlajfalgdkfaaRows
import Derived.WalkKit
import Derived.ProofKit
import Derived.OpenShut
import Derived.ChangeSlices
import Derived.Lib.SmallJoins
import Derived.Deep.Slices
import Derived.Deep.Strs
/-
  ARGUMENTS AS THE CALL GETS THEM: nodes, a slice of three cells each, the third a slice of bytes; bytes.
-/
namespace Go.Proofs.Ytghlajfalgdkfaa
open Go.ChangeShapes Go.WideShapes Go.ChangeAt Go.RowKit
set_option linter.unusedVariables false
set_option linter.unusedSimpArgs false
set_option maxRecDepth 100000
section
variable {H : Type} {enc : TypeId × Value → H} {W : World}
theorem cellsU : Try.prog.cellsOf 5 = 1 := by kernel_rfl
theorem cellsNode : Try.prog.cellsOf 48 = 3 := by kernel_rfl
theorem bytes_opened {fuel : Nat} {v : Value} {y : DataW H × List MemPlace} (h : DataW.trod enc Try.prog W 0 (fun _ => true) true fuel 23 [v] = some y) (hlt : ∀ z ∈ y.2, z.block < W.heap.size) :
    ∃ (A : Option Addr) (l : List Int) (cap : Nat), v = .slice A l.length cap ∧ l.length ≤ cap ∧ cap ≤ maxLen ∧ Byt W A l ∧ ∀ x ∈ l, 0 ≤ x ∧ x < 256 := by
  rcases open_ints Try.underlying23 Try.underlying5 cellsU h with ⟨hcs, hx⟩ | ⟨a, len, cap, zs, hcs, _, hl, hm, hz, hx, hcell, hwz⟩
  · simp at hcs
    exact ⟨none, [], 0, hcs, Nat.le_refl _, by decide, fun j x hx => by simp at hx, fun x hx => by cases hx⟩
  · simp at hcs
    simp only [if_true] at hz
    have hbd : ∀ x ∈ zs.take len, 0 ≤ x ∧ x < 256 := fun x hx => by
      have := bounds_u8 (hwz x (List.mem_of_mem_take hx))
      omega
    refine ⟨some a, zs.take len, cap, by rw [hcs, List.length_take]; congr 1; omega, by simp; omega, hm, fun j x hxj => ?_, hbd⟩
    have hj : j < len := by have := (List.getElem?_eq_some_iff.1 hxj).1; simp at this; omega
    have hxz : zs.getD j 0 = x := by rw [List.getElem?_take_of_lt hj] at hxj; simp [List.getD, hxj]
    obtain ⟨b, off, spot⟩ := a
    have hspot : spot = none := by simpa [Addr.add] using World.cell?_spot (hcell 0 (by omega))
    subst hspot
    have hbW : b < W.heap.size := hlt (.cell b off) (by rw [hx]; exact MemPlace.mem_row.2 ⟨0, by omega, by simp⟩)
    refine ⟨b, off, rfl, hbW, ?_⟩
    rw [← add_plain, ← hxz]
    exact hcell j (by omega)
set_option maxHeartbeats 4000000 in
theorem nodes_opened {fuel : Nat} {v : Value} {y : DataW H × List MemPlace} (h : DataW.trod enc Try.prog W 0 (fun _ => true) true fuel 22 [v] = some y) (hlt : ∀ z ∈ y.2, z.block < W.heap.size) :
    ∃ (A : Option Addr) (len cap : Nat), v = .slice A len cap ∧ len ≤ cap ∧ cap ≤ maxLen ∧ NdI W A len := by
  rcases Go.Deep.open_slice Try.underlying22 h with ⟨hcs, hx⟩ | ⟨a, len, cap, m, n, D, Pl, hcs, _, hl, hm, hmm, hx, hi⟩
  · simp at hcs
    exact ⟨none, 0, 0, hcs, Nat.le_refl _, by decide, fun j hj => by omega⟩
  · simp at hcs
    simp only [if_true] at hmm
    rw [cellsNode] at hx hi
    subst hmm
    refine ⟨some a, len, m, hcs, hl, hm, fun j hj => ?_⟩
    obtain ⟨g, o, spot⟩ := a
    obtain ⟨cs0, hc0, _⟩ := hi 0 (by omega)
    have hz := (World.cells?_some hc0).2.2 0 (by decide)
    have hl0 := (World.cells?_some hc0).2.1
    obtain ⟨u, hu⟩ : ∃ u, cs0[0]? = some u := ⟨_, List.getElem?_eq_getElem (by omega)⟩
    rw [hu] at hz
    have hspot : spot = none := by simpa [Addr.add] using World.cell?_spot hz
    subst hspot
    obtain ⟨cs', hc', ht'⟩ := hi j (by omega)
    have hcl := (World.cells?_some hc').2.1
    have hcc := (World.cells?_some hc').2.2
    match cs', hcl with
    | [v0, v1, v2], _ =>
      have hg : g < W.heap.size := hlt (.cell g o) (by rw [hx]; exact List.mem_append_left _ (MemPlace.mem_row.2 ⟨0, Nat.mul_pos (by omega) (by decide), by simp⟩))
      rw [at_add] at hcc
      obtain ⟨y0, y1, y2, q, hy, _, h0, h1, h2⟩ := Go.Deep.trod_struct3 Try.underlying48 ht'
      have hI : Try.prog.cellsOf 3 = 1 := by kernel_rfl
      have hB : Try.prog.cellsOf 23 = 1 := by kernel_rfl
      simp [hI, hB] at h0 h1 h2
      obtain ⟨k, e0, _, w0⟩ := DataW.trod_int Try.underlying3 h0
      obtain ⟨nn, e1, _, w1⟩ := DataW.trod_int Try.underlying3 h1
      simp at e0 e1
      subst e0 e1
      simp only [Prod.mk.injEq] at hy
      obtain ⟨A', l', c', hv2, hlc, hcm, hByt, hbd⟩ := bytes_opened h2 fun z hz => hlt z (by
        rw [hx]
        refine List.mem_append_right _ (List.mem_flatMap.2 ⟨j, List.mem_range.2 (by omega), ?_⟩)
        rw [hy.2]
        exact List.mem_append_right _ (List.mem_append_right _ hz))
      subst hv2
      have b0 := bounds_i64 w0
      have b1 := bounds_i64 w1
      have x0 := hcc 0 (by decide)
      have x1 := hcc 1 (by decide)
      have x2 := hcc 2 (by decide)
      rw [at_add] at x0 x1 x2
      exact ⟨g, o, k, nn, A', l'.length, c', l', rfl, hg, x0, x1, x2, rfl, by omega, hByt, hbd, by omega, by omega, by omega, by omega⟩
end
end Go.Proofs.Ytghlajfalgdkfaa
