/-
  A BUFFER, A ROW OF ITEMS THAT WERE TAKEN, A ROW OF TIMES THAT CAME IN: for IngestRises.
-/
import Derived.Test.YtagidmghmbfnpaaIRun
import Derived.Laws.MakeOwn
namespace Go.Proofs.Ytagidmghmbfnpaa
open Go.RowKit
set_option linter.unusedVariables false
set_option linter.unusedSimpArgs false
set_option maxRecDepth 100000

theorem c5_one (l : List It) : ∀ u ∈ l.flatMap c5, u.oneCell' = true := fun u hu => by
  obtain ⟨x, _, hx⟩ := List.mem_flatMap.1 hu
  unfold c5 at hx
  simp only [List.mem_cons, List.not_mem_nil, or_false] at hx
  rcases hx with rfl | rfl | rfl | rfl | rfl <;> rfl
def TmR (B : Nat) (W : World) (v : Value) (L : List Int) : Prop := W.ownsRow B 3 1 v L.length (L.map (Value.int .i64))
theorem TmR.shape {B : Nat} {W : World} {v : Value} {L : List Int} (h : TmR B W v L) : ∃ A c, v = .slice A L.length c := by
  rcases id h.2 with ⟨hv, hl⟩ | ⟨g, cap, cur, hv, _⟩
  · exact ⟨none, 0, by rw [hv, hl]⟩
  · exact ⟨_, cap, hv⟩
theorem TmR.at {B : Nat} {W : World} {v : Value} {L : List Int} (h : TmR B W v L) {i : Nat} {x : Int} (hi : L[i]? = some x) : ∃ g cap, v = .slice (some ⟨g, 0, none⟩) L.length cap ∧ W.cell? ⟨g, i, none⟩ = some (.int .i64 x) := by
  rcases id h.2 with ⟨hv, hl⟩ | ⟨g, cap, cur, hv, _⟩
  · have := (List.getElem?_eq_some_iff.1 hi).1
    omega
  · refine ⟨g, cap, hv, ?_⟩
    have := World.ownsRow.cells h (g := g) (by rw [hv]; rfl) i (.int .i64 x) (by rw [List.getElem?_map, hi]; rfl)
    rwa [at_add, Nat.zero_add] at this
section
variable {w1 W : World} {d : Nat} {s : Bs} {v : Value} {l : List It} {vo : Value} {out : List It} {vc : Value} {came : List Int}
end
end Go.Proofs.Ytagidmghmbfnpaa
