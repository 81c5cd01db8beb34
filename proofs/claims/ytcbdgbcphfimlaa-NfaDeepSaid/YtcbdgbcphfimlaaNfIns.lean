/-
  Insert of a move into none.
-/
import Derived.Test.YtcbdgbcphfimlaaNfApp
namespace Go.Proofs.Ytcbdgbcphfimlaa
open Go.RowKit
set_option linter.unusedVariables false
set_option linter.unusedSimpArgs false
set_option maxRecDepth 100000

/-- One move, where it lies. -/
structure Mv1 (W : World) (g c : Nat) (N : Int) : Prop where
  c1 : 1 ≤ c
  f : ∃ cs, Fb W g 85 cs
  n0 : W.cell? ⟨g, 0, none⟩ = some (.int .i64 N)
  n1 : W.cell? ⟨g, 1, none⟩ = some (.bool false)
  n2 : W.cell? ⟨g, 2, none⟩ = some (.int .i64 1)
def InsQ (W : World) (N : Int) (e : Ending) (w' : World) : Prop := ∃ g c, e = .returned (.slice (some ⟨g, 0, none⟩) 1 c) ∧ Mv1 w' g c N ∧ Below W.heap.size W w'
theorem new3 (w : World) (N : Int) (Z : Array Value) (c : Nat) (hc : 1 ≤ c) : Mv1 ((w.alloc (.cells (#[.int .i64 N, .bool false, .int .i64 1] ++ Z) 85)).drew) w.heap.size c N := by
  have hF := (Fb.new w 85 (#[.int .i64 N, .bool false, .int .i64 1] ++ Z)).drew
  refine ⟨hc, ⟨_, hF⟩, ?_, ?_, ?_⟩
  · rw [hF.cell 0]; first | rfl | simp [Array.getElem?_append]
  · rw [hF.cell 1]; first | rfl | simp [Array.getElem?_append]
  · rw [hF.cell 2]; first | rfl | simp [Array.getElem?_append]
set_option maxHeartbeats 8000000 in
theorem insert_nil {W : World} {k : Nat} {N : Int} (h0 : W.cell? ⟨k, 0, none⟩ = some (.int .i64 N)) (h1 : W.cell? ⟨k, 1, none⟩ = some (.bool false)) (h2 : W.cell? ⟨k, 2, none⟩ = some (.int .i64 1)) :
    Calls Try.prog 56 #[.slice none 0 0, .int .i64 0, .slice (some ⟨k, 0, none⟩) 1 1] W (InsQ W N) := by
  have hg := grownCap_ge W 1 0 85
  unfold grownCap at hg
  have HG := Lib.hid hg
  clear hg
  go_enter Try.func56, Try.ntmps56
  go_wp2
  go_ret
  refine ⟨_, _, rfl, new3 W N _ _ ?_, ?_⟩
  · exact HG.out
  · exact Below.drew ((Below.refl _ _).alloc (Nat.le_refl _) _)
end Go.Proofs.Ytcbdgbcphfimlaa
