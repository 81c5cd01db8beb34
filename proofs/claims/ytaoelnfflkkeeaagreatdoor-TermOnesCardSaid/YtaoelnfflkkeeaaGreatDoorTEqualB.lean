/-
  TermEquals: its words; being of one value is handed on; terms that are long.
-/
import Derived.Test.YtaoelnfflkkeeaaGreatDoorTTerm
import Derived.Deep.RegionHeld3
namespace Go.Proofs.YtaoelnfflkkeeaaGreatDoor
open Go.RowKit
set_option linter.unusedVariables false

theorem bytes_ext {a b : ByteArray} (h : (a.toList == b.toList) = true) : a = b := by
  rw [beq_iff_eq, ByteArray.toList_eq, ByteArray.toList_eq] at h
  exact ByteArray.ext (Array.ext' h)
/-- Three terms' boxes. -/
abbrev R4 (k : Int) (a b c : ByteArray) : Array Value := #[.int .i64 k, .string a, .string b, .string c]
def Cells4 (W : World) (g : Nat) (k : Int) (a b c : ByteArray) : Prop := W.cell? ⟨g, 0, none⟩ = some (.int .i64 k) ∧ W.cell? ⟨g, 1, none⟩ = some (.string a) ∧ W.cell? ⟨g, 2, none⟩ = some (.string b) ∧ W.cell? ⟨g, 3, none⟩ = some (.string c)
theorem Fb.four {W : World} {g : Nat} {k : Int} {a b c : ByteArray} (h : Fb W g 23 (R4 k a b c)) : Cells4 W g k a b c := ⟨h.cell 0, h.cell 1, h.cell 2, h.cell 3⟩
end Go.Proofs.YtaoelnfflkkeeaaGreatDoor
