/-
  LITERALS THAT ARE MADE: Plain, Int, Bool.
-/
import Derived.Test.YtaoelnfflkkeeaaGreatDoorTAwake
import Derived.Test.YtaoelnfflkkeeaaGreatDoorVParse
import Derived.Deep.RegionHeld3
namespace Go.Proofs.YtaoelnfflkkeeaaGreatDoor
open Go.RowKit
set_option linter.unusedVariables false

theorem Fb.free {w : World} {g : Nat} {t : TypeId} {cs : Array Value} (h : Fb w g t cs) (i : Nat) : w.frozen? ⟨g, i, none⟩ = false := by
  unfold Fb at h
  simp [World.frozen?, h]
end Go.Proofs.YtaoelnfflkkeeaaGreatDoor
