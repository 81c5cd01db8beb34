/-
  TermEquals: its words; being of one value is handed on; terms that are long.
-/
import Derived.Test.YtbecjlmbalcgeaaDoorTTerm
import Derived.Deep.RegionHeld3
namespace Go.Proofs.YtbecjlmbalcgeaaDoor
open Go.RowKit
set_option linter.unusedVariables false

theorem bytes_ext {a b : ByteArray} (h : (a.toList == b.toList) = true) : a = b := by
  rw [beq_iff_eq, ByteArray.toList_eq, ByteArray.toList_eq] at h
  exact ByteArray.ext (Array.ext' h)
theorem orT_zero {u v : Int} : orT u v = 0 ↔ u = 0 ∧ v = 0 := by
  unfold orT
  by_cases h : u = 0
  · rw [if_pos h]; simp [h]
  · rw [if_neg h]; simp [h]
/-- Three terms' boxes. -/
abbrev R4 (k : Int) (a b c : ByteArray) : Array Value := #[.int .i64 k, .string a, .string b, .string c]
def Tx3 (w : World) (u v x : Array Value) (W : World) : Prop := Below w.heap.size w W ∧ Fb W w.heap.size 23 u ∧ Fb W (w.heap.size + 1) 23 v ∧ Fb W (w.heap.size + 1 + 1) 23 x
theorem Tx3.drew {w : World} {u v x : Array Value} {W : World} (h : Tx3 w u v x W) : Tx3 w u v x W.drew := ⟨Below.drew h.1, h.2⟩
theorem Tx3.below {w : World} {u v x : Array Value} {W W' : World} (h : Tx3 w u v x W) (hb : Below W.heap.size W W') : Tx3 w u v x W' := ⟨h.1.trans (hb.mono h.1.size), h.2.1.below hb, h.2.2.1.below hb, h.2.2.2.below hb⟩
theorem Tx3.mk (w : World) (u v x : Array Value) : Tx3 w u v x (((w.alloc (.cells u 23)).alloc (.cells v 23)).alloc (.cells x 23)) :=
  ⟨(((Below.refl _ _).alloc (Nat.le_refl _) _).alloc (by simp) _).alloc (by simp; omega) _, ((Fb.new _ _ _).alloc _).alloc _, by simpa using (Fb.new (w.alloc (.cells u 23)) 23 v).alloc (.cells x 23), by simpa using Fb.new ((w.alloc (.cells u 23)).alloc (.cells v 23)) 23 x⟩
def Cells4 (W : World) (g : Nat) (k : Int) (a b c : ByteArray) : Prop := W.cell? ⟨g, 0, none⟩ = some (.int .i64 k) ∧ W.cell? ⟨g, 1, none⟩ = some (.string a) ∧ W.cell? ⟨g, 2, none⟩ = some (.string b) ∧ W.cell? ⟨g, 3, none⟩ = some (.string c)
theorem Fb.four {W : World} {g : Nat} {k : Int} {a b c : ByteArray} (h : Fb W g 23 (R4 k a b c)) : Cells4 W g k a b c := ⟨h.cell 0, h.cell 1, h.cell 2, h.cell 3⟩
theorem Tx3.all {w : World} {k k' k'' : Int} {a b c a' b' c' a'' b'' c'' : ByteArray} {W : World} (h : Tx3 w (R4 k a b c) (R4 k' a' b' c') (R4 k'' a'' b'' c'') W) :
    W.cell? ⟨w.heap.size, 0, none⟩ = some (.int .i64 k) ∧ W.cell? ⟨w.heap.size, 1, none⟩ = some (.string a) ∧ W.cell? ⟨w.heap.size, 2, none⟩ = some (.string b) ∧ W.cell? ⟨w.heap.size, 3, none⟩ = some (.string c) ∧
    W.cell? ⟨w.heap.size + 1, 0, none⟩ = some (.int .i64 k') ∧ W.cell? ⟨w.heap.size + 1, 1, none⟩ = some (.string a') ∧ W.cell? ⟨w.heap.size + 1, 2, none⟩ = some (.string b') ∧ W.cell? ⟨w.heap.size + 1, 3, none⟩ = some (.string c') ∧
    W.cell? ⟨w.heap.size + 1 + 1, 0, none⟩ = some (.int .i64 k'') ∧ W.cell? ⟨w.heap.size + 1 + 1, 1, none⟩ = some (.string a'') ∧ W.cell? ⟨w.heap.size + 1 + 1, 2, none⟩ = some (.string b'') ∧ W.cell? ⟨w.heap.size + 1 + 1, 3, none⟩ = some (.string c'') ∧ Tx3 w (R4 k a b c) (R4 k' a' b' c') (R4 k'' a'' b'' c'') W :=
  ⟨h.2.1.cell 0, h.2.1.cell 1, h.2.1.cell 2, h.2.1.cell 3, h.2.2.1.cell 0, h.2.2.1.cell 1, h.2.2.1.cell 2, h.2.2.1.cell 3, h.2.2.2.cell 0, h.2.2.2.cell 1, h.2.2.2.cell 2, h.2.2.2.cell 3, h⟩
theorem tx_of {w : World} {u v x : Array Value} {W : World} {f : Nat} {args : Array Value} {y : Value} (h : Tx3 w u v x W) (c : Calls Tryd.prog f args W fun e w' => e = .returned y ∧ Below W.heap.size W w') :
    Calls Tryd.prog f args W fun e w' => e = .returned y ∧ Tx3 w u v x w' := c.mono fun _ _ ⟨a, b⟩ => ⟨a, h.below b⟩
end Go.Proofs.YtbecjlmbalcgeaaDoor
