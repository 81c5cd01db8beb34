/-
  THE DOCUMENT's Push: its fifth way.
-/
import Derived.Test.YtagidmghmbfnpaaJPush
import Derived.Deep.RegionHeldLaw
import Derived.Deep.CutBlock
namespace Go.Proofs.Ytagidmghmbfnpaa
open Go.RowKit
set_option linter.unusedVariables false
set_option linter.unusedSimpArgs false
set_option maxRecDepth 100000

theorem set_keep {w : World} {b b5 : Nat} {ty ty' : TypeId} {cs : Array Value} {v a x y z : Value} (hx : Fb w b ty cs) (hc : cs[5]? = some a) (hk : Fb w b5 ty' #[x, y, z]) (hne : b5 ≠ b) : (w.setCell ⟨b, 2, none⟩ v).cell? ⟨b, 5, none⟩ = some a ∧ (w.setCell ⟨b, 2, none⟩ v).cell? ⟨b5, 0, none⟩ = some x ∧ (w.setCell ⟨b, 2, none⟩ v).cell? ⟨b5, 1, none⟩ = some y ∧ (w.setCell ⟨b, 2, none⟩ v).cell? ⟨b5, 2, none⟩ = some z :=
  ⟨((hx.set 2 v).cell 5).trans (by rw [Array.getElem?_setIfInBounds_ne (by decide)]; exact hc), (hk.far 2 v hne).cell 0, (hk.far 2 v hne).cell 1, (hk.far 2 v hne).cell 2⟩
/-- Behind the first assignment. -/
structure PsW (W : World) (b2 b4 : Nat) (x0 x1 x3 x4 x5 x6 x7 : Value) (A : Option Addr) (n c : Nat) (l : List It) (wx : World) : Prop where
  x : Jx W b2 b4 #[x0, x1, .slice A n c, x3, x4, x5, x6, x7] wx
  r : JtR W.heap.size wx (.slice A n c) l
theorem psw_of {W w8 : World} {b2 b4 : Nat} {x0 x1 x2 x3 x4 x5 x6 x7 : Value} {A : Option Addr} {n c : Nat} {l : List It} {B : Nat} (hx : Jx W b2 b4 #[x0, x1, x2, x3, x4, x5, x6, x7] w8) (hr : JtR B w8 (.slice A n c) l) (hB : W.heap.size ≤ B) : PsW W b2 b4 x0 x1 x3 x4 x5 x6 x7 A n c l (w8.setCell ⟨b2, 2, none⟩ (.slice A n c)) := by
  have hne := hx.row hr jit_ne
  obtain ⟨c4, y1, y2⟩ := hx.x4
  refine ⟨⟨Below.setCell hx.b (p := ⟨b2, 2, none⟩) hx.n2 _, hx.x2.set 2 _, ⟨c4, y1.far 2 _ hx.ne.symm, y2⟩, hx.n2, hx.n4, hx.ne⟩, row_mono (row_heap hr fun k hk => Below.heap_setCell _ _ _ _ (hne k hk).1) hB⟩
end Go.Proofs.Ytagidmghmbfnpaa
