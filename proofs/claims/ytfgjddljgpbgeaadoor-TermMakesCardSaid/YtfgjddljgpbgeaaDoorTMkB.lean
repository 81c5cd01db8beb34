/-
  TermMakes: its words; texts that are long.
-/
import Derived.Test.YtfgjddljgpbgeaaDoorTMkA
import Derived.Test.YtfgjddljgpbgeaaDoorVRText
import Derived.Deep.RegionHeld3
namespace Go.Proofs.YtfgjddljgpbgeaaDoor
open Go.RowKit
set_option linter.unusedVariables false

/-- Three boxes. -/
def Zx (w : World) (g : Nat) (u p q : ByteArray) (W : World) : Prop := Below w.heap.size w W ∧ Fb W g 38 #[.string u, .string XI, .string mt] ∧ Fb W (g + 1) 38 #[.string p, .string XB, .string mt] ∧ Fb W (g + 1 + 1) 38 #[.string q, .string XS, .string mt]
theorem Zx.below {w : World} {g : Nat} {u p q : ByteArray} {W W' : World} (h : Zx w g u p q W) (hb : Below W.heap.size W W') : Zx w g u p q W' := ⟨h.1.trans (hb.mono h.1.size), h.2.1.below hb, h.2.2.1.below hb, h.2.2.2.below hb⟩
theorem Zx.all {w : World} {g : Nat} {u p q : ByteArray} {W : World} (h : Zx w g u p q W) :
    W.cell? ⟨g, 0, none⟩ = some (.string u) ∧ W.cell? ⟨g, 1, none⟩ = some (.string XI) ∧ W.cell? ⟨g, 2, none⟩ = some (.string mt) ∧ W.cell? ⟨g + 1, 0, none⟩ = some (.string p) ∧ W.cell? ⟨g + 1, 1, none⟩ = some (.string XB) ∧ W.cell? ⟨g + 1, 2, none⟩ = some (.string mt) ∧
    W.cell? ⟨g + 1 + 1, 0, none⟩ = some (.string q) ∧ W.cell? ⟨g + 1 + 1, 1, none⟩ = some (.string XS) ∧ W.cell? ⟨g + 1 + 1, 2, none⟩ = some (.string mt) :=
  ⟨h.2.1.cell 0, h.2.1.cell 1, h.2.1.cell 2, h.2.2.1.cell 0, h.2.2.1.cell 1, h.2.2.1.cell 2, h.2.2.2.cell 0, h.2.2.2.cell 1, h.2.2.2.cell 2⟩
theorem Zx.mk {w w2 : World} (hb : Below w.heap.size w w2) (u p q : ByteArray) : Zx w w2.heap.size u p q (((w2.alloc (.cells #[.string u, .string XI, .string mt] 38)).alloc (.cells #[.string p, .string XB, .string mt] 38)).alloc (.cells #[.string q, .string XS, .string mt] 38)) :=
  ⟨((hb.alloc hb.size _).alloc (by have := hb.size; simp; omega) _).alloc (by have := hb.size; simp; omega) _, ((Fb.new _ _ _).alloc _).alloc _, by simpa using (Fb.new (w2.alloc (.cells #[.string u, .string XI, .string mt] 38)) 38 #[.string p, .string XB, .string mt]).alloc (.cells #[.string q, .string XS, .string mt] 38),
   by simpa using Fb.new ((w2.alloc (.cells #[.string u, .string XI, .string mt] 38)).alloc (.cells #[.string p, .string XB, .string mt] 38)) 38 #[.string q, .string XS, .string mt]⟩
theorem Zx.drew {w : World} {g : Nat} {u p q : ByteArray} {W : World} (h : Zx w g u p q W) : Zx w g u p q W.drew := ⟨Below.drew h.1, h.2⟩
theorem Zx.alls {w : World} {g : Nat} {u p q : ByteArray} {W : World} (h : Zx w g u p q W) :
    W.cell? ⟨g, 0, none⟩ = some (.string u) ∧ W.cell? ⟨g, 1, none⟩ = some (.string XI) ∧ W.cell? ⟨g, 2, none⟩ = some (.string mt) ∧ W.cell? ⟨g + 1, 0, none⟩ = some (.string p) ∧ W.cell? ⟨g + 1, 1, none⟩ = some (.string XB) ∧ W.cell? ⟨g + 1, 2, none⟩ = some (.string mt) ∧
    W.cell? ⟨g + 1 + 1, 0, none⟩ = some (.string q) ∧ W.cell? ⟨g + 1 + 1, 1, none⟩ = some (.string XS) ∧ W.cell? ⟨g + 1 + 1, 2, none⟩ = some (.string mt) ∧ Zx w g u p q W :=
  ⟨h.2.1.cell 0, h.2.1.cell 1, h.2.1.cell 2, h.2.2.1.cell 0, h.2.2.1.cell 1, h.2.2.1.cell 2, h.2.2.2.cell 0, h.2.2.2.cell 1, h.2.2.2.cell 2, h⟩
theorem BigV.drewT {W : World} {v : Value} {z : Int} (h : BigV W v z) : BigV W.drew v z := h
theorem zx_of {w : World} {g : Nat} {u p q : ByteArray} {W : World} {f : Nat} {args : Array Value} {x : Value} (h : Zx w g u p q W) (c : Calls Tryd.prog f args W fun e w' => e = .returned x ∧ Below W.heap.size W w') :
    Calls Tryd.prog f args W fun e w' => e = .returned x ∧ Zx w g u p q w' := c.mono fun _ _ ⟨a, b⟩ => ⟨a, h.below b⟩
theorem asI_plainM (s : ByteArray) : asI (.lit s XS mt) = (0, 10) := by
  unfold asI
  simp only [Tm.isLit, Tm.tb, ByteArray.toList_eq]
  rfl
theorem asB_bx (x : Bool) : asB (.lit (bx x) XB mt) = (x, 0) := by
  unfold asB bT bx
  simp only [Tm.isLit, Tm.la, Tm.ta, Tm.tb, ByteArray.toList_eq]
  cases x <;> decide
set_option maxHeartbeats 2000000 in
theorem makes_long (n : Int) (x : Bool) (s : ByteArray) (h : 5000 < s.size) (w : World) (hv : LV w) : Calls Tryd.prog 4 #[.int .i64 n, .bool x, .string s] w fun e w' => e = .returned (.bool true) ∧ Below w.heap.size w w' := by
  have hb0 : Below w.heap.size w w := Below.refl _ _
  have hLV := Lib.hid hv
  have hz : (5000 : Int) < (s.size : Int) := by omega
  clear hv h
  go_enter Tryd.func4, Tryd.ntmps4
  go_wp2_with (first
    | (go_at_call 10; (with_reducible refine (awake_b hLV.out (by assumption)).mono ?_); rintro e w1 ⟨rfl, hb1⟩; clear hb0; have hb0 := hb1; clear hb1))
  go_ret
  exact ⟨rfl, by assumption⟩
end Go.Proofs.YtfgjddljgpbgeaaDoor
