/-
  TermInts, WHATEVER THE TWO INTEGERS AND THE TRUTH: two integers are of one value just if they are the same, and true just if they aren't 0; so it is of truths: the law returns true, and its arguments read as before. The listed variables of the standard library start as their text lays them (tied).
-/
import Derived.Test.YtfgjddljgpbgeaaDoorTMake
import Derived.Test.YtfgjddljgpbgeaaDoorVLaid
import Derived.Test.YtfgjddljgpbgeaaDoorRows
import Derived.Test.YtfgjddljgpbgeaaDoorCards
import Derived.Test.YtfgjddljgpbgeaaDoorTie
import Derived.ProofKit
import Derived.OpenShut
namespace Go.Proofs.YtfgjddljgpbgeaaDoor
open Go.ChangeShapes Go.WideShapes Go.ChangeAt Go.RowKit
set_option linter.unusedVariables false

/-- Four boxes. -/
def Qx (w : World) (g : Nat) (u v p q : ByteArray) (W : World) : Prop := Below w.heap.size w W ∧ Fb W g 38 #[.string u, .string XI, .string mt] ∧ Fb W (g + 1) 38 #[.string v, .string XI, .string mt] ∧ Fb W (g + 1 + 1) 38 #[.string p, .string XB, .string mt] ∧ Fb W (g + 1 + 1 + 1) 38 #[.string q, .string XB, .string mt]
theorem Qx.drew {w : World} {g : Nat} {u v p q : ByteArray} {W : World} (h : Qx w g u v p q W) : Qx w g u v p q W.drew := ⟨Below.drew h.1, h.2⟩
theorem Qx.below {w : World} {g : Nat} {u v p q : ByteArray} {W W' : World} (h : Qx w g u v p q W) (hb : Below W.heap.size W W') : Qx w g u v p q W' := ⟨h.1.trans (hb.mono h.1.size), h.2.1.below hb, h.2.2.1.below hb, h.2.2.2.1.below hb, h.2.2.2.2.below hb⟩
theorem Qx.all {w : World} {g : Nat} {u v p q : ByteArray} {W : World} (h : Qx w g u v p q W) :
    W.cell? ⟨g, 0, none⟩ = some (.string u) ∧ W.cell? ⟨g, 1, none⟩ = some (.string XI) ∧ W.cell? ⟨g, 2, none⟩ = some (.string mt) ∧ W.cell? ⟨g + 1, 0, none⟩ = some (.string v) ∧ W.cell? ⟨g + 1, 1, none⟩ = some (.string XI) ∧ W.cell? ⟨g + 1, 2, none⟩ = some (.string mt) ∧
    W.cell? ⟨g + 1 + 1, 0, none⟩ = some (.string p) ∧ W.cell? ⟨g + 1 + 1, 1, none⟩ = some (.string XB) ∧ W.cell? ⟨g + 1 + 1, 2, none⟩ = some (.string mt) ∧ W.cell? ⟨g + 1 + 1 + 1, 0, none⟩ = some (.string q) ∧ W.cell? ⟨g + 1 + 1 + 1, 1, none⟩ = some (.string XB) ∧ W.cell? ⟨g + 1 + 1 + 1, 2, none⟩ = some (.string mt) ∧ Qx w g u v p q W :=
  ⟨h.2.1.cell 0, h.2.1.cell 1, h.2.1.cell 2, h.2.2.1.cell 0, h.2.2.1.cell 1, h.2.2.1.cell 2, h.2.2.2.1.cell 0, h.2.2.2.1.cell 1, h.2.2.2.1.cell 2, h.2.2.2.2.cell 0, h.2.2.2.2.cell 1, h.2.2.2.2.cell 2, h⟩
abbrev bI (u : ByteArray) : Obj := .cells #[.string u, .string XI, .string mt] 38
abbrev bB (u : ByteArray) : Obj := .cells #[.string u, .string XB, .string mt] 38
theorem Qx.mk {w w2 : World} (hb : Below w.heap.size w w2) (u v p q : ByteArray) : Qx w w2.heap.size u v p q ((((w2.alloc (bI u)).alloc (bI v)).alloc (bB p)).alloc (bB q)) :=
  ⟨(((hb.alloc hb.size _).alloc (by have := hb.size; simp; omega) _).alloc (by have := hb.size; simp; omega) _).alloc (by have := hb.size; simp; omega) _, (((Fb.new _ _ _).alloc _).alloc _).alloc _, by simpa using ((Fb.new (w2.alloc (bI u)) 38 #[.string v, .string XI, .string mt]).alloc (bB p)).alloc (bB q),
   by simpa using (Fb.new ((w2.alloc (bI u)).alloc (bI v)) 38 #[.string p, .string XB, .string mt]).alloc (bB q), by simpa using Fb.new (((w2.alloc (bI u)).alloc (bI v)).alloc (bB p)) 38 #[.string q, .string XB, .string mt]⟩
theorem qx_of {w : World} {g : Nat} {u v p q : ByteArray} {W : World} {f : Nat} {args : Array Value} {x : Value} (h : Qx w g u v p q W) (c : Calls Tryd.prog f args W fun e w' => e = .returned x ∧ Below W.heap.size W w') :
    Calls Tryd.prog f args W fun e w' => e = .returned x ∧ Qx w g u v p q w' := c.mono fun _ _ ⟨a, b⟩ => ⟨a, h.below b⟩
theorem Qx.lv {w : World} {g : Nat} {u v p q : ByteArray} {W : World} (h : Qx w g u v p q W) (hv : LV w) : LV W := hv.below h.1
/-- The text of an integer; of a truth. -/
def tx (n : Int) : ByteArray := ⟨(textZ n).toArray⟩
def bx (x : Bool) : ByteArray := if x then ⟨wTrue.toArray⟩ else ⟨wFalse.toArray⟩
theorem tx_list (n : Int) : (tx n).data.toList = textZ n := by simp [tx]
theorem kXI : known XI = true := by unfold known; rw [ByteArray.toList_eq]; decide
theorem kXB : known XB = true := by unfold known; rw [ByteArray.toList_eq]; decide
theorem iXI : (XI.toList == lI) = true := by rw [ByteArray.toList_eq]; decide
theorem iXB : (XB.toList == lI) = false := by rw [ByteArray.toList_eq]; decide
theorem bXI : (XI.toList == lB) = false := by rw [ByteArray.toList_eq]; decide
theorem bXB : (XB.toList == lB) = true := by rw [ByteArray.toList_eq]; decide
theorem prs_tx (n : Int) (h0 : -9223372036854775808 ≤ n) (h1 : n ≤ 9223372036854775807) : prs (tx n) = (n, 0) := by
  unfold prs
  rw [tx_list, (textZ_numT n).1, (textZ_numT n).2, if_pos rfl, if_pos ⟨h0, h1⟩]
theorem asI_tx (n : Int) (h0 : -9223372036854775808 ≤ n) (h1 : n ≤ 9223372036854775807) : asI (.lit (tx n) XI mt) = (n, 0) := by
  unfold asI asT
  simp only [Tm.isLit, Tm.tb, Tm.la, Tm.ta, iXI, if_true, prs_tx n h0 h1]
  rfl
theorem same_tx (a b : Int) : sameB (.lit (tx a) XI mt) (.lit (tx b) XI mt) = (a == b) := by
  unfold sameB same4
  simp only [Tm.kind, Tm.ta, Tm.tb, Tm.tc, ByteArray.toList_eq, tx_list]
  by_cases h : a = b
  · subst h; simp
  · have e1 : (textZ a == textZ b) = false := by rw [beq_eq_false_iff_ne]; exact fun e => h (textZ_inj e)
    have e2 : (a == b) = false := by rw [beq_eq_false_iff_ne]; exact h
    simp [e1, e2]
theorem eqv_tx (a b : Int) (ha : -9223372036854775808 ≤ a ∧ a ≤ 9223372036854775807) (hb : -9223372036854775808 ≤ b ∧ b ≤ 9223372036854775807) : eqv (.lit (tx a) XI mt) (.lit (tx b) XI mt) = if (a == b) = true then 1 else 0 := by
  unfold eqv eqI
  rw [same_tx, asI_tx a ha.1 ha.2, asI_tx b hb.1 hb.2]
  cases h : (a == b)
  · simp only [Bool.false_eq_true, if_false, Tm.isLit, Tm.tb, iXI, Bool.and_self, if_true]
    rfl
  · rfl
theorem eff_tx (a : Int) (ha : -9223372036854775808 ≤ a ∧ a ≤ 9223372036854775807) : eff (.lit (tx a) XI mt) = if (a != 0) = true then 1 else 0 := by
  unfold eff
  rw [asI_tx a ha.1 ha.2]
  simp only [Tm.isLit, Tm.tb, iXI, bXI, if_true, Bool.false_eq_true, if_false]
  rfl
theorem eqv_bx (x y : Bool) : eqv (.lit (bx x) XB mt) (.lit (bx y) XB mt) = if (x == y) = true then 1 else 0 := by
  unfold eqv eqB asB bT sameB same4 bx
  simp only [Tm.isLit, Tm.la, Tm.kind, Tm.ta, Tm.tb, Tm.tc, ByteArray.toList_eq]
  cases x <;> cases y <;> decide
theorem eff_bx (x : Bool) : eff (.lit (bx x) XB mt) = if x = true then 1 else 0 := by
  unfold eff asB bT bx
  simp only [Tm.isLit, Tm.la, Tm.ta, Tm.tb, ByteArray.toList_eq]
  cases x <;> decide
theorem eqv_mix (u v : ByteArray) : eqv (.lit u XI mt) (.lit v XB mt) = 0 := by
  have h5 : (XI.toList == XB.toList) = false := by rw [ByteArray.toList_eq, ByteArray.toList_eq]; decide
  have hs : sameB (.lit u XI mt) (.lit v XB mt) = false := by
    unfold sameB same4
    simp only [Tm.kind, Tm.ta, Tm.tb, Tm.tc, h5, Bool.false_and, Bool.and_false]
  unfold eqv
  rw [hs]
  simp only [Bool.false_eq_true, if_false, Tm.isLit, Tm.tb, iXI, iXB, bXI, bXB, kXI, kXB, Bool.and_self, Bool.and_false, Bool.false_and, if_true]
set_option maxRecDepth 100000 in
set_option maxHeartbeats 32000000 in
theorem ints_walk (a : Int) (ha0 : -9223372036854775808 ≤ a) (ha1 : a ≤ 9223372036854775807) (b : Int) (hb0 : -9223372036854775808 ≤ b) (hb1 : b ≤ 9223372036854775807) (x : Bool) (w : World) (hv : LV w) :
    Calls Tryd.prog 7 #[.int .i64 a, .int .i64 b, .bool x] w fun e w' => e = .returned (.bool true) ∧ Below w.heap.size w w' := by
  have hB0 : Below w.heap.size w w := Below.refl _ _
  have hLV := Lib.hid hv
  have cA : ∀ W, LV W → Calls Tryd.prog 19 #[.int .i64 a] W fun e w' => e = .returned (.agg #[.string (tx a), .string XI, .string mt]) ∧ Below W.heap.size W w' := fun W h => int_any a ha0 ha1 W h
  have cB : ∀ W, LV W → Calls Tryd.prog 19 #[.int .i64 b] W fun e w' => e = .returned (.agg #[.string (tx b), .string XI, .string mt]) ∧ Below W.heap.size W w' := fun W h => int_any b hb0 hb1 W h
  obtain ⟨y, hy⟩ : ∃ y, y = decide (a < b) := ⟨_, rfl⟩
  have cX : ∀ W, Calls Tryd.prog 20 #[.bool x] W fun e w' => e = .returned (.agg #[.string (bx x), .string XB, .string mt]) ∧ Below W.heap.size W w' := fun W => bool_any x W
  have cY : ∀ W, Calls Tryd.prog 20 #[.bool (decide (a < b))] W fun e w' => e = .returned (.agg #[.string (bx y), .string XB, .string mt]) ∧ Below W.heap.size W w' := fun W => by rw [hy]; exact bool_any _ W
  obtain ⟨e1, he1⟩ : ∃ k : Int, k = if (a == b) = true then 1 else 0 := ⟨_, rfl⟩
  obtain ⟨e2, he2⟩ : ∃ k : Int, k = if (a != 0) = true then 1 else 0 := ⟨_, rfl⟩
  obtain ⟨e3, he3⟩ : ∃ k : Int, k = if (x == y) = true then 1 else 0 := ⟨_, rfl⟩
  obtain ⟨e4, he4⟩ : ∃ k : Int, k = if x = true then 1 else 0 := ⟨_, rfl⟩
  have hsa := text_size a ha0 ha1
  have hsb := text_size b hb0 hb1
  have hsx : ∀ z, (bx z).size ≤ 1000000 := fun z => by cases z <;> decide
  have fa := (show -9223372036854775808 ≤ a ∧ a ≤ 9223372036854775807 from ⟨ha0, ha1⟩)
  have fb := (show -9223372036854775808 ≤ b ∧ b ≤ 9223372036854775807 from ⟨hb0, hb1⟩)
  have q1 : ∀ {g : Nat} {W : World}, Qx w g (tx a) (tx b) (bx x) (bx y) W → Calls Tryd.prog 17 #[(Tm.lit (tx a) XI mt).val, (Tm.lit (tx b) XI mt).val] W fun e w' => e = .returned (.int .u8 e1) ∧ Qx w g (tx a) (tx b) (bx x) (bx y) w' := fun {g W} hQ => qx_of hQ (by have := equal_any (.lit (tx a) XI mt) (.lit (tx b) XI mt) hsa hsb W (hQ.lv hv); rw [eqv_tx a b fa fb, ← he1] at this; exact this)
  have q2 : ∀ {g : Nat} {W : World}, Qx w g (tx a) (tx b) (bx x) (bx y) W → Calls Tryd.prog 16 #[(Tm.lit (tx a) XI mt).val, (Tm.lit (tx b) XI mt).val] W fun e w' => e = .returned (.bool (a == b)) ∧ Qx w g (tx a) (tx b) (bx x) (bx y) w' := fun {g W} hQ => qx_of hQ (by have := same_any (.lit (tx a) XI mt) (.lit (tx b) XI mt) W; rw [same_tx] at this; exact this)
  have q3 : ∀ {g : Nat} {W : World}, Qx w g (tx a) (tx b) (bx x) (bx y) W → Calls Tryd.prog 30 #[(Tm.lit (tx a) XI mt).val] W fun e w' => e = .returned (.int .u8 e2) ∧ Qx w g (tx a) (tx b) (bx x) (bx y) w' := fun {g W} hQ => qx_of hQ (by have := eff_any (.lit (tx a) XI mt) hsa W (hQ.lv hv); rw [eff_tx a fa, ← he2] at this; exact this)
  have q4 : ∀ {g : Nat} {W : World}, Qx w g (tx a) (tx b) (bx x) (bx y) W → Calls Tryd.prog 17 #[(Tm.lit (bx x) XB mt).val, (Tm.lit (bx y) XB mt).val] W fun e w' => e = .returned (.int .u8 e3) ∧ Qx w g (tx a) (tx b) (bx x) (bx y) w' := fun {g W} hQ => qx_of hQ (by have := equal_any (.lit (bx x) XB mt) (.lit (bx y) XB mt) (hsx x) (hsx y) W (hQ.lv hv); rw [eqv_bx, ← he3] at this; exact this)
  have q5 : ∀ {g : Nat} {W : World}, Qx w g (tx a) (tx b) (bx x) (bx y) W → Calls Tryd.prog 30 #[(Tm.lit (bx x) XB mt).val] W fun e w' => e = .returned (.int .u8 e4) ∧ Qx w g (tx a) (tx b) (bx x) (bx y) w' := fun {g W} hQ => qx_of hQ (by have := eff_any (.lit (bx x) XB mt) (hsx x) W (hQ.lv hv); rw [eff_bx, ← he4] at this; exact this)
  have q6 : ∀ {g : Nat} {W : World}, Qx w g (tx a) (tx b) (bx x) (bx y) W → Calls Tryd.prog 17 #[(Tm.lit (tx a) XI mt).val, (Tm.lit (bx x) XB mt).val] W fun e w' => e = .returned (.int .u8 0) ∧ Qx w g (tx a) (tx b) (bx x) (bx y) w' := fun {g W} hQ => qx_of hQ (by have := equal_any (.lit (tx a) XI mt) (.lit (bx x) XB mt) hsa (hsx x) W (hQ.lv hv); rw [eqv_mix] at this; exact this)
  have q7 : ∀ {g : Nat} {W : World}, Qx w g (tx a) (tx b) (bx x) (bx y) W → Calls Tryd.prog 31 #[(Tm.lit (tx a) XI mt).val] W fun e w' => e = .returned (.int .i64 2) ∧ Qx w g (tx a) (tx b) (bx x) (bx y) w' := fun {g W} hQ => qx_of hQ (kind_any (.lit (tx a) XI mt) W)
  have o1 := of_any (a == b)
  have o2 := of_any (a != 0)
  have o3 : ∀ W, Calls Tryd.prog 29 #[.bool (x == decide (a < b))] W fun e w' => e = .returned (.int .u8 e3) ∧ W = w' := fun W => by rw [he3, hy]; exact of_any _ W
  have o4 := of_any x
  rw [← he1] at o1
  rw [← he2] at o2
  rw [← he4] at o4
  simp only [Tm.val] at q1 q2 q3 q4 q5 q6 q7
  have hmk := fun (w2 : World) (hb : Below w.heap.size w w2) => Qx.mk hb (tx a) (tx b) (bx x) (bx y)
  obtain ⟨A, hA⟩ : ∃ k, k = tx a := ⟨_, rfl⟩
  obtain ⟨B, hB⟩ : ∃ k, k = tx b := ⟨_, rfl⟩
  obtain ⟨X, hX⟩ : ∃ k, k = bx x := ⟨_, rfl⟩
  obtain ⟨Y, hY⟩ : ∃ k, k = bx y := ⟨_, rfl⟩
  rw [← hA] at cA
  rw [← hB] at cB
  rw [← hX] at cX
  rw [← hY] at cY
  rw [← hA, ← hB, ← hX, ← hY] at q1 q2 q3 q4 q5 q6 q7 hmk
  clear hA hB hX hY he1 he2 he3 he4 hsa hsb hsx fa fb hv hy ha0 ha1 hb0 hb1
  go_enter Tryd.func7, Tryd.ntmps7
  go_wp2_with (first
    | (go_at_call 10; (with_reducible refine (awake_b hLV.out (by assumption)).mono ?_); rintro e w1 ⟨rfl, hb1⟩)
    | (go_at_call 19; (with_reducible refine (cA _ (hLV.out.below hb1)).mono ?_); rintro e w2 ⟨rfl, hb2⟩; have hb2' := hb1.trans (hb2.mono hb1.size))
    | (go_at_call 19; (with_reducible refine (cB _ (hLV.out.below hb2')).mono ?_); rintro e w3 ⟨rfl, hb3⟩; have hb3' := hb2'.trans (hb3.mono hb2'.size))
    | (go_at_call 20; (with_reducible refine (cX _).mono ?_); rintro e w4 ⟨rfl, hb4⟩; have hb4' := hb3'.trans (hb4.mono hb3'.size))
    | (go_at_call 20; (with_reducible refine (cY _).mono ?_); rintro e w5 ⟨rfl, hb5⟩; have hb5' := hb4'.trans (hb5.mono hb4'.size); have hS : Qx w w5.heap.size A B X Y ((((w5.alloc (.cells #[.string A, .string XI, .string mt] 38)).alloc (.cells #[.string B, .string XI, .string mt] 38)).alloc (.cells #[.string X, .string XB, .string mt] 38)).alloc (.cells #[.string Y, .string XB, .string mt] 38)) := hmk _ hb5'; clear hb1 hb2 hb2' hb3 hb3' hb4 hb4' hb5 hb5' hB0)
    | (go_at_call 29; (with_reducible refine (o1 _).mono ?_); rintro e w' ⟨rfl, rfl⟩)
    | (go_at_call 29; (with_reducible refine (o2 _).mono ?_); rintro e w' ⟨rfl, rfl⟩)
    | (go_at_call 29; (with_reducible refine (o3 _).mono ?_); rintro e w' ⟨rfl, rfl⟩)
    | (go_at_call 29; (with_reducible refine (o4 _).mono ?_); rintro e w' ⟨rfl, rfl⟩)
    | (go_at_call 31; (with_reducible refine (q7 hS).mono ?_); rintro e w7 ⟨rfl, hS7⟩; obtain ⟨p0, p1, p2, p3, p4, p5, p6, p7, p8, p9, p10, p11, _⟩ := Qx.all hS7; clear hS; have hS := hS7; clear hS7)
    | (go_at_call 16; (with_reducible refine (q2 hS).mono ?_); rintro e w7 ⟨rfl, hS7⟩; obtain ⟨p0, p1, p2, p3, p4, p5, p6, p7, p8, p9, p10, p11, _⟩ := Qx.all hS7; clear hS; have hS := hS7; clear hS7)
    | (go_at_call 30; (with_reducible refine (q3 hS).mono ?_); rintro e w7 ⟨rfl, hS7⟩; obtain ⟨p0, p1, p2, p3, p4, p5, p6, p7, p8, p9, p10, p11, _⟩ := Qx.all hS7; clear hS; have hS := hS7; clear hS7)
    | (go_at_call 30; (with_reducible refine (q5 hS).mono ?_); rintro e w7 ⟨rfl, hS7⟩; obtain ⟨p0, p1, p2, p3, p4, p5, p6, p7, p8, p9, p10, p11, _⟩ := Qx.all hS7; clear hS; have hS := hS7; clear hS7)
    | (go_at_call 17; (with_reducible refine (q1 hS).mono ?_); rintro e w7 ⟨rfl, hS7⟩; obtain ⟨p0, p1, p2, p3, p4, p5, p6, p7, p8, p9, p10, p11, _⟩ := Qx.all hS7; clear hS; have hS := hS7; clear hS7)
    | (go_at_call 17; (with_reducible refine (q4 hS).mono ?_); rintro e w7 ⟨rfl, hS7⟩; obtain ⟨p0, p1, p2, p3, p4, p5, p6, p7, p8, p9, p10, p11, _⟩ := Qx.all hS7; clear hS; have hS := hS7; clear hS7)
    | (go_at_call 17; (with_reducible refine (q6 hS).mono ?_); rintro e w7 ⟨rfl, hS7⟩; obtain ⟨p0, p1, p2, p3, p4, p5, p6, p7, p8, p9, p10, p11, _⟩ := Qx.all hS7; clear hS; have hS := hS7; clear hS7))
  go_ret
  exact ⟨rfl, hS.1⟩

namespace TermIntsF
set_option maxRecDepth 100000 in
theorem contract (H : Type) (enc : TypeId × Value → H) (W : World) (base : Nat) (args : Array Value) (ds gs : List (DataW H)) (before : List MemPlace)
    (hval : ∀ (j : Nat) t v, Tryd.f7.params[j]? = some t → args[j]? = some v → Value.okWide Tryd.prog W .any base t v)
    (hW : DataW.Whole enc Tryd.prog Tryd.f7.params.toList Rows.termIntsSpec.vars false W args.toList ds gs before) (hL : laidMetH Tryd.prog Rows.termIntsRow.laid W) :
    Calls Tryd.prog 7 args W fun e W' => ∃ v, e = .returned v ∧ Rows.termIntsSpec.post enc Tryd.prog Tryd.f7 false true false false W args v W' := by
  have hW' := hW
  obtain ⟨p, q, hA0, hV, rfl, hfz, hnd⟩ := hW
  have hA : DataW.TrodAll enc Tryd.prog W 0 (fun _ => true) true Tryd.f7.params.toList args.toList ds p := hA0
  rw [Tryd.params7] at hA hval
  obtain ⟨v0, vs0, d0, ds0, p0, q0, hargs, rfl, rfl, h0, r0⟩ := trodAll_cons hA
  obtain ⟨v1, vs1, d1, ds1, p1, q1, rfl, rfl, rfl, h1, r1⟩ := trodAll_cons r0
  obtain ⟨v2, vs2, d2, ds2, p2, q2, rfl, rfl, rfl, h2, r2⟩ := trodAll_cons r1
  obtain ⟨rfl, rfl, rfl⟩ := trodAll_nil r2
  obtain rfl : args = #[v0, v1, v2] := by cases args; simp_all
  obtain ⟨rfl, rfl⟩ := trodVars_none hV
  obtain ⟨x0, rfl, rfl, rfl, w0⟩ := open_int Tryd.underlying2 (hval 0 2 v0 rfl rfl) h0
  have bd0 := bounds_i64 w0
  obtain ⟨x1, rfl, rfl, rfl, w1⟩ := open_int Tryd.underlying2 (hval 1 2 v1 rfl rfl) h1
  have bd1 := bounds_i64 w1
  obtain ⟨x2, rfl, rfl, rfl⟩ := open_bool Tryd.underlying4 (hval 2 4 v2 rfl rfl) h2
  clear hA0
  simp only [List.append_nil] at hW'
  have hlv := lv_of hL
  refine (ints_walk x0 bd0.1 bd0.2 x1 bd1.1 bd1.2 x2 W hlv).mono fun e W' ⟨he, hb⟩ => ?_
  subst he
  exact ⟨_, rfl, _, _, _, [], [], [], hW', trodAll_mk1 (shut_bool Tryd.underlying4 _), trodAll_cons_mk (shut_int Tryd.underlying2 w0) (trodAll_cons_mk (shut_int Tryd.underlying2 w1) (trodAll_cons_mk (shut_bool Tryd.underlying4 x2) (trodAll_mk0))), rfl, hb.frame _, fun h => by cases h⟩

theorem reads (os : Os) {H : Type} (enc : TypeId × Value → H) : ∃ places, DataW.whole enc Tryd.prog ((laidWorld os).forCall (fun _ _ => 0) ⟨#[], #[.int .i64 0, .int .i64 0, .bool false], []⟩).memory Tryd.f7.params.toList Rows.termIntsSpec.vars false (#[.int .i64 0, .int .i64 0, .bool false] : Array Value).toList 8 = some ([.lit (.int .i64 0), .lit (.int .i64 0), .lit (.bool false)], [], places) :=
  ⟨[], by kernel_rfl⟩

set_option maxRecDepth 100000 in
theorem lifted (os : Os) (started : os.Started) (H : Type) (enc : TypeId × Value → H) (F : Stop.Interp) :
    ReturnsInHanded {} Tryd.checked os 7 .any ((OpenSpec.ofChange Rows.termIntsSpec).preRow enc Tryd.prog Tryd.f7 Rows.termIntsRow.domain false Rows.termIntsRow.laid) (((OpenSpec.ofChange Rows.termIntsSpec).at F).post enc Tryd.prog Tryd.f7 false true false false) := by
  obtain ⟨places, hx⟩ := reads os enc
  refine returnsInHanded_of_row (C := Tryd.checked) (s := OpenSpec.ofChange Rows.termIntsSpec) own started (by kernel_rfl) Tryd.func7
    (witness_row_at (enc := enc) (C := Tryd.checked) false (laidWorld os) #[.int .i64 0, .int .i64 0, .bool false] rfl (by kernel_rfl) (by kernel_rfl) (by kernel_rfl)
      (OpenSpec.preRow_of_cond 8 hx (by kernel_rfl) (fun k hk => by cases hk) (by kernel_rfl) (laid_met os _))) ?_
  intro W base args ds gs before hval hW _ _ _ hL _ _
  exact contract H enc W base args ds gs before hval hW hL

theorem said : Rows.TermIntsSaid :=
  OpenClaim.holds_of_cond 7 Tryd.f7 rfl rfl rfl rfl rfl rfl rfl ⟨rfl, rfl, rfl, rfl, rfl⟩ rfl rfl rfl rfl rfl (by kernel_rfl) Tryd.func7 (by kernel_rfl)
    (of_decide_eq_true (by kernel_rfl)) (by unfold Func.isWrapper; first | (rw [if_pos (by decide +kernel)]; kernel_rfl) | (rw [if_neg (by decide +kernel)]; exact ⟨rfl, rfl⟩))
    (fun os started H enc _ F => by rw [OpenClaim.pre_eq_preRow]; exact lifted os started H enc F)

theorem plain (f : FuncId) (fn : Func) (hf : Tryd.pinned.checked.prog.funcNamed "beck/becklaw03.TermInts" = some f) (hfn : Tryd.pinned.checked.prog.funcs[f]? = some fn) :
    true = Tryd.pinned.checked.prog.looks [] ∧ ∀ (j : Nat) t, fn.params[j]? = some t → Tryd.pinned.checked.prog.wantsStandIn t = false := by
  obtain rfl : f = 7 := Option.some.inj ((show Tryd.prog.funcNamed "beck/becklaw03.TermInts" = some 7 by kernel_rfl).symm.trans hf) |>.symm
  obtain rfl : fn = Tryd.f7 := (Option.some.inj (Tryd.func7.symm.trans hfn)).symm
  refine ⟨by kernel_rfl, fun j t ht => ?_⟩
  rw [Tryd.params7] at ht
  have hm : t ∈ [2, 2, 4] := by simpa using Array.mem_of_getElem? ht
  have hall : ([2, 2, 4].all fun u => !Tryd.prog.wantsStandIn u) = true := by kernel_rfl
  exact (show Tryd.prog.wantsStandIn t = false by simpa using List.all_eq_true.1 hall t hm)
end TermIntsF
theorem termInts_card : Rows.TermIntsCardSaid :=
  Claim7.holds_tied_plain_at .later [] _ _ _ _ TermIntsF.said (fun _ h => by cases h) (by kernel_rfl) (fun _ h => by cases h) termInts_row_tie rfl ⟨rfl, rfl⟩ (by kernel_rfl) rfl TermIntsF.plain (by kernel_rfl)
end Go.Proofs.YtfgjddljgpbgeaaDoor
