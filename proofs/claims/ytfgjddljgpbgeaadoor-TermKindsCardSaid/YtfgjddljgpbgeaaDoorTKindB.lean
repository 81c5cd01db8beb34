/-
  TermKinds: its words; texts that are long.
-/
import Derived.Test.YtfgjddljgpbgeaaDoorTOrd
import Derived.Test.YtfgjddljgpbgeaaDoorTAwake
import Derived.Deep.RegionHeld3
namespace Go.Proofs.YtfgjddljgpbgeaaDoor
open Go.RowKit
set_option linter.unusedVariables false

theorem plain_any (s : ByteArray) (w : World) : Calls Tryd.prog 21 #[.string s] w fun e w' => e = .returned (.agg #[.string s, .string XS, .string mt]) ∧ Below w.heap.size w w' := by
  go_enter Tryd.func21, Tryd.ntmps21
  go_wp2
  exact bodyPost_ret (v := .agg #[.string s, .string XS, .string mt]) (by simp [results, Tryd.results21, go_sem]) rfl ⟨rfl, (Below.refl _ _).alloc (Nat.le_refl _) _⟩
theorem less_self : ∀ l : List UInt8, Op.bytesLess l l = false
  | [] => rfl
  | a :: l => by simp [Op.bytesLess, less_self l]
theorem ordS_self (a : ByteArray) : ordS a a = 0 := by
  unfold ordS
  rw [less_self]
  simp
theorem ord_texts (a a' : ByteArray) (b c : ByteArray) : ord3 a b c a' b c = ordS a a' := by
  unfold ord3
  rw [ordS_self, ordS_self]
  unfold orT
  by_cases h : ordS a a' = 0
  · rw [if_pos h, if_pos rfl, h]
  · rw [if_neg h]
theorem ord_kinds (x y : Tm) (h : x.kind < y.kind) : ordB x y = -1 := by
  unfold ordB ordT orT
  rw [if_pos h]
  rfl
theorem ord_kinds' (x y : Tm) (h : y.kind < x.kind) : ordB x y = 1 := by
  unfold ordB ordT orT
  rw [if_neg (show ¬ x.kind < y.kind by omega), if_pos h]
  rfl
theorem ord_alike (x y : Tm) (h : x.kind = y.kind) : ordB x y = ord3 x.ta x.tb x.tc y.ta y.tb y.tc := by
  unfold ordB ordT
  rw [h, if_neg (Int.lt_irrefl _), if_neg (Int.lt_irrefl _)]
  exact orT_yes rfl
/-- Three boxes. -/
def Bx3 (w : World) (g : Nat) (s t : ByteArray) (W : World) : Prop := Below w.heap.size w W ∧ Fb W g 59 #[.string s] ∧ Fb W (g + 1) 61 #[.string t] ∧ Fb W (g + 1 + 1) 38 #[.string s, .string XS, .string mt]
theorem Bx3.drew {w : World} {g : Nat} {s t : ByteArray} {W : World} (h : Bx3 w g s t W) : Bx3 w g s t W.drew := ⟨Below.drew h.1, h.2⟩
theorem Bx3.below {w : World} {g : Nat} {s t : ByteArray} {W W' : World} (h : Bx3 w g s t W) (hb : Below W.heap.size W W') : Bx3 w g s t W' := ⟨h.1.trans (hb.mono h.1.size), h.2.1.below hb, h.2.2.1.below hb, h.2.2.2.below hb⟩
theorem Bx3.all {w : World} {g : Nat} {s t : ByteArray} {W : World} (h : Bx3 w g s t W) :
    W.cell? ⟨g, 0, none⟩ = some (.string s) ∧ W.cell? ⟨g + 1, 0, none⟩ = some (.string t) ∧ W.cell? ⟨g + 1 + 1, 0, none⟩ = some (.string s) ∧ W.cell? ⟨g + 1 + 1, 1, none⟩ = some (.string XS) ∧ W.cell? ⟨g + 1 + 1, 2, none⟩ = some (.string mt) ∧ Bx3 w g s t W :=
  ⟨h.2.1.cell 0, h.2.2.1.cell 0, h.2.2.2.cell 0, h.2.2.2.cell 1, h.2.2.2.cell 2, h⟩
theorem Bx3.mk {w w2 : World} (hb : Below w.heap.size w w2) (s t : ByteArray) : Bx3 w w2.heap.size s t (((w2.alloc (.cells #[.string s] 59)).alloc (.cells #[.string t] 61)).alloc (.cells #[.string s, .string XS, .string mt] 38)) :=
  ⟨((hb.alloc hb.size _).alloc (by have := hb.size; simp; omega) _).alloc (by have := hb.size; simp; omega) _, ((Fb.new _ _ _).alloc _).alloc _, by simpa using (Fb.new (w2.alloc (.cells #[.string s] 59)) 61 #[.string t]).alloc _, by simpa using Fb.new ((w2.alloc (.cells #[.string s] 59)).alloc (.cells #[.string t] 61)) 38 #[.string s, .string XS, .string mt]⟩
theorem ord_bx {w : World} {g : Nat} {s t : ByteArray} {W : World} (x y : Tm) (q : Int) (hq : ordB x y = q) (h : Bx3 w g s t W) :
    Calls Tryd.prog 14 #[x.val, y.val] W fun e w' => e = .returned (.int .i64 q) ∧ Bx3 w g s t w' := (order_any x y W).mono fun e w' ⟨a, b⟩ => ⟨by rw [a, hq], h.below b⟩
theorem plain_bx {w : World} {g : Nat} {s t : ByteArray} {W : World} (u : ByteArray) (h : Bx3 w g s t W) :
    Calls Tryd.prog 21 #[.string u] W fun e w' => e = .returned (.agg #[.string u, .string XS, .string mt]) ∧ Bx3 w g s t w' := (plain_any u W).mono fun e w' ⟨a, b⟩ => ⟨a, h.below b⟩
theorem awake_b {w W : World} (hv : LV w) (hb : Below w.heap.size w W) : Calls Tryd.prog 10 #[] W fun e w' => e = .returned (.bool true) ∧ Below w.heap.size w w' :=
  (awake_ok W (hv.below hb)).mono fun e w' ⟨a, b⟩ => ⟨a, hb.trans (b.mono hb.size)⟩
set_option maxHeartbeats 4000000 in
theorem kinds_long (s t : ByteArray) (h : 300 < s.size ∨ 300 < t.size) (w : World) (hv : LV w) : Calls Tryd.prog 8 #[.string s, .string t] w fun e w' => e = .returned (.bool true) ∧ Below w.heap.size w w' := by
  have hb0 : Below w.heap.size w w := Below.refl _ _
  have hLV := Lib.hid hv
  clear hv
  have ways : (300 : Int) < (s.size : Int) ∨ (¬ (300 : Int) < (s.size : Int) ∧ (300 : Int) < (t.size : Int)) := by omega
  clear h
  rcases ways with h1 | ⟨h1, h2⟩
  all_goals
    go_enter Tryd.func8, Tryd.ntmps8
    go_wp2_with (first
      | (go_at_call 10; (with_reducible refine (awake_b hLV.out (by assumption)).mono ?_); rintro e w1 ⟨rfl, hb1⟩; clear hb0; have hb0 := hb1; clear hb1))
    go_ret
    exact ⟨rfl, by assumption⟩
end Go.Proofs.YtfgjddljgpbgeaaDoor
