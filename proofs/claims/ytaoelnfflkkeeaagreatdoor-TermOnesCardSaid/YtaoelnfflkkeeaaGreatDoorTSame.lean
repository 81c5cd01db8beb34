/-
  WHETHER TWO TERMS ARE THE SAME; how they are in the order.
-/
import Derived.Test.YtaoelnfflkkeeaaGreatDoorTCmp
import Derived.Deep.RegionHeld3
import Derived.Deep.QuietTactic
import Derived.BigQuiet
import Derived.ChangeKeysEq
namespace Go.Proofs.YtaoelnfflkkeeaaGreatDoor
open Go.RowKit
set_option linter.unusedVariables false

/-- The world behind the first of two, its fields at hand. -/
def Sx (w : World) (g : Nat) (k : Int) (a b c : ByteArray) (W : World) : Prop := Below w.heap.size w W ∧ Fb W g 70 #[.int .i64 k, .string a, .string b, .string c]
theorem Sx.drew {w : World} {g : Nat} {k : Int} {a b c : ByteArray} {W : World} (h : Sx w g k a b c W) : Sx w g k a b c W.drew := ⟨Below.drew h.1, h.2⟩
theorem Sx.below {w : World} {g : Nat} {k : Int} {a b c : ByteArray} {W W' : World} (h : Sx w g k a b c W) (hb : Below W.heap.size W W') : Sx w g k a b c W' := ⟨h.1.trans (hb.mono h.1.size), h.2.below hb⟩
theorem Sx.all {w : World} {g : Nat} {k : Int} {a b c : ByteArray} {W : World} (h : Sx w g k a b c W) :
    W.cell? ⟨g, 0, none⟩ = some (.int .i64 k) ∧ W.cell? ⟨g, 1, none⟩ = some (.string a) ∧ W.cell? ⟨g, 2, none⟩ = some (.string b) ∧ W.cell? ⟨g, 3, none⟩ = some (.string c) ∧ Sx w g k a b c W :=
  ⟨h.2.cell 0, h.2.cell 1, h.2.cell 2, h.2.cell 3, h⟩
theorem Sx.mk {w w1 : World} (hb : Below w.heap.size w w1) (k : Int) (a b c : ByteArray) : Sx w w1.heap.size k a b c (w1.alloc (.cells #[.int .i64 k, .string a, .string b, .string c] 70)) := ⟨hb.alloc hb.size _, Fb.new _ _ _⟩
/-- The same term? -/
def same4 (k : Int) (a b c : ByteArray) (k' : Int) (a' b' c' : ByteArray) : Bool := (k != 3) && ((k == k') && ((a.toList == a'.toList) && ((b.toList == b'.toList) && (c.toList == c'.toList))))
def sameB (x y : Tm) : Bool := same4 x.kind x.ta x.tb x.tc y.kind y.ta y.tb y.tc
theorem infoStr : ∃ i, Tryz.prog.info? 9 = some i := Option.isSome_iff_exists.1 (by kernel_rfl)
theorem eqArr (a b c a' b' c' : ByteArray) (w : World) : (Op.equalIn 9999 68 (.agg #[.string a, .string b, .string c]) (.agg #[.string a', .string b', .string c'])).run Tryz.prog w =
    .ok ((a.toList == a'.toList) && ((b.toList == b'.toList) && (c.toList == c'.toList))) w := by
  obtain ⟨i, hi⟩ := infoStr
  have hs : Tryz.prog.cellsOf 9 = 1 := by kernel_rfl
  have hu : Tryz.prog.underlying 68 = some (.array 3 9) := by kernel_rfl
  rw [run_equalIn_array (w := w) 9998 _ _ hu hi, hs]
  simp only [show List.range 3 = [0, 1, 2] by decide, Op.eqItems]
  go_simp
  by_cases h1 : a.toList = a'.toList <;> by_cases h2 : b.toList = b'.toList <;> by_cases h3 : c.toList = c'.toList <;> simp [h1, h2, h3]
theorem eql4 (k : Int) (a b c : ByteArray) (k' : Int) (a' b' c' : ByteArray) (w : World) :
    (binOp .eql 70 (F4 k a b c) (F4 k' a' b' c')).run Tryz.prog w = .ok (.bool ((k == k') && ((a.toList == a'.toList) && ((b.toList == b'.toList) && (c.toList == c'.toList))))) w := by
  have hA := eqArr a b c a' b' c'
  go_simp
  by_cases hk : k = k'
  · rw [if_pos hk]
    by_cases h1 : a.toList = a'.toList <;> by_cases h2 : b.toList = b'.toList <;> by_cases h3 : c.toList = c'.toList <;> simp [hk, h1, h2, h3]
  · rw [if_neg hk]
    simp [hk]
/-- The fields of a term. -/
theorem fieldsOf_b (t : Tm) (g : Nat) (k : Int) (a b c : ByteArray) (w W : World) (hS : Sx w g k a b c W) :
    Calls Tryz.prog 29 #[t.val] W fun e w' => e = .returned (F4 t.kind t.ta t.tb t.tc) ∧ Sx w g k a b c w' := (fieldsOf_any t W).mono fun _ _ ⟨p, q⟩ => ⟨p, hS.below q⟩
set_option maxRecDepth 100000 in
set_option maxHeartbeats 4000000 in
theorem same_any (x y : Tm) (w : World) : Calls Tryz.prog 20 #[x.val, y.val] w fun e w' => e = .returned (.bool (sameB x y)) ∧ Below w.heap.size w w' := by
  have cx := fieldsOf_any x
  have cy := fieldsOf_b y
  have hE := eql4
  unfold sameB
  obtain ⟨r, hr⟩ : ∃ r, r = same4 x.kind x.ta x.tb x.tc y.kind y.ta y.tb y.tc := ⟨_, rfl⟩
  rw [← hr]
  unfold same4 at hr
  obtain ⟨k, hk⟩ : ∃ k, k = x.kind := ⟨_, rfl⟩
  obtain ⟨a, ha⟩ : ∃ k, k = x.ta := ⟨_, rfl⟩
  obtain ⟨b, hb⟩ : ∃ k, k = x.tb := ⟨_, rfl⟩
  obtain ⟨c, hc⟩ : ∃ k, k = x.tc := ⟨_, rfl⟩
  obtain ⟨k', hk'⟩ : ∃ k, k = y.kind := ⟨_, rfl⟩
  obtain ⟨a', ha'⟩ : ∃ k, k = y.ta := ⟨_, rfl⟩
  obtain ⟨b', hb'⟩ : ∃ k, k = y.tb := ⟨_, rfl⟩
  obtain ⟨c', hc'⟩ : ∃ k, k = y.tc := ⟨_, rfl⟩
  obtain ⟨vx, hvx⟩ : ∃ k, k = x.val := ⟨_, rfl⟩
  obtain ⟨vy, hvy⟩ : ∃ k, k = y.val := ⟨_, rfl⟩
  rw [← hk, ← ha, ← hb, ← hc, ← hvx] at cx
  rw [← hk', ← ha', ← hb', ← hc', ← hvy] at cy
  rw [← hk, ← ha, ← hb, ← hc, ← hk', ← ha', ← hb', ← hc'] at hr
  rw [← hvx, ← hvy]
  clear hk ha hb hc hk' ha' hb' hc' hvx hvy
  cases h3 : (k != 3)
  · rw [h3, Bool.false_and] at hr
    subst hr
    go_enter Tryz.func20, Tryz.ntmps20
    go_wp2_with (go_at_call 29; (with_reducible refine (cx _).mono ?_); rintro e w1 ⟨rfl, hb1⟩)
    have hB := Lib.hid ((Sx.mk hb1 k a b c).1)
    clear hb1 hE
    go_quiet (fail)
    go_wp2
    go_ret
    exact ⟨rfl, ⟨hB.out.os, hB.out.tape, hB.out.output, hB.out.size, hB.out.block⟩⟩
  · rw [h3, Bool.true_and] at hr
    have HR := Lib.hid hr
    clear hr
    go_enter Tryz.func20, Tryz.ntmps20
    go_wp2_with (go_at_call 29; (with_reducible refine (cx _).mono ?_); rintro e w1 ⟨rfl, hb1⟩)
    have hS := Sx.mk hb1 k a b c
    clear hb1
    first
      | (go_region_held (fun W => W.cell? ⟨w1.heap.size, 0, none⟩ = some (.int .i64 k) ∧ W.cell? ⟨w1.heap.size, 1, none⟩ = some (.string a) ∧ W.cell? ⟨w1.heap.size, 2, none⟩ = some (.string b) ∧ W.cell? ⟨w1.heap.size, 3, none⟩ = some (.string c) ∧ Sx w w1.heap.size k a b c W)
          (first | exact Sx.all (by assumption) | exact Sx.all (Sx.drew (by assumption)))
          (first | (go_at_call 29; (with_reducible refine (cy _ _ _ _ _ _ _ (by first | assumption | exact Sx.drew (by assumption))).mono ?_); rintro e w2 ⟨rfl, hS2⟩)))
      | fail
    have HB := Lib.hid hS2.1
    clear hS2 hS
    go_wp2
    go_ret
    exact ⟨ret_bT HR.out.symm, HB.out⟩
end Go.Proofs.YtaoelnfflkkeeaaGreatDoor
