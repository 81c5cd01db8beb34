/-
  LITERALS THAT ARE MADE: Plain, Int, Bool.
-/
import Derived.Test.YtfgjddljgpbgeaaDoorTAwake
import Derived.Test.YtfgjddljgpbgeaaDoorTTxt
import Derived.Deep.RegionHeld3
namespace Go.Proofs.YtfgjddljgpbgeaaDoor
open Go.RowKit
set_option linter.unusedVariables false

theorem plain_any (s : ByteArray) (w : World) : Calls Tryd.prog 21 #[.string s] w fun e w' => e = .returned (.agg #[.string s, .string XS, .string mt]) ∧ Below w.heap.size w w' := by
  go_enter Tryd.func21, Tryd.ntmps21
  go_wp2
  exact bodyPost_ret (v := .agg #[.string s, .string XS, .string mt]) (by simp [results, Tryd.results21, go_sem]) rfl ⟨rfl, (Below.refl _ _).alloc (Nat.le_refl _) _⟩
theorem awake_b {w W : World} (hv : LV w) (hb : Below w.heap.size w W) : Calls Tryd.prog 10 #[] W fun e w' => e = .returned (.bool true) ∧ Below w.heap.size w w' :=
  (awake_ok W (hv.below hb)).mono fun e w' ⟨a, b⟩ => ⟨a, hb.trans (b.mono hb.size)⟩
theorem Fb.free {w : World} {g : Nat} {t : TypeId} {cs : Array Value} (h : Fb w g t cs) (i : Nat) : w.frozen? ⟨g, i, none⟩ = false := by
  unfold Fb at h
  simp [World.frozen?, h]
set_option maxRecDepth 100000 in
theorem int_any (n : Int) (h0 : -9223372036854775808 ≤ n) (h1 : n ≤ 9223372036854775807) (w : World) (hv : LV w) :
    Calls Tryd.prog 19 #[.int .i64 n] w fun e w' => e = .returned (.agg #[.string ⟨(textZ n).toArray⟩, .string XI, .string mt]) ∧ Below w.heap.size w w' := by
  have cT : ∀ W, LV W → Calls Tryd.prog 45 #[.int .i64 n] W fun e w' => e = .returned (.string ⟨(textZ n).toArray⟩) ∧ Below W.heap.size W w' := fun W h => vtext_any n h0 h1 W h
  obtain ⟨u, hu⟩ : ∃ u : ByteArray, u = ⟨(textZ n).toArray⟩ := ⟨_, rfl⟩
  rw [← hu] at cT ⊢
  have hLV := Lib.hid hv
  clear hu h0 h1 hv
  go_enter Tryd.func19, Tryd.ntmps19
  have hb0 := (Below.refl w.heap.size w).alloc (Nat.le_refl _) (.cells #[.string mt, .string mt, .string mt] 38)
  go_wp2_with (go_at_call 45; (with_reducible refine (cT _ (hLV.out.below hb0)).mono ?_); rintro e w1 ⟨rfl, hb1⟩; have hx := (Fb.new w 38 #[.string mt, .string mt, .string mt]).below hb1; have c0 := hx.cell 0; have c1 := hx.cell 1; have c2 := hx.cell 2; have f0 := hx.free 0; have f1 := hx.free 1; have f2 := hx.free 2; simp at c0 c1 c2; have hz := hx.lt)
  exact bodyPost_ret (v := .agg #[.string u, .string XI, .string mt]) (by simp [results, Tryd.results19, go_sem, c0, c1, c2]) rfl ⟨rfl, (((hb0.trans (hb1.mono (by simp))).setCell (by simp) _).setCell (by simp) _).setCell (by simp) _⟩
theorem fbool_any (b : Bool) (w : World) : Calls Tryd.prog 46 #[.bool b] w fun e w' => e = .returned (.string (if b then ⟨wTrue.toArray⟩ else ⟨wFalse.toArray⟩)) ∧ w = w' := by
  have c : ∀ W, Calls Tryd.prog 64 #[.bool b] W fun e w' => e = .returned (.string (if b then ⟨wTrue.toArray⟩ else ⟨wFalse.toArray⟩)) ∧ W = w' := by
    intro W
    cases b
    all_goals
      go_enter Tryd.func64, Tryd.ntmps64
      go_wp2
      go_ret
      exact ⟨rfl, rfl⟩
  obtain ⟨u, hu⟩ : ∃ u : ByteArray, u = if b then ⟨wTrue.toArray⟩ else ⟨wFalse.toArray⟩ := ⟨_, rfl⟩
  rw [← hu] at c ⊢
  clear hu
  go_enter Tryd.func46, Tryd.ntmps46
  go_wp2_with (go_at_call 64; (with_reducible refine (c _).mono ?_); rintro e w' ⟨rfl, rfl⟩)
  go_ret
  exact ⟨rfl, rfl⟩
set_option maxRecDepth 100000 in
theorem bool_any (b : Bool) (w : World) :
    Calls Tryd.prog 20 #[.bool b] w fun e w' => e = .returned (.agg #[.string (if b then ⟨wTrue.toArray⟩ else ⟨wFalse.toArray⟩), .string XB, .string mt]) ∧ Below w.heap.size w w' := by
  have cT := fbool_any b
  obtain ⟨u, hu⟩ : ∃ u : ByteArray, u = if b then ⟨wTrue.toArray⟩ else ⟨wFalse.toArray⟩ := ⟨_, rfl⟩
  rw [← hu] at cT ⊢
  clear hu
  go_enter Tryd.func20, Tryd.ntmps20
  go_wp2_with (go_at_call 46; (with_reducible refine (cT _).mono ?_); rintro e w' ⟨rfl, rfl⟩)
  exact bodyPost_ret (v := .agg #[.string u, .string XB, .string mt]) (by simp [results, Tryd.results20, go_sem]) rfl ⟨rfl, (Below.refl _ _).alloc (Nat.le_refl _) _⟩
theorem digs_lenT {n : Int} (h0 : -9223372036854775808 ≤ n) (h1 : n ≤ 9223372036854775807) : (digs n.natAbs).length ≤ 19 := digs_len (by
  have : (10 : Nat) ^ 19 = 10000000000000000000 := by decide
  omega)
theorem textZ_lenT {n : Int} (h0 : -9223372036854775808 ≤ n) (h1 : n ≤ 9223372036854775807) : (textZ n).length ≤ 20 := by
  have h := digs_lenT h0 h1
  unfold textZ
  split
  · simp
  · split
    · simp [chars_lenT]; omega
    · simp [chars_lenT]; omega
theorem text_size (n : Int) (h0 : -9223372036854775808 ≤ n) (h1 : n ≤ 9223372036854775807) : (⟨(textZ n).toArray⟩ : ByteArray).size ≤ 1000000 := by
  have := textZ_lenT h0 h1
  simp [ByteArray.size]
  omega
end Go.Proofs.YtfgjddljgpbgeaaDoor
