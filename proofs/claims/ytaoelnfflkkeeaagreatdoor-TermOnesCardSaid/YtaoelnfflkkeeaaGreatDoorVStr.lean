/-
  'Parse' and 'Text': the program's, by the library's contracts.
-/
import Derived.Test.YtaoelnfflkkeeaaGreatDoorVNumb
import Derived.Test.YtaoelnfflkkeeaaGreatDoorVShelf
import Derived.Lib.SmallJoins
import Derived.Lib.ItoaLen
import Derived.Lib.AppendIntMem
namespace Go.Proofs.YtaoelnfflkkeeaaGreatDoor
open Go.RowKit
set_option linter.unusedVariables false

abbrev twoP (z : Int) (code : Int) : Value := .tuple #[.int .i64 z, .int .i64 code]
theorem var_below {P : Program} {w w' : World} {n : String} {cs : Array Value} (hb : Below w.heap.size w w') (hv : w.var? P n = some cs) : w'.var? P n = some cs := by
  unfold World.var? at hv ⊢
  cases hg : P.globalNamed n with
  | none => rw [hg] at hv; cases hv
  | some g =>
    rw [hg] at hv
    simp only [Option.bind_some] at hv ⊢
    cases hc : w.heap[g]? with
    | none => rw [hc] at hv; cases hv
    | some o =>
      have hlt := (Array.getElem?_eq_some_iff.1 hc).1
      rw [hb.block g hlt]
      exact hv
/-- What the library's variables hold. -/
def LV (w : World) : Prop := Lib.TabIs Tryz.prog w "internal/strconv.uint64pow10" .u64 Lib.pow10Tab ∧ ∃ tp p, w.var? Tryz.prog "strconv.ErrRange" = some #[.iface tp p]
theorem LV.below {w w' : World} (h : LV w) (hb : Below w.heap.size w w') : LV w' := by
  obtain ⟨h1, tp, p, h2⟩ := h
  exact ⟨var_below hb h1, tp, p, var_below hb h2⟩
theorem vparse_form (s : ByteArray) (hs : s.size ≤ 1000000) (h : isNum s.data.toList = false) (w : World) : Calls Tryz.prog 23 #[.string s] w fun e w' => e = .returned (twoP 0 1) ∧ Below w.heap.size w w' := by
  have c1 := isnumber_any s hs w
  rw [h] at c1
  clear h hs
  go_enter Tryz.func23, Tryz.ntmps23
  go_wp2_with (go_at_call 37; (with_reducible refine c1.mono ?_); rintro e w1 ⟨rfl, hb1⟩)
  go_ret2
  exact ⟨rfl, hb1⟩
theorem vparse_ok (s : ByteArray) (hs : s.size ≤ 1000000) (h : isNum s.data.toList = true) (h0 : -9223372036854775808 ≤ numZ s.data.toList) (h1 : numZ s.data.toList ≤ 9223372036854775807) (w : World) :
    Calls Tryz.prog 23 #[.string s] w fun e w' => e = .returned (twoP (numZ s.data.toList) 0) ∧ Below w.heap.size w w' := by
  have c1 := isnumber_any s hs w
  rw [h] at c1
  have c2 : ∀ W, Calls Tryz.prog 38 #[.string s, .int .i64 10, .int .i64 64] W fun e w' => e = .returned (.tuple #[.int .i64 (numZ s.data.toList), .nilIface]) ∧ Below W.heap.size W w' := fun W =>
    (Tryz.strconv_ParseInt_10_at64_ok s (by omega) _ (parse_ok _ h h0 h1) W).mono fun e w' ⟨a, b⟩ => ⟨a, by
      rcases b with rfl | ⟨t, rfl⟩
      · exact Below.refl _ _
      · exact Joins.below_bytesWorld _ _ _ _ (Nat.le_refl _)⟩
  obtain ⟨z, hz⟩ : ∃ z, z = numZ s.data.toList := ⟨_, rfl⟩
  rw [← hz] at c2 ⊢
  clear h h0 h1 hz hs
  go_enter Tryz.func23, Tryz.ntmps23
  go_wp2_with (first
    | (go_at_call 37; (with_reducible refine c1.mono ?_); rintro e w1 ⟨rfl, hb1⟩)
    | (go_at_call 38; (with_reducible refine (c2 _).mono ?_); rintro e w2 ⟨rfl, hb2⟩))
  go_ret2
  exact ⟨rfl, hb1.trans (hb2.mono hb1.size)⟩
theorem vparse_over (s : ByteArray) (hs : s.size ≤ 1000000) (h : isNum s.data.toList = true) (h0 : ¬ (-9223372036854775808 ≤ numZ s.data.toList ∧ numZ s.data.toList ≤ 9223372036854775807)) (w : World) (hv : LV w) :
    Calls Tryz.prog 23 #[.string s] w fun e w' => e = .returned (twoP 0 9) ∧ Below w.heap.size w w' := by
  have c1 := isnumber_any s hs w
  rw [h] at c1
  have c2 : ∀ W, LV W → Calls Tryz.prog 38 #[.string s, .int .i64 10, .int .i64 64] W fun e w' => ∃ N, e = .returned (.tuple #[.int .i64 (Lib.intSat 64 s.data.toList), .iface 97 (.pointer (some ⟨N, 0, none⟩))]) ∧ Below W.heap.size W w' := fun W ⟨_, tp, p, hvar⟩ =>
    (Tryz.strconv_ParseInt_10_at64_range_var s (by omega) (parse_range _ h h0) tp p W hvar).mono fun e w' ⟨N, a, _, _, b⟩ => ⟨N, a, b⟩
  obtain ⟨z, hz⟩ : ∃ z, z = Lib.intSat 64 s.data.toList := ⟨_, rfl⟩
  rw [← hz] at c2
  clear h h0 hz hs
  go_enter Tryz.func23, Tryz.ntmps23
  go_wp2_with (first
    | (go_at_call 37; (with_reducible refine c1.mono ?_); rintro e w1 ⟨rfl, hb1⟩)
    | (go_at_call 38; (with_reducible refine (c2 _ (hv.below hb1)).mono ?_); rintro e w2 ⟨N, rfl, hb2⟩))
  go_ret2
  exact ⟨rfl, hb1.trans (hb2.mono hb1.size)⟩
end Go.Proofs.YtaoelnfflkkeeaaGreatDoor
