/-
  WHAT MUST BE AN IRI: an IRI, or a panic, which 'panics' tells of.
-/
import Derived.Test.YtaoelnfflkkeeaaGreatDoorTTerm
import Derived.Tactics
import Derived.Tactics2
import Derived.Defers
import Derived.Recover
import Derived.Laws.Pointers
namespace Go.Proofs.YtaoelnfflkkeeaaGreatDoor
open Go.RowKit
set_option linter.unusedVariables false

/-- A panic of the run-time's own. -/
def Pan (w : World) (e : Ending) (w' : World) : Prop := (∃ u pv, e = .panicked [{ v := .iface u pv, recovered := false }]) ∧ Below w.heap.size w w'
theorem asPanB (v : Value) (w : World) : (Instr.typeAssert (.iface 58 v) 28 50 false).run Tryz.prog w = .halt (.panic (.iface 15 (.pointer (some ⟨w.heap.size, 0, none⟩)))) (w.alloc (.cells #[.pointer (some ⟨Tryz.prog.globals.size, 28, none⟩), .pointer (some ⟨Tryz.prog.globals.size, 58, none⟩), .pointer (some ⟨Tryz.prog.globals.size, 50, none⟩), strVal ""] 126)) := by kernel_rfl
theorem asPanL (v : Value) (w : World) : (Instr.typeAssert (.iface 53 v) 28 50 false).run Tryz.prog w = .halt (.panic (.iface 15 (.pointer (some ⟨w.heap.size, 0, none⟩)))) (w.alloc (.cells #[.pointer (some ⟨Tryz.prog.globals.size, 28, none⟩), .pointer (some ⟨Tryz.prog.globals.size, 53, none⟩), .pointer (some ⟨Tryz.prog.globals.size, 50, none⟩), strVal ""] 126)) := by kernel_rfl
theorem asPanO (v : Value) (w : World) : (Instr.typeAssert (.iface 60 v) 28 50 false).run Tryz.prog w = .halt (.panic (.iface 15 (.pointer (some ⟨w.heap.size, 0, none⟩)))) (w.alloc (.cells #[.pointer (some ⟨Tryz.prog.globals.size, 28, none⟩), .pointer (some ⟨Tryz.prog.globals.size, 60, none⟩), .pointer (some ⟨Tryz.prog.globals.size, 50, none⟩), strVal ""] 126)) := by kernel_rfl
theorem asPanN (w : World) : (Instr.typeAssert .nilIface 28 50 false).run Tryz.prog w = .halt (.panic (.iface 15 (.pointer (some ⟨w.heap.size, 0, none⟩)))) (w.alloc (.cells #[.pointer (some ⟨Tryz.prog.globals.size, 28, none⟩), .pointer none, .pointer (some ⟨Tryz.prog.globals.size, 50, none⟩), strVal ""] 126)) := by kernel_rfl
theorem asOk (v : Value) (w : World) : (Instr.typeAssert (.iface 50 v) 28 50 false).run Tryz.prog w = .ok v w := by kernel_rfl
theorem pan_alloc {w w' : World} {u : TypeId} {pv : Value} (hb : Below w.heap.size w w') : Pan w (.panicked [{ v := .iface u pv, recovered := false }]) w' := ⟨⟨_, _, rfl⟩, hb⟩
set_option maxRecDepth 100000 in
theorem must_no (t : Tm) (h : t.kind ≠ 1) (w : World) : Calls Tryz.prog 33 #[t.val] w (Pan w) := by
  match t, h with
  | .blank s, _ =>
    simp only [Tm.val]
    have hp := asPanB
    go_enter Tryz.func33, Tryz.ntmps33
    go_wp2
    exact ⟨rfl, pan_alloc (((Below.refl _ _).alloc (Nat.le_refl _) _).alloc (by simp) _)⟩
  | .lit a b c, _ =>
    simp only [Tm.val]
    have hp := asPanL
    go_enter Tryz.func33, Tryz.ntmps33
    go_wp2
    exact ⟨rfl, pan_alloc (((Below.refl _ _).alloc (Nat.le_refl _) _).alloc (by simp) _)⟩
  | .odd n, _ =>
    simp only [Tm.val]
    have hp := asPanO
    go_enter Tryz.func33, Tryz.ntmps33
    go_wp2
    exact ⟨rfl, pan_alloc (((Below.refl _ _).alloc (Nat.le_refl _) _).alloc (by simp) _)⟩
  | .none, _ =>
    simp only [Tm.val]
    have hp := asPanN
    go_enter Tryz.func33, Tryz.ntmps33
    go_wp2
    exact ⟨rfl, pan_alloc (((Below.refl _ _).alloc (Nat.le_refl _) _).alloc (by simp) _)⟩
  | .iri s, h => exact absurd rfl h
set_option maxRecDepth 100000 in
theorem must_yes (s : ByteArray) (w : World) : Calls Tryz.prog 33 #[(Tm.iri s).val] w fun e w' => e = .returned (.agg #[.string s]) ∧ Below w.heap.size w w' := by
  simp only [Tm.val]
  have hp := asOk
  go_enter Tryz.func33, Tryz.ntmps33
  go_wp2
  exact bodyPost_ret (v := .agg #[.string s]) (by simp [results, Tryz.results33, go_sem]) rfl ⟨rfl, (Below.refl _ _).alloc (Nat.le_refl _) _⟩
set_option maxRecDepth 100000 in
theorem Must_yes (s : ByteArray) (w : World) : Calls Tryz.prog 19 #[(Tm.iri s).val] w fun e w' => e = .returned (.agg #[.string s]) ∧ Below w.heap.size w w' := by
  have c := must_yes s
  obtain ⟨v, hv⟩ : ∃ v, v = (Tm.iri s).val := ⟨_, rfl⟩
  rw [← hv] at c ⊢
  clear hv
  go_enter Tryz.func19, Tryz.ntmps19
  have hb0 := (Below.refl w.heap.size w).alloc (Nat.le_refl _) (.cells #[.string mt] 50)
  go_wp2_with (go_at_call 33; (with_reducible refine (c _).mono ?_); rintro e w1 ⟨rfl, hb1⟩; have hx := (Fb.new w 50 #[.string mt]).below hb1; have c0 := hx.cell 0; have f0 := hx.free 0; simp at c0; have hz := hx.lt)
  exact bodyPost_ret (v := .agg #[.string s]) (by simp [results, Tryz.results19, go_sem, c0]) rfl ⟨rfl, ((hb0.trans (hb1.mono (by simp))).setCell (by simp) _)⟩
set_option maxRecDepth 100000 in
theorem Must_no (t : Tm) (h : t.kind ≠ 1) (w : World) : Calls Tryz.prog 19 #[t.val] w (Pan w) := by
  have c := must_no t h
  obtain ⟨v, hv⟩ : ∃ v, v = t.val := ⟨_, rfl⟩
  rw [← hv] at c ⊢
  clear hv
  go_enter Tryz.func19, Tryz.ntmps19
  have hb0 := (Below.refl w.heap.size w).alloc (Nat.le_refl _) (.cells #[.string mt] 50)
  go_wp2_with (go_at_call 33; (with_reducible refine (c _).mono ?_); rintro e w1 ⟨⟨u, pv, rfl⟩, hb1⟩)
  exact ⟨rfl, pan_alloc (hb0.trans (hb1.mono (by simp)))⟩
def PanicsPost (r : Bool) (w : World) (e : Ending) (w' : World) : Prop := e = .returned (.bool r) ∧ Below w.heap.size w w'
end Go.Proofs.YtaoelnfflkkeeaaGreatDoor
