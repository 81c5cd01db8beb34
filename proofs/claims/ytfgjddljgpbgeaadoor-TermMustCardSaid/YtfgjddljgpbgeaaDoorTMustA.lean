/-
  WHAT MUST BE AN IRI: an IRI, or a panic, which 'panics' tells of.
-/
import Derived.Test.YtfgjddljgpbgeaaDoorTTerm
import Derived.Tactics
import Derived.Tactics2
import Derived.Defers
import Derived.Recover
import Derived.Laws.Pointers
namespace Go.Proofs.YtfgjddljgpbgeaaDoor
open Go.RowKit
set_option linter.unusedVariables false

/-- A panic of the run-time's own. -/
def Pan (w : World) (e : Ending) (w' : World) : Prop := (∃ u pv, e = .panicked [{ v := .iface u pv, recovered := false }]) ∧ Below w.heap.size w w'
theorem asPanB (v : Value) (w : World) : (Instr.typeAssert (.iface 59 v) 28 61 false).run Tryd.prog w = .halt (.panic (.iface 15 (.pointer (some ⟨w.heap.size, 0, none⟩)))) (w.alloc (.cells #[.pointer (some ⟨Tryd.prog.globals.size, 28, none⟩), .pointer (some ⟨Tryd.prog.globals.size, 59, none⟩), .pointer (some ⟨Tryd.prog.globals.size, 61, none⟩), strVal ""] 158)) := by kernel_rfl
theorem asPanL (v : Value) (w : World) : (Instr.typeAssert (.iface 38 v) 28 61 false).run Tryd.prog w = .halt (.panic (.iface 15 (.pointer (some ⟨w.heap.size, 0, none⟩)))) (w.alloc (.cells #[.pointer (some ⟨Tryd.prog.globals.size, 28, none⟩), .pointer (some ⟨Tryd.prog.globals.size, 38, none⟩), .pointer (some ⟨Tryd.prog.globals.size, 61, none⟩), strVal ""] 158)) := by kernel_rfl
theorem asPanO (v : Value) (w : World) : (Instr.typeAssert (.iface 65 v) 28 61 false).run Tryd.prog w = .halt (.panic (.iface 15 (.pointer (some ⟨w.heap.size, 0, none⟩)))) (w.alloc (.cells #[.pointer (some ⟨Tryd.prog.globals.size, 28, none⟩), .pointer (some ⟨Tryd.prog.globals.size, 65, none⟩), .pointer (some ⟨Tryd.prog.globals.size, 61, none⟩), strVal ""] 158)) := by kernel_rfl
theorem asPanN (w : World) : (Instr.typeAssert .nilIface 28 61 false).run Tryd.prog w = .halt (.panic (.iface 15 (.pointer (some ⟨w.heap.size, 0, none⟩)))) (w.alloc (.cells #[.pointer (some ⟨Tryd.prog.globals.size, 28, none⟩), .pointer none, .pointer (some ⟨Tryd.prog.globals.size, 61, none⟩), strVal ""] 158)) := by kernel_rfl
theorem asOk (v : Value) (w : World) : (Instr.typeAssert (.iface 61 v) 28 61 false).run Tryd.prog w = .ok v w := by kernel_rfl
theorem pan_alloc {w w' : World} {u : TypeId} {pv : Value} (hb : Below w.heap.size w w') : Pan w (.panicked [{ v := .iface u pv, recovered := false }]) w' := ⟨⟨_, _, rfl⟩, hb⟩
set_option maxRecDepth 100000 in
theorem must_no (t : Tm) (h : t.kind ≠ 1) (w : World) : Calls Tryd.prog 76 #[t.val] w (Pan w) := by
  match t, h with
  | .blank s, _ =>
    simp only [Tm.val]
    have hp := asPanB
    go_enter Tryd.func76, Tryd.ntmps76
    go_wp2
    exact ⟨rfl, pan_alloc (((Below.refl _ _).alloc (Nat.le_refl _) _).alloc (by simp) _)⟩
  | .lit a b c, _ =>
    simp only [Tm.val]
    have hp := asPanL
    go_enter Tryd.func76, Tryd.ntmps76
    go_wp2
    exact ⟨rfl, pan_alloc (((Below.refl _ _).alloc (Nat.le_refl _) _).alloc (by simp) _)⟩
  | .odd n, _ =>
    simp only [Tm.val]
    have hp := asPanO
    go_enter Tryd.func76, Tryd.ntmps76
    go_wp2
    exact ⟨rfl, pan_alloc (((Below.refl _ _).alloc (Nat.le_refl _) _).alloc (by simp) _)⟩
  | .none, _ =>
    simp only [Tm.val]
    have hp := asPanN
    go_enter Tryd.func76, Tryd.ntmps76
    go_wp2
    exact ⟨rfl, pan_alloc (((Below.refl _ _).alloc (Nat.le_refl _) _).alloc (by simp) _)⟩
  | .iri s, h => exact absurd rfl h
set_option maxRecDepth 100000 in
theorem must_yes (s : ByteArray) (w : World) : Calls Tryd.prog 76 #[(Tm.iri s).val] w fun e w' => e = .returned (.agg #[.string s]) ∧ Below w.heap.size w w' := by
  simp only [Tm.val]
  have hp := asOk
  go_enter Tryd.func76, Tryd.ntmps76
  go_wp2
  exact bodyPost_ret (v := .agg #[.string s]) (by simp [results, Tryd.results76, go_sem]) rfl ⟨rfl, (Below.refl _ _).alloc (Nat.le_refl _) _⟩
set_option maxRecDepth 100000 in
theorem Must_yes (s : ByteArray) (w : World) : Calls Tryd.prog 56 #[(Tm.iri s).val] w fun e w' => e = .returned (.agg #[.string s]) ∧ Below w.heap.size w w' := by
  have c := must_yes s
  obtain ⟨v, hv⟩ : ∃ v, v = (Tm.iri s).val := ⟨_, rfl⟩
  rw [← hv] at c ⊢
  clear hv
  go_enter Tryd.func56, Tryd.ntmps56
  have hb0 := (Below.refl w.heap.size w).alloc (Nat.le_refl _) (.cells #[.string mt] 61)
  go_wp2_with (go_at_call 76; (with_reducible refine (c _).mono ?_); rintro e w1 ⟨rfl, hb1⟩; have hx := (Fb.new w 61 #[.string mt]).below hb1; have c0 := hx.cell 0; have f0 := hx.free 0; simp at c0; have hz := hx.lt)
  exact bodyPost_ret (v := .agg #[.string s]) (by simp [results, Tryd.results56, go_sem, c0]) rfl ⟨rfl, ((hb0.trans (hb1.mono (by simp))).setCell (by simp) _)⟩
set_option maxRecDepth 100000 in
theorem Must_no (t : Tm) (h : t.kind ≠ 1) (w : World) : Calls Tryd.prog 56 #[t.val] w (Pan w) := by
  have c := must_no t h
  obtain ⟨v, hv⟩ : ∃ v, v = t.val := ⟨_, rfl⟩
  rw [← hv] at c ⊢
  clear hv
  go_enter Tryd.func56, Tryd.ntmps56
  have hb0 := (Below.refl w.heap.size w).alloc (Nat.le_refl _) (.cells #[.string mt] 61)
  go_wp2_with (go_at_call 76; (with_reducible refine (c _).mono ?_); rintro e w1 ⟨⟨u, pv, rfl⟩, hb1⟩)
  exact ⟨rfl, pan_alloc (hb0.trans (hb1.mono (by simp)))⟩
theorem catch_panicking (p : Addr) (x : Bool) (u : TypeId) (pv : Value) (older : List PanicEntry) (w : World) (hc : w.cell? p = some (.bool x)) (hz : w.frozen? p = false) :
    CallsD Tryd.prog 55 #[.pointer (some p)] (.panicking ({ v := .iface u pv, recovered := false } :: older)) w fun e u' w' =>
      e = .returned (.tuple #[]) ∧ u' = .panicking ({ v := .iface u pv, recovered := true } :: older) ∧ w' = w.setCell p (.bool true) := by
  refine callsD_of_wpS Tryd.func55 rfl fun c₀ cs hu => ?_
  apply wpS_region
  simp [wpOpsS, go_sem, recoverD, hu, Tryd.ntmps55, hc, hz, bodyPostS, results, Tryd.results55]
theorem catch_idle (p : Addr) (x : Bool) (w : World) (hc : w.cell? p = some (.bool x)) (hz : w.frozen? p = false) :
    CallsD Tryd.prog 55 #[.pointer (some p)] .returning w fun e u' w' => e = .returned (.tuple #[]) ∧ u' = .returning ∧ w' = w.setCell p (.bool false) := by
  refine callsD_of_wpS Tryd.func55 rfl fun c₀ cs hu => ?_
  apply wpS_region
  simp [wpOpsS, go_sem, recoverD, hu, Tryd.ntmps55, hc, hz, bodyPostS, results, Tryd.results55]
  cases c₀
  simp_all
def PanicsPost (r : Bool) (w : World) (e : Ending) (w' : World) : Prop := e = .returned (.bool r) ∧ Below w.heap.size w w'
set_option maxHeartbeats 2000000 in
theorem panics_yes (t : Tm) (h : t.kind ≠ 1) (w : World) : Calls Tryd.prog 28 #[t.val] w (PanicsPost true w) := by
  have c := Must_no t h
  have hmf : ∀ (fn : Fn) (first cap : Array Value) (w : World), (Instr.makeFunc fn first cap).run Tryd.prog w = .ok (.func fn first cap) w := fun _ _ _ _ => rfl
  obtain ⟨v, hv⟩ : ∃ v, v = t.val := ⟨_, rfl⟩
  rw [← hv] at c ⊢
  clear hv
  go_enter_defers Tryd.func28, Tryd.ntmps28
  have hb0 := (Below.refl w.heap.size w).alloc (Nat.le_refl _) (.cells #[.bool false] 4)
  go_wp2_with (go_at_call 56; (with_reducible refine (c _).mono ?_); rintro e w1 ⟨⟨u, pv, rfl⟩, hb1⟩; have hx := (Fb.new w 4 #[.bool false]).below hb1; have c0 := hx.cell 0; have f0 := hx.free 0; simp at c0; have hz := hx.lt)
  refine leaves_cons (f := 55) (args := #[.pointer (some ⟨w.heap.size, 0, none⟩)]) (by simp) (by simp [go_sem]) ?_
  refine (catch_panicking ⟨w.heap.size, 0, none⟩ false u pv [] _ c0 f0).mono ?_
  rintro e u' w'' ⟨rfl, rfl, rfl⟩
  have hfin : Below w.heap.size w (w1.setCell ⟨w.heap.size, 0, none⟩ (.bool true)) := (hb0.trans (hb1.mono (by simp))).setCell (by simp) _
  simp [Leaves, settle, results, Tryd.results28, go_sem, c0, PanicsPost, hfin]
set_option maxHeartbeats 2000000 in
theorem panics_no (s : ByteArray) (w : World) : Calls Tryd.prog 28 #[(Tm.iri s).val] w (PanicsPost false w) := by
  have c := Must_yes s
  have hmf : ∀ (fn : Fn) (first cap : Array Value) (w : World), (Instr.makeFunc fn first cap).run Tryd.prog w = .ok (.func fn first cap) w := fun _ _ _ _ => rfl
  obtain ⟨v, hv⟩ : ∃ v, v = (Tm.iri s).val := ⟨_, rfl⟩
  rw [← hv] at c ⊢
  clear hv
  go_enter_defers Tryd.func28, Tryd.ntmps28
  have hb0 := (Below.refl w.heap.size w).alloc (Nat.le_refl _) (.cells #[.bool false] 4)
  go_wp2_with (go_at_call 56; (with_reducible refine (c _).mono ?_); rintro e w1 ⟨rfl, hb1⟩; have hx := (Fb.new w 4 #[.bool false]).below hb1; have c0 := hx.cell 0; have f0 := hx.free 0; simp at c0; have hz := hx.lt)
  refine leaves_cons (f := 55) (args := #[.pointer (some ⟨w.heap.size, 0, none⟩)]) (by simp) (by simp [go_sem]) ?_
  refine (catch_idle ⟨w.heap.size, 0, none⟩ false _ (by simp [go_sem, c0]) (by simp [go_sem, f0])).mono ?_
  rintro e u' w'' ⟨rfl, rfl, rfl⟩
  have hfin : Below w.heap.size w ((w1.setCell ⟨w.heap.size, 0, none⟩ (.bool false)).setCell ⟨w.heap.size, 0, none⟩ (.bool false)) := ((hb0.trans (hb1.mono (by simp))).setCell (by simp) _).setCell (by simp) _
  simp [Leaves, settle, results, Tryd.results28, go_sem, c0, PanicsPost, hfin]
end Go.Proofs.YtfgjddljgpbgeaaDoor
