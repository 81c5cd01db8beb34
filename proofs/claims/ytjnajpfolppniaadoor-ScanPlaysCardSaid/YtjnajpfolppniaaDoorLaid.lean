/-
  WHAT THE ROWS' LIST GIVES: the cells of the table 'escapes'; and what every law's frame shares.
-/
import Derived.Test.YtjnajpfolppniaaDoorRows
import Derived.WalkKit
import Derived.ProofKit
import Derived.OpenShut
import Derived.Deep.DeepHandedRow
import Derived.Lib.LaidTab
import Derived.MakeChecks
namespace Go.Proofs.YtjnajpfolppniaaDoor
open Go.ChangeShapes Go.RowKit

theorem own : ownKnob Tryd.prog.godebug = none := by kernel_rfl
theorem gEsc : Tryd.prog.globalNamed "beck/scan.escapes" = some 0 := by kernel_rfl
theorem gEscType : (Tryd.prog.globals[0]?).map (·.type) = some 61 := by kernel_rfl
theorem cellsEsc : Tryd.prog.cellsOf 60 = 2 := by kernel_rfl
theorem cellsEscs : Tryd.prog.cellsOf 61 = 14 := by kernel_rfl
theorem cellsRune : Tryd.prog.cellsOf 21 = 1 := by kernel_rfl

def escCells : Array Value := #[.int .i32 116, .int .i32 9, .int .i32 110, .int .i32 10, .int .i32 114, .int .i32 13, .int .i32 98, .int .i32 8, .int .i32 102, .int .i32 12, .int .i32 34, .int .i32 34, .int .i32 92, .int .i32 92]

theorem two_of {H : Type} {enc : TypeId × Value → H} {W : World} {sp : Nat → Bool} {f : Nat} {cs : List Value} {x : DataW H × List MemPlace} {a b : Int}
    (h : DataW.trod enc Tryd.prog W 0 sp false f 60 cs = some x) (hx : x.1 = .agg [.lit (.int .i32 a), .lit (.int .i32 b)]) : cs = [.int .i32 a, .int .i32 b] := by
  obtain ⟨y0, y1, n, rfl, hl, h0, h1⟩ := trod_struct2 Tryd.underlying60 h
  rw [cellsEsc] at hl
  match cs, hl with
  | [c0, c1], _ =>
    obtain ⟨p, e0, e1, _⟩ := DataW.trod_int Tryd.underlying21 h0
    obtain ⟨q, f0, f1, _⟩ := DataW.trod_int Tryd.underlying21 h1
    simp only [DataW.agg.injEq, List.cons.injEq, and_true] at hx
    rw [e1, f1] at hx
    simp only [DataW.lit.injEq, Lit.int.injEq, true_and] at hx
    obtain ⟨rfl, rfl⟩ := hx
    simp [cellsRune] at e0 f0
    subst e0 f0
    rfl

/-- THE TABLE's CELLS. -/
theorem table {W : World} (h : laidMetH Tryd.prog [("beck/scan.escapes", Rows.laid_beck_scan_escapes)] W) : ∃ t fr, W.heap[0]? = some (.cells escCells t fr) := by
  rw [MakeChecks.laidMetH_plain _ _ _ (by kernel_rfl)] at h
  obtain ⟨ps, ⟨g0, t0, cs0, f0, p0, q0, hg0, ht0, hv0, hd0, _, _⟩, _⟩ := h
  obtain rfl := Option.some.inj (gEsc.symm.trans hg0)
  obtain rfl := Option.some.inj (gEscType.symm.trans ht0)
  obtain ⟨xs, m, rfl, hx, hlen, hn, hel⟩ := DataW.trod_array Tryd.underlying61 hd0
  rw [cellsEscs] at hlen
  simp only [cellsEsc] at hel
  unfold World.var? at hv0
  rw [gEsc] at hv0
  simp only [Option.bind_some] at hv0
  match hh : W.heap[0]?, hv0 with
  | some (.cells cs t fr), hv0 =>
    simp only [Option.some.injEq] at hv0
    subst hv0
    refine ⟨t, fr, ?_⟩
    simp only [Prod.mk.injEq, Rows.laid_beck_scan_escapes, DataW.agg.injEq] at hx
    have hx := hx.1
    match xs, hn, hx, hel with
    | [x0, x1, x2, x3, x4, x5, x6], _, hx, hel =>
      simp only [List.map_cons, List.map_nil, List.cons.injEq, and_true] at hx
      obtain ⟨e0, e1, e2, e3, e4, e5, e6⟩ := hx
      have a0 := two_of (hel 0 (by decide)) e0.symm
      have a1 := two_of (hel 1 (by decide)) e1.symm
      have a2 := two_of (hel 2 (by decide)) e2.symm
      have a3 := two_of (hel 3 (by decide)) e3.symm
      have a4 := two_of (hel 4 (by decide)) e4.symm
      have a5 := two_of (hel 5 (by decide)) e5.symm
      have a6 := two_of (hel 6 (by decide)) e6.symm
      obtain ⟨l⟩ := cs
      congr 2
      match l, hlen with
      | [c0, c1, c2, c3, c4, c5, c6, c7, c8, c9, c10, c11, c12, c13], _ =>
        simp at a0 a1 a2 a3 a4 a5 a6
        obtain ⟨rfl, rfl⟩ := a0
        obtain ⟨rfl, rfl⟩ := a1
        obtain ⟨rfl, rfl⟩ := a2
        obtain ⟨rfl, rfl⟩ := a3
        obtain ⟨rfl, rfl⟩ := a4
        obtain ⟨rfl, rfl⟩ := a5
        obtain ⟨rfl, rfl⟩ := a6
        rfl
end Go.Proofs.YtjnajpfolppniaaDoor
