/-
  The law's 'same', of the same items.
-/
import Derived.Test.YtagidmghmbfnpaaJTick
import Derived.ChangeKeysEq
namespace Go.Proofs.Ytagidmghmbfnpaa
open Go.RowKit
set_option linter.unusedVariables false
set_option linter.unusedSimpArgs false
set_option maxRecDepth 100000

theorem jt_at {B : Nat} {W : World} {v : Value} {l : List It} (h : JtR B W v l) {i : Nat} {x : It} (hi : l[i]? = some x) : ∃ g cap, v = .slice (some ⟨g, 0, none⟩) l.length cap ∧
    W.cell? ⟨g, i * 5, none⟩ = some (.int .i64 x.t) ∧ W.cell? ⟨g, i * 5 + 1, none⟩ = some (.int .i64 x.s) ∧ W.cell? ⟨g, i * 5 + 2, none⟩ = some (.int .i64 x.a) ∧ W.cell? ⟨g, i * 5 + 3, none⟩ = some (.int .i64 x.b) ∧ W.cell? ⟨g, i * 5 + 4, none⟩ = some (.int .i64 x.c) := by
  rcases id h.2 with ⟨hv, hl⟩ | ⟨g, cap, cur, hv, _⟩
  · have := (List.getElem?_eq_some_iff.1 hi).1
    omega
  · have key : ∀ (j : Nat) (u : Value), (c5 x)[j]? = some u → W.cell? ⟨g, i * 5 + j, none⟩ = some u := fun j u hu => by
      have hj : j < 5 := (List.getElem?_eq_some_iff.1 hu).1
      have h1 := flat_at (f := c5) l i j x (fun y _ => c5_len y) hi hj
      have := World.ownsRow.cells h (g := g) (by rw [hv]; rfl) (i * 5 + j) u (by rw [h1, hu])
      rwa [at_add, Nat.zero_add] at this
    exact ⟨g, cap, hv, key 0 _ rfl, key 1 _ rfl, key 2 _ rfl, key 3 _ rfl, key 4 _ rfl⟩
theorem infoInt : ∃ i, Try.prog.info? 3 = some i := Option.isSome_iff_exists.1 (by kernel_rfl)
theorem eqKeyA (a b c : Int) (w : World) : (Op.equalIn 9999 48 (.agg #[.int .i64 a, .int .i64 b, .int .i64 c]) (.agg #[.int .i64 a, .int .i64 b, .int .i64 c])).run Try.prog w = .ok true w := by
  obtain ⟨i, hi⟩ := infoInt
  have hs : Try.prog.cellsOf 3 = 1 := by kernel_rfl
  have hu : Try.prog.underlying 48 = some (.array 3 3) := by kernel_rfl
  rw [run_equalIn_array (w := w) 9998 _ _ hu hi, hs]
  simp only [show List.range 3 = [0, 1, 2] by decide, Op.eqItems]
  go_simp
theorem neqItem (x : It) (w : World) : (binOp .neq 63 (itv x) (itv x)).run Try.prog w = .ok (.bool false) w := by
  have hA := eqKeyA x.a x.b x.c
  go_simp
def JsRel (W : World) (n g : Nat) (s13 : Value) (wr : World) : Prop := ∃ i : Nat, i + g = n ∧ s13 = .int .i64 i ∧ ∃ q, wr = W.drewN q
set_option maxHeartbeats 8000000 in
theorem isame_any {B B' : Nat} {W : World} {u u' : Value} {l : List It} (h : ItR B W u l) (h' : JtR B' W u' l) (hl : l.length ≤ 5000) : Calls Try.prog 11 #[u, u'] W fun e w' => e = .returned (.bool true) ∧ ∃ q, w' = W.drewN q := by
  obtain ⟨A, c, rfl⟩ := h.shape
  obtain ⟨A', c', rfl, _⟩ := row_shape h'
  have H := Lib.hid h
  have H' := Lib.hid h'
  have HL := Lib.hid hl
  clear h h' hl
  go_enter Try.func11, Try.ntmps11
  go_wp2
  go_loopg [13] l.length (fun g s13 wr => JsRel W l.length g s13 wr)
  case atStart => exact ⟨0, by omega, rfl, 0, rfl⟩
  case round =>
    obtain ⟨i, hig, rfl, q, rfl⟩ := hrel
    have hi9 : (i : Int) ≤ 5000 := by have := HL.out; omega
    cases gk with
    | zero =>
      have hin : ¬ (i : Int) < (l.length : Int) := by omega
      clear hig
      go_wp2
      go_ret
      exact ⟨rfl, q, rfl⟩
    | succ g =>
      have hin : (i : Int) < (l.length : Int) := by omega
      have hiz : (0 : Int) ≤ (i : Int) := by omega
      obtain ⟨x, hx⟩ : ∃ x, l[i]? = some x := ⟨_, List.getElem?_eq_getElem (by omega)⟩
      obtain ⟨g6, c6, e6, _, _, _⟩ := H.out.full (by omega)
      injection e6 with e6 _ e7
      subst e6
      subst e7
      obtain ⟨g7, c7, e8, q0, q1, q2, q3, q4⟩ := jt_at H'.out hx
      injection e8 with e8 _ e9
      subst e8
      subst e9
      obtain ⟨p0, p1, p2, p3, p4⟩ := H.out.at hx
      have hne := neqItem x
      have HI := Lib.hid (show i + 1 + g = l.length from by omega)
      unfold itv at hne
      generalize x.t = xt at *
      generalize x.s = xs at *
      generalize x.a = xa at *
      generalize x.b = xb at *
      generalize x.c = xc at *
      clear hig hx
      go_wp2
      go_quiet (fail)
      go_wp2
      go_roundg g
      case measure => exact Nat.lt_succ_self g
      case rel => exact ⟨i + 1, HI.out, by go_num, _, rfl⟩
end Go.Proofs.Ytagidmghmbfnpaa
