/-
  bag.Same: the same contents?
-/
import Derived.Test.YtncnoilldlnpoaaBgEnt
namespace Go.Proofs.Ytncnoilldlnpoaa
open Go.RowKit
set_option linter.unusedVariables false
set_option linter.unusedSimpArgs false
set_option maxRecDepth 100000

theorem entKey (x y : Ky) (w : World) : (Op.equalIn 9999 39 (kE x) (kE y)).run Try.prog w = .ok (decide (x = y)) w := by
  obtain ⟨xa, xb, xc⟩ := x
  obtain ⟨ya, yb, yc⟩ := y
  have hd : decide (((xa, xb, xc) : Ky) = (ya, yb, yc)) = (decide (xa = ya) && (decide (xb = yb) && decide (xc = yc))) := by
    rw [Bool.eq_iff_iff]; simp
  rw [hd]
  unfold kE
  dsimp only
  obtain ⟨i, hi⟩ := infoInt
  have hs : Try.prog.cellsOf 3 = 1 := by kernel_rfl
  have hu : Try.prog.underlying 39 = some (.array 3 3) := by kernel_rfl
  have hB := fun w => (run_equalIn_array (w := w) 9998 #[.int .i64 xa, .int .i64 xb, .int .i64 xc] #[.int .i64 ya, .int .i64 yb, .int .i64 yc] hu hi)
  rw [hs] at hB
  simp only [show List.range 3 = [0, 1, 2] by decide, Op.eqItems] at hB
  clear hd
  by_cases h1 : xa = ya
  · subst h1
    by_cases h2 : xb = yb
    · subst h2
      by_cases h3 : xc = yc
      · subst h3
        simp only [decide_true, Bool.and_self]
        go_simp
      · have m3 : (xc == yc) = false := by rw [beq_eq_false_iff_ne]; exact h3
        simp only [decide_true, Bool.true_and, decide_eq_false h3]
        go_simp
    · have m2 : (xb == yb) = false := by rw [beq_eq_false_iff_ne]; exact h2
      simp only [decide_true, Bool.true_and, decide_eq_false h2, Bool.false_and]
      go_simp
  · have m1 : (xa == ya) = false := by rw [beq_eq_false_iff_ne]; exact h1
    simp only [decide_eq_false h1, Bool.false_and]
    go_simp
theorem entNeq (x y : Ky × Nat) (w : World) : (binOp .neq 41 (.agg (entC x).toArray) (.agg (entC y).toArray)).run Try.prog w = .ok (.bool (!decide (x = y))) w := by
  have hk := entKey x.1 y.1 w
  have hd : decide (x = y) = (decide (x.1 = y.1) && decide (x.2 = y.2)) := by
    rw [Bool.eq_iff_iff]; simp [Prod.ext_iff]
  rw [hd]
  unfold entC
  unfold kE at hk
  obtain ⟨k, n⟩ := x
  obtain ⟨k', n'⟩ := y
  dsimp only at hk ⊢
  by_cases h1 : k = k'
  · subst h1
    simp only [decide_true, Bool.true_and] at hk ⊢
    by_cases h2 : n = n'
    · subst h2
      go_simp
    · have m : ((n : Int) == (n' : Int)) = false := by rw [beq_eq_false_iff_ne]; omega
      rw [decide_eq_false h2]
      go_simp
  · rw [decide_eq_false h1] at hk ⊢
    simp only [Bool.false_and]
    go_simp
theorem EnA.below {w w' : World} {v : Value} {L : List (Ky × Nat)} (h : EnA w v L) (hb : Below w.heap.size w w') : EnA w' v L := by
  obtain ⟨g, c, h1, h2, h3⟩ := h
  refine ⟨g, c, h1, h2, fun j x hj u hu => ?_⟩
  have h4 := h3 j x hj u hu
  have h5 : (entC x)[u]? = some (entC x)[u] := List.getElem?_eq_getElem (by simpa [entC] using hu)
  rw [h5] at h4 ⊢
  have hl := World.block_lt_of_cell? _ _ h4
  exact (hb.cell hl).trans h4
theorem take_snoc {α : Type} {A B : List α} {i : Nat} {x : α} (h : A.take i = B.take i) (ha : A[i]? = some x) (hb : B[i]? = some x) : A.take (i + 1) = B.take (i + 1) := by
  rw [List.take_add_one, List.take_add_one, h, ha, hb]
set_option maxHeartbeats 8000000 in
theorem gequal_any {W : World} {v1 v2 : Value} {A C : List (Ky × Nat)} (h1 : EnA W v1 A) (h2 : EnA W v2 C) :
    Calls Try.prog 16 #[v1, v2] W fun e w' => e = .returned (.bool (decide (A = C))) ∧ Below W.heap.size W w' := by
  obtain ⟨g, c, rfl, hA9, hA⟩ := h1
  obtain ⟨g2, c2, rfl, hC9, hC⟩ := h2
  by_cases hl : A.length = C.length
  · have HA := Lib.hid hA
    have HC := Lib.hid hC
    have HLL := Lib.hid hl
    have hn1 : ((A.length : Int) == (C.length : Int)) = true := by rw [hl]; simp
    have HN := Lib.hid (fun (x y : Ky × Nat) (w : World) => entNeq x y w)
    have ha9 : (A.length : Int) ≤ 100000 := by omega
    have ha0 : (0 : Int) ≤ (A.length : Int) := by omega
    clear hA hC hC9
    have hcl : C.length = A.length := hl.symm
    rw [hcl] at *
    clear hl hcl
    go_enter Try.func16, Try.ntmps16
    go_wp2
    go_loopg [13] A.length (fun gk s13 wr => ∃ i : Nat, s13 = .int .i64 (i : Int) ∧ i ≤ A.length ∧ A.length - i ≤ gk ∧ A.take i = C.take i ∧ ∃ q, wr = W.drewN q)
    case atStart => exact ⟨0, rfl, Nat.zero_le _, by omega, rfl, 0, rfl⟩
    case round =>
      obtain ⟨i, rfl, hi, hgk, htk, q, rfl⟩ := hrel
      by_cases hlt : i < A.length
      · obtain ⟨x, hx⟩ : ∃ x, A[i]? = some x := ⟨_, List.getElem?_eq_getElem hlt⟩
        obtain ⟨y, hy⟩ : ∃ y, C[i]? = some y := ⟨_, List.getElem?_eq_getElem (by have := HLL.out; omega)⟩
        have x0 : (W.drewN q).cell? ⟨g, i * 4, none⟩ = some (.int .i64 x.1.1) := HA.out i x hx 0 (by omega)
        have x1 : (W.drewN q).cell? ⟨g, i * 4 + 1, none⟩ = some (.int .i64 x.1.2.1) := HA.out i x hx 1 (by omega)
        have x2 : (W.drewN q).cell? ⟨g, i * 4 + 2, none⟩ = some (.int .i64 x.1.2.2) := HA.out i x hx 2 (by omega)
        have x3 : (W.drewN q).cell? ⟨g, i * 4 + 3, none⟩ = some (.int .i64 (x.2 : Int)) := HA.out i x hx 3 (by omega)
        have y0 : (W.drewN q).cell? ⟨g2, i * 4, none⟩ = some (.int .i64 y.1.1) := HC.out i y hy 0 (by omega)
        have y1 : (W.drewN q).cell? ⟨g2, i * 4 + 1, none⟩ = some (.int .i64 y.1.2.1) := HC.out i y hy 1 (by omega)
        have y2 : (W.drewN q).cell? ⟨g2, i * 4 + 2, none⟩ = some (.int .i64 y.1.2.2) := HC.out i y hy 2 (by omega)
        have y3 : (W.drewN q).cell? ⟨g2, i * 4 + 3, none⟩ = some (.int .i64 (y.2 : Int)) := HC.out i y hy 3 (by omega)
        have hne := HN.out x y
        have hi0 : (0 : Int) ≤ (i : Int) := by omega
        have hi1 : (i : Int) < (A.length : Int) := by omega
        have hi2 : (i : Int) + 1 ≤ 100000 := by omega
        have HLT := Lib.hid hlt
        have HGK := Lib.hid hgk
        have HTK := Lib.hid htk
        have HX := Lib.hid hx
        have HY := Lib.hid hy
        by_cases hxy : x = y
        · rw [decide_eq_true hxy] at hne
          unfold entC at hne
          have HXY := Lib.hid hxy
          clear hlt hgk htk hx hy hi hxy
          go_wp2
          go_region_held3 (fun w => w.cell? ⟨g, i * 4, none⟩ = some (.int .i64 x.1.1) ∧ w.cell? ⟨g, i * 4 + 1, none⟩ = some (.int .i64 x.1.2.1) ∧ w.cell? ⟨g, i * 4 + 2, none⟩ = some (.int .i64 x.1.2.2) ∧ w.cell? ⟨g, i * 4 + 3, none⟩ = some (.int .i64 (x.2 : Int)) ∧ w.cell? ⟨g2, i * 4, none⟩ = some (.int .i64 y.1.1) ∧ w.cell? ⟨g2, i * 4 + 1, none⟩ = some (.int .i64 y.1.2.1) ∧ w.cell? ⟨g2, i * 4 + 2, none⟩ = some (.int .i64 y.1.2.2) ∧ w.cell? ⟨g2, i * 4 + 3, none⟩ = some (.int .i64 (y.2 : Int)))
            (exact ⟨x0, x1, x2, x3, y0, y1, y2, y3⟩) (fail)
          all_goals
            go_wp2
            go_roundg (A.length - (i + 1))
            case measure => have := HGK.out; have := HLT.out; omega
            case rel => exact ⟨i + 1, by rw [Int.natCast_add]; rfl, HLT.out, Nat.le_refl _, take_snoc HTK.out HX.out (HXY.out ▸ HY.out), q + 1, rfl⟩
        · rw [decide_eq_false hxy] at hne
          unfold entC at hne
          have HAC := Lib.hid (show A ≠ C from fun e => hxy (by rw [e, hy] at hx; injection hx with hx; exact hx.symm))
          clear hlt hgk htk hx hy hi hxy
          go_wp2
          go_region_held3 (fun w => w.cell? ⟨g, i * 4, none⟩ = some (.int .i64 x.1.1) ∧ w.cell? ⟨g, i * 4 + 1, none⟩ = some (.int .i64 x.1.2.1) ∧ w.cell? ⟨g, i * 4 + 2, none⟩ = some (.int .i64 x.1.2.2) ∧ w.cell? ⟨g, i * 4 + 3, none⟩ = some (.int .i64 (x.2 : Int)) ∧ w.cell? ⟨g2, i * 4, none⟩ = some (.int .i64 y.1.1) ∧ w.cell? ⟨g2, i * 4 + 1, none⟩ = some (.int .i64 y.1.2.1) ∧ w.cell? ⟨g2, i * 4 + 2, none⟩ = some (.int .i64 y.1.2.2) ∧ w.cell? ⟨g2, i * 4 + 3, none⟩ = some (.int .i64 (y.2 : Int)))
            (exact ⟨x0, x1, x2, x3, y0, y1, y2, y3⟩) (fail)
          all_goals
            go_wp2
            go_ret
            exact ⟨by rw [decide_eq_false HAC.out]; rfl, below_drewP (Below.refl _ _) (q + 1)⟩
      · obtain rfl : i = A.length := by omega
        have HAC := Lib.hid (show A = C from by
          rw [List.take_length] at htk
          rw [htk]
          exact List.take_of_length_le (by have := HLL.out; omega))
        clear hlt hgk htk hi
        go_wp2
        go_ret
        exact ⟨by rw [decide_eq_true HAC.out]; rfl, below_drewP (Below.refl _ _) _⟩
  · have hn1 : ((A.length : Int) == (C.length : Int)) = false := by rw [beq_eq_false_iff_ne]; omega
    have hn2 : ¬ (A.length : Int) = (C.length : Int) := by omega
    have HAC := Lib.hid (show A ≠ C from fun e => hl (by rw [e]))
    clear hA hC
    go_enter Try.func16, Try.ntmps16
    go_wp2
    go_ret
    exact ⟨by rw [decide_eq_false HAC.out]; rfl, Below.refl _ _⟩
theorem gsame_any {W : World} {v1 v2 : Value} {A C : List (Ky × Nat)} (h1 : EnA W v1 A) (h2 : EnA W v2 C) :
    Calls Try.prog 9 #[v1, v2] W fun e w' => e = .returned (.bool (decide (A = C))) ∧ Below W.heap.size W w' := by
  have cE := gequal_any h1 h2
  obtain ⟨g, c, rfl, _⟩ := h1
  obtain ⟨g2, c2, rfl, _⟩ := h2
  generalize decide (A = C) = b at *
  go_enter Try.func9, Try.ntmps9
  go_wp2_with (go_at_call 16; (with_reducible refine cE.mono ?_); rintro e w5 ⟨rfl, hb⟩)
  go_ret
  exact ⟨rfl, hb⟩
end Go.Proofs.Ytncnoilldlnpoaa
