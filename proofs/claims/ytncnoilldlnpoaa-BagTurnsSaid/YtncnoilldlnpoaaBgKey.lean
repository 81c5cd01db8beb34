/-
  INTEGERS AND KEYS AS A MAP's KEYS.
-/
import Derived.Test.YtncnoilldlnpoaaBgMap
namespace Go.Proofs.Ytncnoilldlnpoaa
open Go.RowKit
set_option linter.unusedVariables false
set_option linter.unusedSimpArgs false
set_option maxRecDepth 100000

def iE (x : Int) : Value := .int .i64 x
theorem KLi : KL (α := Int) 3 iE where
  check k em w := by unfold iE; kernel_rfl
  stays k w := by simp [Instr.keyThatStays, Instr.sameBits, iE]
  find {β} encV k w E es h := by
    have hu := Try.underlying3
    have key : ∀ (E : List (Int × β)) (es : List MapEntry) (i : Nat), es.map kv = E.map (ce iE encV) → Instr.findNow (.int .i64) (iE k) es i = some ((posM k E).map fun q => (i + q.1, encV q.2)) := by
      intro E
      induction E with
      | nil =>
        intro es i h
        cases es with
        | nil => rfl
        | cons e es => simp at h
      | cons p E ih =>
        intro es i h
        cases es with
        | nil => simp at h
        | cons e es =>
          simp only [List.map_cons, List.cons.injEq, kv, ce, Prod.mk.injEq] at h
          obtain ⟨⟨h1, h2⟩, h3⟩ := h
          unfold Instr.findNow posM
          rw [h1]
          by_cases hp : p.1 = k
          · rw [if_pos hp]
            simp [iE, Instr.sameNow, hp, h2]
          · rw [if_neg hp]
            have hp2 : (k == p.1) = false := by simpa using fun e => hp e.symm
            simp only [iE, Instr.sameNow, if_true, hp2]
            rw [show Instr.findNow (.int .i64) (.int .i64 k) es (i + 1) = _ from ih es (i + 1) h3]
            cases posM k E with
            | none => rfl
            | some q => simp; omega
    have := key E es 0 h
    simp only [Nat.zero_add] at this
    simp [Instr.findKey, run_underlying hu, this, Result.andThen]
/-- A key. -/
abbrev Ky := Int × Int × Int
def kE (k : Ky) : Value := .agg #[.int .i64 k.1, .int .i64 k.2.1, .int .i64 k.2.2]
theorem infoInt : ∃ i, Try.prog.info? 3 = some i := ⟨_, rfl⟩
set_option maxHeartbeats 4000000 in
theorem keyEq (a b : Ky) (w : World) : (Op.equal 39 (kE a) (kE b)).run Try.prog w = .ok (decide (a = b)) w := by
  obtain ⟨xa, xb, xc⟩ := a
  obtain ⟨ya, yb, yc⟩ := b
  have hd : decide (((xa, xb, xc) : Ky) = (ya, yb, yc)) = (decide (xa = ya) && (decide (xb = yb) && decide (xc = yc))) := by
    rw [Bool.eq_iff_iff]; simp
  rw [hd]
  unfold kE
  dsimp only
  obtain ⟨i, hi⟩ := infoInt
  have hs : Try.prog.cellsOf 3 = 1 := by kernel_rfl
  have hu : Try.prog.underlying 39 = some (.array 3 3) := by kernel_rfl
  have hB := fun w => (run_equalIn_array (w := w) 9999 #[.int .i64 xa, .int .i64 xb, .int .i64 xc] #[.int .i64 ya, .int .i64 yb, .int .i64 yc] hu hi)
  rw [hs] at hB
  simp only [show List.range 3 = [0, 1, 2] by decide, Op.eqItems] at hB
  have hE : ∀ x y : Value, (Op.equal 39 x y) = Op.equalIn 10000 39 x y := fun _ _ => rfl
  rw [hE]
  clear hd
  by_cases h1 : xa = ya
  · subst h1
    by_cases h2 : xb = yb
    · subst h2
      by_cases h3 : xc = yc
      · subst h3
        simp only [decide_true, Bool.and_self]
        go_simp
      · have m3 : (xc == yc) = false := by rw [beq_eq_false_iff_ne]; exact h3
        simp only [decide_true, Bool.true_and, decide_eq_false h3]
        go_simp
    · have m2 : (xb == yb) = false := by rw [beq_eq_false_iff_ne]; exact h2
      simp only [decide_true, Bool.true_and, decide_eq_false h2, Bool.false_and]
      go_simp
  · have m1 : (xa == ya) = false := by rw [beq_eq_false_iff_ne]; exact h1
    simp only [decide_eq_false h1, Bool.false_and]
    go_simp
theorem KLk : KL (α := Ky) 39 kE where
  check k em w := by unfold kE; kernel_rfl
  stays k w := by simp [Instr.keyThatStays, Instr.sameBits, kE]
  find {β} encV k w E es h := by
    have ask : ∀ (E : List (Ky × β)) (es : List MapEntry) (i : Nat), es.map kv = E.map (ce kE encV) → (Instr.findAsking 39 (kE k) es i).run Try.prog w = .ok ((posM k E).map fun q => (i + q.1, encV q.2)) w := by
      intro E
      induction E with
      | nil =>
        intro es i h
        cases es with
        | nil => simp [Instr.findAsking, posM]
        | cons e es => simp at h
      | cons p E ih =>
        intro es i h
        cases es with
        | nil => simp at h
        | cons e es =>
          simp only [List.map_cons, List.cons.injEq, kv, ce, Prod.mk.injEq] at h
          obtain ⟨⟨h1, h2⟩, h3⟩ := h
          have hv := keyEq k p.1 w
          by_cases hp : p.1 = k
          · rw [decide_eq_true hp.symm] at hv
            rw [← h1] at hv
            simp only [Instr.findAsking, Sem.run_bind, hv, posM, hp, Result.andThen, if_true]
            simp [h2]
          · rw [decide_eq_false (fun e => hp e.symm)] at hv
            rw [← h1] at hv
            simp [Instr.findAsking, hv, posM, hp, Result.andThen, ih es (i + 1) h3]
            cases posM k E with
            | none => rfl
            | some q => simp; omega
    have ha := ask E es 0 h
    simp only [Nat.zero_add] at ha
    obtain ⟨d, hu, hs⟩ : ∃ d, Try.prog.underlying 39 = some d ∧ ∀ a b : Ky, Instr.sameNow d (kE a) (kE b) = none := ⟨_, Try.underlying39, fun a b => rfl⟩
    cases es with
    | nil =>
      cases E with
      | nil => simp [Instr.findKey, run_underlying hu, Instr.findNow, posM, Result.andThen]
      | cons p E => simp at h
    | cons e es =>
      cases E with
      | nil => simp at h
      | cons p E =>
        have h' := h
        simp only [List.map_cons, List.cons.injEq, kv, ce, Prod.mk.injEq] at h
        have hs' : Instr.sameNow d (kE k) e.key = none := by rw [h.1.1]; exact hs k p.1
        simp [Instr.findKey, run_underlying hu, Instr.findNow, hs', ha, Result.andThen]
theorem mapO : Try.prog.underlying 45 = some (.map 3 51) := by kernel_rfl
theorem mapI : Try.prog.underlying 51 = some (.map 39 3) := by kernel_rfl
theorem zeroC (w : World) : (zeroValue 51).run Try.prog w = .ok (.map none) w := by kernel_rfl
theorem zeroI (w : World) : (zeroValue 3).run Try.prog w = .ok (iE 0) w := by kernel_rfl
def mE (m : Nat) : Value := .map (some m)
end Go.Proofs.Ytncnoilldlnpoaa
