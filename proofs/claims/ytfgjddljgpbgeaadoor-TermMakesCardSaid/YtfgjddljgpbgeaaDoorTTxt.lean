/-
  THE TEXT OF AN INTEGER IS ONE OF IT, plain.
-/
import Derived.Test.YtfgjddljgpbgeaaDoorVParse
namespace Go.Proofs.YtfgjddljgpbgeaaDoor

theorem chars_lenT (l : List Int) : (chars l).length = l.length := by simp [chars]
theorem body_consT (c : UInt8) (r : List UInt8) : body (c :: r) = if c.toNat = 43 ∨ c.toNat = 45 then r else c :: r := rfl
theorem neg_consT (c : UInt8) (r : List UInt8) : neg (c :: r) = decide (c.toNat = 45) := by unfold neg; simp
theorem textZ_negT {n : Int} (h : n < 0) : textZ n = 45 :: chars (digs n.natAbs) := by
  unfold textZ
  rw [if_neg (by omega), if_pos h]; rfl
/-- Of no sign: digits only, and their number is it. -/
theorem textZ_posT {n : Int} (h : 0 ≤ n) : (textZ n).all isD = true ∧ textZ n ≠ [] ∧ (dval 0 (textZ n) : Int) = n := by
  by_cases h0 : n = 0
  · subst h0; exact ⟨by decide, by decide, by decide⟩
  · have e : textZ n = chars (digs n.natAbs) := by
      unfold textZ
      rw [if_neg h0, if_neg (by omega)]; rfl
    have hd := digs_dig n.natAbs
    refine ⟨by rw [e]; exact chars_all hd, ?_, by rw [e, chars_dval hd, digs_val]; omega⟩
    rw [e]
    intro hc
    have := congrArg List.length hc
    rw [chars_lenT] at this
    have := digs_nil.1 (List.length_eq_zero_iff.1 this)
    omega
theorem zeros_allT (k : Nat) : (List.replicate k (48 : UInt8)).all isD = true := by
  rw [List.all_eq_true]
  intro c hc
  rw [List.eq_of_mem_replicate hc]; decide
theorem minus_numT {n : Int} (h : n < 0) (k : Nat) : isNum (45 :: (List.replicate k 48 ++ chars (digs n.natAbs))) = true ∧ numZ (45 :: (List.replicate k 48 ++ chars (digs n.natAbs))) = n := by
  have hd := digs_dig n.natAbs
  have e : body (45 :: (List.replicate k 48 ++ chars (digs n.natAbs))) = List.replicate k 48 ++ chars (digs n.natAbs) := rfl
  constructor
  · unfold isNum
    rw [e, List.all_append, zeros_allT, chars_all hd]
    have : (List.replicate k 48 ++ chars (digs n.natAbs)).isEmpty = false := by
      rw [List.isEmpty_eq_false_iff]
      intro hc
      have := congrArg List.length (List.append_eq_nil_iff.1 hc).2
      rw [chars_lenT] at this
      have := digs_nil.1 (List.length_eq_zero_iff.1 this)
      omega
    rw [this]; rfl
  · unfold numZ
    rw [if_pos (by unfold neg; simp), e, dval_zeros, chars_dval hd, digs_val]; omega
theorem body_digitT {l : List UInt8} (h : l.all isD = true) (hne : l ≠ []) : body l = l ∧ neg l = false := by
  cases l with
  | nil => exact absurd rfl hne
  | cons c r =>
    have hc : isD c = true := by rw [List.all_cons, Bool.and_eq_true] at h; exact h.1
    have hd : 48 ≤ c.toNat ∧ c.toNat ≤ 57 := of_decide_eq_true hc
    refine ⟨by rw [body_consT, if_neg (by omega)], by rw [neg_consT, decide_eq_false (by omega)]⟩
theorem textZ_numT (n : Int) : isNum (textZ n) = true ∧ numZ (textZ n) = n := by
  by_cases h : n < 0
  · have := minus_numT h 0
    rw [List.replicate_zero, List.nil_append] at this
    rw [textZ_negT h]
    exact this
  · obtain ⟨a, b, c⟩ := textZ_posT (show 0 ≤ n by omega)
    obtain ⟨d, e⟩ := body_digitT a b
    constructor
    · unfold isNum
      rw [d, a]
      have : (textZ n).isEmpty = false := by rw [List.isEmpty_eq_false_iff]; exact b
      rw [this]; rfl
    · unfold numZ
      rw [if_neg (by rw [e]; decide), d, c]
theorem textZ_inj {a b : Int} (h : textZ a = textZ b) : a = b := by
  have := (textZ_numT a).2
  rw [h, (textZ_numT b).2] at this
  exact this.symm
end Go.Proofs.YtfgjddljgpbgeaaDoor
