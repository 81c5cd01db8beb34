/-
  TEXTS OF INTEGERS, plain: what strconv reads and writes, and what the document does.
-/
import Derived.Test.YtaoelnfflkkeeaaGreatDoorVNum
import Derived.Lib.ParseIntB
import Derived.Lib.ItoaNum
namespace Go.Proofs.YtaoelnfflkkeeaaGreatDoor

/-- A decimal digit's byte. -/
def isD (c : UInt8) : Bool := decide (48 ≤ c.toNat ∧ c.toNat ≤ 57)
/-- The number of decimal digits behind acc. -/
def dval (acc : Nat) (l : List UInt8) : Nat := l.foldl (fun a c => a * 10 + (c.toNat - 48)) acc
theorem dval_nil (acc : Nat) : dval acc [] = acc := by unfold dval; rw [List.foldl_nil]
theorem dval_cons (acc : Nat) (c : UInt8) (l : List UInt8) : dval acc (c :: l) = dval (acc * 10 + (c.toNat - 48)) l := by unfold dval; rw [List.foldl_cons]
theorem dval_snoc (acc : Nat) (c : UInt8) (l : List UInt8) : dval acc (l ++ [c]) = dval acc l * 10 + (c.toNat - 48) := by unfold dval; simp
theorem dval_ge : ∀ (l : List UInt8) (acc : Nat), acc ≤ dval acc l
  | [], acc => by rw [dval_nil]; exact Nat.le_refl _
  | c :: l, acc => by rw [dval_cons]; have := dval_ge l (acc * 10 + (c.toNat - 48)); omega
theorem uintM_eq : ∀ (l : List UInt8) (acc : Nat), l.all isD = true → acc ≤ 18446744073709551615 →
    Lib.parseUintM 18446744073709551615 acc l = if dval acc l ≤ 18446744073709551615 then .ok (dval acc l) else .range
  | [], acc, _, ha => by unfold Lib.parseUintM; rw [dval_nil, if_pos ha]
  | c :: l, acc, hl, ha => by
    simp only [List.all_cons, Bool.and_eq_true] at hl
    have hc : 48 ≤ c.toNat ∧ c.toNat ≤ 57 := of_decide_eq_true hl.1
    have hg := dval_ge l (acc * 10 + (c.toNat - 48))
    unfold Lib.parseUintM
    rw [if_pos hc, dval_cons]
    by_cases h1 : 1844674407370955162 ≤ acc
    · rw [if_pos h1, if_neg (by omega)]
    · by_cases h2 : 18446744073709551615 < acc * 10 + (c.toNat - 48)
      · rw [if_neg h1, if_pos h2, if_neg (by omega)]
      · rw [if_neg h1, if_neg h2, uintM_eq l _ hl.2 (by omega)]
/-- What stands behind a sign. -/
def body : List UInt8 → List UInt8
  | [] => []
  | c :: r => if c.toNat = 43 ∨ c.toNat = 45 then r else c :: r
/-- Is it a text of an integer? -/
def isNum (l : List UInt8) : Bool := !(body l).isEmpty && (body l).all isD
/-- Is it below 0? -/
def neg (l : List UInt8) : Bool := decide (l.head?.map (·.toNat) = some 45)
/-- Its number. -/
def numZ (l : List UInt8) : Int := if neg l then -(dval 0 (body l) : Int) else dval 0 (body l)
theorem parse_ok (l : List UInt8) (h : isNum l = true) (h0 : -9223372036854775808 ≤ numZ l) (h1 : numZ l ≤ 9223372036854775807) : Lib.parseIntB 64 l = .ok (numZ l) := by
  unfold isNum at h
  rw [Bool.and_eq_true] at h
  match l with
  | [] => simp [body] at h
  | c :: r =>
    have hne : body (c :: r) ≠ [] := by intro e; rw [e] at h; simp at h
    have hu : Lib.parseUintB 64 (body (c :: r)) = if dval 0 (body (c :: r)) ≤ 18446744073709551615 then .ok (dval 0 (body (c :: r))) else .range := by
      unfold Lib.parseUintB
      rw [if_neg hne]
      exact uintM_eq _ 0 h.2 (by omega)
    have hb : (if c.toNat = 43 ∨ c.toNat = 45 then r else c :: r) = body (c :: r) := rfl
    unfold Lib.parseIntB
    simp only [hb]
    rw [hu]
    unfold numZ neg at *
    simp only [List.head?_cons, Option.map_some, Option.some.injEq] at *
    by_cases hc : c.toNat = 45
    · simp only [hc, decide_true, if_true] at *
      rw [if_pos (by omega)]
      simp only [not_true, false_and, if_false, true_and]
      rw [if_neg (by omega)]
    · simp only [hc, decide_false, if_false, Bool.false_eq_true] at *
      rw [if_pos (by omega)]
      simp only [not_false_eq_true, true_and, false_and, if_false]
      rw [if_neg (by omega)]
theorem parse_range (l : List UInt8) (h : isNum l = true) (h0 : ¬ (-9223372036854775808 ≤ numZ l ∧ numZ l ≤ 9223372036854775807)) : Lib.parseIntB 64 l = .range := by
  unfold isNum at h
  rw [Bool.and_eq_true] at h
  match l with
  | [] => simp [body] at h
  | c :: r =>
    have hne : body (c :: r) ≠ [] := by intro e; rw [e] at h; simp at h
    have hu : Lib.parseUintB 64 (body (c :: r)) = if dval 0 (body (c :: r)) ≤ 18446744073709551615 then .ok (dval 0 (body (c :: r))) else .range := by
      unfold Lib.parseUintB
      rw [if_neg hne]
      exact uintM_eq _ 0 h.2 (by omega)
    have hb : (if c.toNat = 43 ∨ c.toNat = 45 then r else c :: r) = body (c :: r) := rfl
    unfold Lib.parseIntB
    simp only [hb]
    rw [hu]
    unfold numZ neg at *
    simp only [List.head?_cons, Option.map_some, Option.some.injEq] at *
    by_cases hm : dval 0 (body (c :: r)) ≤ 18446744073709551615
    · rw [if_pos hm]
      by_cases hc : c.toNat = 45
      · simp only [hc, decide_true, if_true] at *
        simp only [not_true, false_and, if_false, true_and]
        rw [if_pos (by omega)]
      · simp only [hc, decide_false, if_false, Bool.false_eq_true] at *
        simp only [not_false_eq_true, true_and]
        rw [if_pos (by omega)]
    · rw [if_neg hm]

/-- The digits of bytes, the lowest first. -/
def digsOf (l : List UInt8) : List Int := l.reverse.map fun c => ((c.toNat - 48 : Nat) : Int)
theorem digsOf_dig {l : List UInt8} (h : l.all isD = true) : Dig (digsOf l) := by
  intro d hd
  simp only [digsOf, List.mem_map, List.mem_reverse] at hd
  obtain ⟨c, hc, rfl⟩ := hd
  have : 48 ≤ c.toNat ∧ c.toNat ≤ 57 := of_decide_eq_true (List.all_eq_true.1 h c hc)
  omega
theorem digsOf_snoc (l : List UInt8) (c : UInt8) : digsOf (l ++ [c]) = ((c.toNat - 48 : Nat) : Int) :: digsOf l := by simp [digsOf]
theorem digsOf_val (l : List UInt8) : val (digsOf l) = dval 0 l := by
  obtain ⟨n, hn⟩ : ∃ n, n = l.length := ⟨_, rfl⟩
  induction n generalizing l with
  | zero =>
    obtain rfl : l = [] := List.length_eq_zero_iff.1 hn.symm
    rw [dval_nil]; rfl
  | succ n ih =>
    obtain ⟨a, c, rfl⟩ : ∃ a c, l = a ++ [c] := ⟨l.dropLast, l.getLast (by intro e; rw [e] at hn; simp at hn), (List.dropLast_concat_getLast _).symm⟩
    rw [digsOf_snoc, dval_snoc, val, ih a (by simp at hn; omega)]; omega
end Go.Proofs.YtaoelnfflkkeeaaGreatDoor
