/-
  TEXTS OF INTEGERS, plain: what strconv reads and writes, and what the document does.
-/
import Derived.Test.YtfgjddljgpbgeaaDoorVNum
import Derived.Lib.ParseIntB
import Derived.Lib.ItoaNum
namespace Go.Proofs.YtfgjddljgpbgeaaDoor

/-- A decimal digit's byte. -/
def isD (c : UInt8) : Bool := decide (48 ≤ c.toNat ∧ c.toNat ≤ 57)
/-- The number of decimal digits behind acc. -/
def dval (acc : Nat) (l : List UInt8) : Nat := l.foldl (fun a c => a * 10 + (c.toNat - 48)) acc
theorem dval_nil (acc : Nat) : dval acc [] = acc := by unfold dval; rw [List.foldl_nil]
theorem dval_cons (acc : Nat) (c : UInt8) (l : List UInt8) : dval acc (c :: l) = dval (acc * 10 + (c.toNat - 48)) l := by unfold dval; rw [List.foldl_cons]
theorem dval_snoc (acc : Nat) (c : UInt8) (l : List UInt8) : dval acc (l ++ [c]) = dval acc l * 10 + (c.toNat - 48) := by unfold dval; simp
theorem dval_ge : ∀ (l : List UInt8) (acc : Nat), acc ≤ dval acc l
  | [], acc => by rw [dval_nil]; exact Nat.le_refl _
  | c :: l, acc => by rw [dval_cons]; have := dval_ge l (acc * 10 + (c.toNat - 48)); omega
theorem uintM_eq : ∀ (l : List UInt8) (acc : Nat), l.all isD = true → acc ≤ 18446744073709551615 →
    Lib.parseUintM 18446744073709551615 acc l = if dval acc l ≤ 18446744073709551615 then .ok (dval acc l) else .range
  | [], acc, _, ha => by unfold Lib.parseUintM; rw [dval_nil, if_pos ha]
  | c :: l, acc, hl, ha => by
    simp only [List.all_cons, Bool.and_eq_true] at hl
    have hc : 48 ≤ c.toNat ∧ c.toNat ≤ 57 := of_decide_eq_true hl.1
    have hg := dval_ge l (acc * 10 + (c.toNat - 48))
    unfold Lib.parseUintM
    rw [if_pos hc, dval_cons]
    by_cases h1 : 1844674407370955162 ≤ acc
    · rw [if_pos h1, if_neg (by omega)]
    · by_cases h2 : 18446744073709551615 < acc * 10 + (c.toNat - 48)
      · rw [if_neg h1, if_pos h2, if_neg (by omega)]
      · rw [if_neg h1, if_neg h2, uintM_eq l _ hl.2 (by omega)]
/-- What stands behind a sign. -/
def body : List UInt8 → List UInt8
  | [] => []
  | c :: r => if c.toNat = 43 ∨ c.toNat = 45 then r else c :: r
/-- Is it a text of an integer? -/
def isNum (l : List UInt8) : Bool := !(body l).isEmpty && (body l).all isD
/-- Is it below 0? -/
def neg (l : List UInt8) : Bool := decide (l.head?.map (·.toNat) = some 45)
/-- Its number. -/
def numZ (l : List UInt8) : Int := if neg l then -(dval 0 (body l) : Int) else dval 0 (body l)
theorem parse_ok (l : List UInt8) (h : isNum l = true) (h0 : -9223372036854775808 ≤ numZ l) (h1 : numZ l ≤ 9223372036854775807) : Lib.parseIntB 64 l = .ok (numZ l) := by
  unfold isNum at h
  rw [Bool.and_eq_true] at h
  match l with
  | [] => simp [body] at h
  | c :: r =>
    have hne : body (c :: r) ≠ [] := by intro e; rw [e] at h; simp at h
    have hu : Lib.parseUintB 64 (body (c :: r)) = if dval 0 (body (c :: r)) ≤ 18446744073709551615 then .ok (dval 0 (body (c :: r))) else .range := by
      unfold Lib.parseUintB
      rw [if_neg hne]
      exact uintM_eq _ 0 h.2 (by omega)
    have hb : (if c.toNat = 43 ∨ c.toNat = 45 then r else c :: r) = body (c :: r) := rfl
    unfold Lib.parseIntB
    simp only [hb]
    rw [hu]
    unfold numZ neg at *
    simp only [List.head?_cons, Option.map_some, Option.some.injEq] at *
    by_cases hc : c.toNat = 45
    · simp only [hc, decide_true, if_true] at *
      rw [if_pos (by omega)]
      simp only [not_true, false_and, if_false, true_and]
      rw [if_neg (by omega)]
    · simp only [hc, decide_false, if_false, Bool.false_eq_true] at *
      rw [if_pos (by omega)]
      simp only [not_false_eq_true, true_and, false_and, if_false]
      rw [if_neg (by omega)]
theorem parse_range (l : List UInt8) (h : isNum l = true) (h0 : ¬ (-9223372036854775808 ≤ numZ l ∧ numZ l ≤ 9223372036854775807)) : Lib.parseIntB 64 l = .range := by
  unfold isNum at h
  rw [Bool.and_eq_true] at h
  match l with
  | [] => simp [body] at h
  | c :: r =>
    have hne : body (c :: r) ≠ [] := by intro e; rw [e] at h; simp at h
    have hu : Lib.parseUintB 64 (body (c :: r)) = if dval 0 (body (c :: r)) ≤ 18446744073709551615 then .ok (dval 0 (body (c :: r))) else .range := by
      unfold Lib.parseUintB
      rw [if_neg hne]
      exact uintM_eq _ 0 h.2 (by omega)
    have hb : (if c.toNat = 43 ∨ c.toNat = 45 then r else c :: r) = body (c :: r) := rfl
    unfold Lib.parseIntB
    simp only [hb]
    rw [hu]
    unfold numZ neg at *
    simp only [List.head?_cons, Option.map_some, Option.some.injEq] at *
    by_cases hm : dval 0 (body (c :: r)) ≤ 18446744073709551615
    · rw [if_pos hm]
      by_cases hc : c.toNat = 45
      · simp only [hc, decide_true, if_true] at *
        simp only [not_true, false_and, if_false, true_and]
        rw [if_pos (by omega)]
      · simp only [hc, decide_false, if_false, Bool.false_eq_true] at *
        simp only [not_false_eq_true, true_and]
        rw [if_pos (by omega)]
    · rw [if_neg hm]

/-- The decimal digits' bytes of digits, the lowest first. -/
def chars (l : List Int) : List UInt8 := l.reverse.map fun d => UInt8.ofNat (48 + d.toNat)
theorem chars_digs : ∀ n : Nat, 0 < n → Lib.decDigits n = chars (digs n) := by
  intro n
  induction n using Nat.strongRecOn with
  | _ n ih =>
    intro hn
    rw [Lib.decDigits, digs_pos hn]
    by_cases h : n < 10
    · rw [dif_pos h, show n / 10 = 0 by omega, digs_zero]
      simp only [chars, List.reverse_cons, List.reverse_nil, List.nil_append, List.map_cons, List.map_nil, Int.toNat_natCast]
      rw [show n % 10 = n by omega]
    · rw [dif_neg h, ih _ (by omega) (by omega)]
      simp only [chars, List.reverse_cons, List.map_append, List.map_cons, List.map_nil, Int.toNat_natCast]
/-- The text of an integer. -/
def textZ (z : Int) : List UInt8 := if z = 0 then [48] else (if z < 0 then [45] else []) ++ chars (digs z.natAbs)
theorem itoa_text (z : Int) : Lib.itoa z = textZ z := by
  unfold Lib.itoa textZ
  by_cases h0 : z = 0
  · subst h0; rw [if_neg (by decide), if_pos rfl]; show Lib.decDigits 0 = _; rw [Lib.decDigits_one (by decide)]; rfl
  · rw [if_neg h0]
    by_cases h : z < 0
    · rw [if_pos h, if_pos h, chars_digs _ (by omega)]; rfl
    · rw [if_neg h, if_neg h, show z.toNat = z.natAbs by omega, chars_digs _ (by omega)]; rfl
/-- The digits of bytes, the lowest first. -/
def digsOf (l : List UInt8) : List Int := l.reverse.map fun c => ((c.toNat - 48 : Nat) : Int)
theorem digsOf_dig {l : List UInt8} (h : l.all isD = true) : Dig (digsOf l) := by
  intro d hd
  simp only [digsOf, List.mem_map, List.mem_reverse] at hd
  obtain ⟨c, hc, rfl⟩ := hd
  have : 48 ≤ c.toNat ∧ c.toNat ≤ 57 := of_decide_eq_true (List.all_eq_true.1 h c hc)
  omega
theorem digsOf_snoc (l : List UInt8) (c : UInt8) : digsOf (l ++ [c]) = ((c.toNat - 48 : Nat) : Int) :: digsOf l := by simp [digsOf]
theorem digsOf_val (l : List UInt8) : val (digsOf l) = dval 0 l := by
  obtain ⟨n, hn⟩ : ∃ n, n = l.length := ⟨_, rfl⟩
  induction n generalizing l with
  | zero =>
    obtain rfl : l = [] := List.length_eq_zero_iff.1 hn.symm
    rw [dval_nil]; rfl
  | succ n ih =>
    obtain ⟨a, c, rfl⟩ : ∃ a c, l = a ++ [c] := ⟨l.dropLast, l.getLast (by intro e; rw [e] at hn; simp at hn), (List.dropLast_concat_getLast _).symm⟩
    rw [digsOf_snoc, dval_snoc, val, ih a (by simp at hn; omega)]; omega
theorem chars_all {l : List Int} (h : Dig l) : (chars l).all isD = true := by
  rw [List.all_eq_true]
  intro c hc
  simp only [chars, List.mem_map, List.mem_reverse] at hc
  obtain ⟨d, hd, rfl⟩ := hc
  have := h d hd
  unfold isD
  rw [decide_eq_true_eq]
  have : (UInt8.ofNat (48 + d.toNat)).toNat = 48 + d.toNat := by simp; omega
  omega
theorem chars_back {l : List Int} (h : Dig l) : digsOf (chars l) = l := by
  unfold digsOf chars
  simp only [List.map_reverse, List.reverse_reverse, List.map_map]
  conv => rhs; rw [← List.map_id l]
  apply List.map_congr_left
  intro d hd
  have := h d hd
  have e : (UInt8.ofNat (48 + d.toNat)).toNat = 48 + d.toNat := by simp; omega
  simp only [Function.comp, e, id]
  omega
theorem chars_dval {l : List Int} (h : Dig l) : (dval 0 (chars l) : Int) = val l := by rw [← digsOf_val, chars_back h]
/-- Noughts ahead change nothing. -/
theorem dval_zeros (k : Nat) (l : List UInt8) : dval 0 (List.replicate k 48 ++ l) = dval 0 l := by
  induction k with
  | zero => rfl
  | succ k ih => rw [List.replicate_succ, List.cons_append, dval_cons]; exact ih
end Go.Proofs.YtfgjddljgpbgeaaDoor
