/-
  MERGED (a claim has at most 60 files): VTru, VNum, VParse, VNumb.
-/
import Derived.Test.YtpnfjjgihkmjmaaGreatDoorProg
import Derived.WalkKit
import Derived.Below
import Derived.IntWalk
import Derived.Lib.Hide
import Derived.Deep.LoopGhost
import Derived.Lib.ParseIntB
import Derived.Lib.ItoaNum
import Derived.Lib.OthersKept
import Derived.Lib.DecodeN
import Derived.Lib.Strings
/-
  TRUTHS IN MEMORY; value.Of.
-/
namespace Go.Proofs.YtpnfjjgihkmjmaaGreatDoor
open Go.RowKit
set_option linter.unusedVariables false

theorem ret_u8 {a b : Int} (h : a = b) : Ending.returned (.int .u8 a) = .returned (.int .u8 b) := by rw [h]
theorem drop_get {l : List Int} {j : Nat} {x : Int} (h : l[j]? = some x) : l.drop j = x :: l.drop (j + 1) := by
  have hj := (List.getElem?_eq_some_iff.1 h).1
  rw [List.drop_eq_getElem_cons hj, (List.getElem?_eq_some_iff.1 h).2]
theorem of_any (b : Bool) (w : World) : Calls Tryz.prog 60 #[.bool b] w fun e w' => e = .returned (.int .u8 (if b then 1 else 0)) ∧ w = w' := by
  cases b
  all_goals
    go_enter Tryz.func60, Tryz.ntmps60
    go_wp2
    go_ret
    exact ⟨rfl, rfl⟩
end Go.Proofs.YtpnfjjgihkmjmaaGreatDoor

/-
  NUMBERS AS DECIMAL DIGITS, the lowest first: plain.
-/
namespace Go.Proofs.YtpnfjjgihkmjmaaGreatDoor

/-- The value of digits. -/
def val : List Int → Int
  | [] => 0
  | d :: l => d + 10 * val l
/-- Each is a digit. -/
def Dig (l : List Int) : Prop := ∀ d ∈ l, 0 ≤ d ∧ d ≤ 9
/-- None is below 0. -/
def Non (l : List Int) : Prop := ∀ d ∈ l, 0 ≤ d
/-- The digits of a number, none of them a nought ahead. -/
def digs (n : Nat) : List Int := if n = 0 then [] else ((n % 10 : Nat) : Int) :: digs (n / 10)
termination_by n
decreasing_by omega
theorem digs_zero : digs 0 = [] := by unfold digs; rfl
theorem digs_pos {n : Nat} (h : 0 < n) : digs n = ((n % 10 : Nat) : Int) :: digs (n / 10) := by rw [digs, if_neg (by omega)]
theorem digs_nil {n : Nat} : digs n = [] ↔ n = 0 := by
  constructor
  · intro h
    by_cases hn : n = 0
    · exact hn
    · rw [digs_pos (by omega)] at h; cases h
  · rintro rfl; exact digs_zero

theorem Dig.tail {d : Int} {l : List Int} (h : Dig (d :: l)) : Dig l := fun x hx => h x (List.mem_cons_of_mem _ hx)
theorem Dig.head {d : Int} {l : List Int} (h : Dig (d :: l)) : 0 ≤ d ∧ d ≤ 9 := h d (List.mem_cons_self ..)
theorem Dig.cons {d : Int} {l : List Int} (h0 : 0 ≤ d) (h9 : d ≤ 9) (h : Dig l) : Dig (d :: l) := by
  intro x hx
  rcases List.mem_cons.1 hx with rfl | hx
  · exact ⟨h0, h9⟩
  · exact h x hx
theorem dig_nil : Dig [] := fun _ h => by cases h
theorem Dig.append {a b : List Int} (h : Dig a) (k : Dig b) : Dig (a ++ b) := by
  intro x hx
  rcases List.mem_append.1 hx with hx | hx
  · exact h x hx
  · exact k x hx
theorem Dig.snoc {a : List Int} {d : Int} (h : Dig a) (h0 : 0 ≤ d) (h9 : d ≤ 9) : Dig (a ++ [d]) := h.append (Dig.cons h0 h9 dig_nil)
theorem Dig.drop {a : List Int} (h : Dig a) (k : Nat) : Dig (a.drop k) := fun x hx => h x (List.mem_of_mem_drop hx)
theorem Dig.take {a : List Int} (h : Dig a) (k : Nat) : Dig (a.take k) := fun x hx => h x (List.mem_of_mem_take hx)
theorem Dig.at {a : List Int} (h : Dig a) {j : Nat} {x : Int} (hx : a[j]? = some x) : 0 ≤ x ∧ x ≤ 9 := h x (List.mem_of_getElem? hx)
theorem Dig.non {a : List Int} (h : Dig a) : Non a := fun x hx => (h x hx).1

theorem val_append : ∀ (a b : List Int), val (a ++ b) = val a + 10 ^ a.length * val b
  | [], b => by simp [val]
  | d :: a, b => by
    have := val_append a b
    simp only [List.cons_append, val, this, List.length_cons, Int.pow_succ]
    rw [Int.mul_add, Int.add_assoc]
    congr 2
    rw [← Int.mul_assoc, Int.mul_comm 10]
theorem val_snoc (a : List Int) (d : Int) : val (a ++ [d]) = val a + 10 ^ a.length * d := by rw [val_append]; simp [val]
theorem non_val : ∀ {l : List Int}, Non l → 0 ≤ val l
  | [], _ => by simp [val]
  | d :: l, h => by
    have h1 := non_val (l := l) (fun x hx => h x (List.mem_cons_of_mem _ hx))
    have h2 := h d (List.mem_cons_self ..)
    simp only [val]; omega
theorem pow_pos10 (n : Nat) : (0 : Int) < 10 ^ n := Int.pow_pos (by decide)
theorem dig_val : ∀ {l : List Int}, Dig l → 0 ≤ val l ∧ val l < 10 ^ l.length
  | [], _ => by simp [val]
  | d :: l, h => by
    have h1 := dig_val h.tail
    have h2 := h.head
    simp only [val, List.length_cons, Int.pow_succ]
    omega
theorem drop_step {l : List Int} {j : Nat} {x : Int} (h : l[j]? = some x) : val (l.drop j) = x + 10 * val (l.drop (j + 1)) := by
  have hj := (List.getElem?_eq_some_iff.1 h).1
  rw [List.drop_eq_getElem_cons hj, (List.getElem?_eq_some_iff.1 h).2]; rfl
theorem drop_end {l : List Int} {j : Nat} (h : l.length ≤ j) : val (l.drop j) = 0 := by rw [List.drop_eq_nil_of_le h]; rfl

theorem digs_dig (n : Nat) : Dig (digs n) := by
  induction n using Nat.strongRecOn with
  | _ n ih =>
    by_cases hn : n = 0
    · subst hn; rw [digs_zero]; exact dig_nil
    · rw [digs_pos (by omega)]
      exact Dig.cons (by omega) (by omega) (ih _ (by omega))
theorem digs_val (n : Nat) : val (digs n) = n := by
  induction n using Nat.strongRecOn with
  | _ n ih =>
    by_cases hn : n = 0
    · subst hn; rw [digs_zero]; rfl
    · rw [digs_pos (by omega), val, ih _ (by omega)]; omega
theorem digs_inj {m n : Nat} (h : digs m = digs n) : m = n := by
  have := digs_val m
  rw [h, digs_val] at this
  omega
/-- Digits without a nought ahead are those of their value. -/
theorem digs_of : ∀ {l : List Int}, Dig l → (∀ a, l ≠ a ++ [0]) → l = digs (val l).toNat
  | [], _, _ => by simp [val, digs_zero]
  | d :: l, h, hz => by
    have h1 := dig_val h.tail
    have h2 := h.head
    have hpos : 0 < val (d :: l) := by
      by_cases hl : l = []
      · subst hl
        have : d ≠ 0 := fun e => hz [] (by rw [e]; rfl)
        simp only [val]; omega
      · have ih := digs_of h.tail (fun a e => hz (d :: a) (by rw [e]; rfl))
        have : 0 < val l := by
          rcases Int.lt_or_eq_of_le h1.1 with h | h
          · exact h
          · rw [← h] at ih; simp [digs_zero] at ih; exact absurd ih hl
        simp only [val]; omega
    have ih := digs_of h.tail (fun a e => hz (d :: a) (by rw [e]; rfl))
    rw [digs_pos (by omega)]
    have e1 : (((val (d :: l)).toNat % 10 : Nat) : Int) = d := by simp only [val] at *; omega
    have e2 : (val (d :: l)).toNat / 10 = (val l).toNat := by simp only [val] at *; omega
    rw [e1, e2, ← ih]
theorem digs_top {n : Nat} {a : List Int} (h : digs n = a ++ [0]) : False := by
  induction n using Nat.strongRecOn generalizing a with
  | _ n ih =>
    by_cases hn : n = 0
    · subst hn; rw [digs_zero] at h; exact absurd h (by simp)
    · rw [digs_pos (by omega)] at h
      match a with
      | [] =>
        simp at h
        have := digs_nil.1 h.2
        omega
      | x :: a =>
        simp at h
        exact ih _ (by omega) h.2
theorem digs_len {n k : Nat} (h : n < 10 ^ k) : (digs n).length ≤ k := by
  induction k generalizing n with
  | zero => simp at h; subst h; simp [digs_zero]
  | succ k ih =>
    by_cases hn : n = 0
    · subst hn; simp [digs_zero]
    · rw [digs_pos (by omega), List.length_cons]
      have := ih (n := n / 10) (by rw [Nat.pow_succ] at h; omega)
      omega
theorem digs_low {n : Nat} (h : 0 < n) : (10 : Int) ^ ((digs n).length - 1) ≤ n := by
  induction n using Nat.strongRecOn with
  | _ n ih =>
    rw [digs_pos h]
    by_cases hn : n / 10 = 0
    · rw [hn, digs_zero]; simp; omega
    · have := ih (n / 10) (by omega) (by omega)
      have hl : 0 < (digs (n / 10)).length := by
        rw [digs_pos (by omega)]; simp
      rw [List.length_cons, show (digs (n / 10)).length + 1 - 1 = ((digs (n / 10)).length - 1) + 1 by omega, Int.pow_succ]
      omega

/-- How two are, of the same length, from the highest on. -/
def cmpL : List Int → List Int → Int
  | x :: a, y :: b => if cmpL a b ≠ 0 then cmpL a b else if x < y then -1 else if y < x then 1 else 0
  | _, _ => 0
theorem cmpL_drop : ∀ (k : Nat) (a b : List Int), a.length = b.length → cmpL (a.drop k) (b.drop k) ≠ 0 → cmpL a b = cmpL (a.drop k) (b.drop k)
  | 0, _, _, _, _ => rfl
  | k + 1, [], [], _, h => by simp [cmpL] at h
  | k + 1, x :: a, y :: b, hl, h => by
    simp only [List.drop_succ_cons] at h ⊢
    have := cmpL_drop k a b (by simpa using hl) h
    rw [cmpL, if_pos (by rw [this]; exact h), this]
  | k + 1, [], _ :: _, hl, _ => by simp at hl
  | k + 1, _ :: _, [], hl, _ => by simp at hl
theorem cmpL_step {a b : List Int} {k : Nat} {x y : Int} (hx : a[k]? = some x) (hy : b[k]? = some y) (h : cmpL (a.drop (k + 1)) (b.drop (k + 1)) = 0) :
    cmpL (a.drop k) (b.drop k) = if x < y then -1 else if y < x then 1 else 0 := by
  have hj := (List.getElem?_eq_some_iff.1 hx).1
  have hj2 := (List.getElem?_eq_some_iff.1 hy).1
  rw [List.drop_eq_getElem_cons hj, (List.getElem?_eq_some_iff.1 hx).2, List.drop_eq_getElem_cons hj2, (List.getElem?_eq_some_iff.1 hy).2, cmpL, if_neg (by simp [h])]
theorem cmpL_val : ∀ (a b : List Int), a.length = b.length → Dig a → Dig b → cmpL a b = if val a < val b then -1 else if val b < val a then 1 else 0
  | [], [], _, _, _ => by simp [cmpL]
  | x :: a, y :: b, hl, ha, hb => by
    have ih := cmpL_val a b (by simpa using hl) ha.tail hb.tail
    have h1 := ha.head
    have h2 := hb.head
    have e1 : val (x :: a) = x + 10 * val a := rfl
    have e2 : val (y :: b) = y + 10 * val b := rfl
    unfold cmpL
    by_cases h : val a < val b
    · rw [if_pos h] at ih
      rw [ih, if_pos (by decide), if_pos (by omega)]
    · by_cases k : val b < val a
      · rw [if_neg h, if_pos k] at ih
        rw [ih, if_pos (by decide), if_neg (by omega), if_pos (by omega)]
      · rw [if_neg h, if_neg k] at ih
        rw [ih, if_neg (by decide)]
        by_cases p : x < y
        · rw [if_pos p, if_pos (by omega)]
        · by_cases q : y < x
          · rw [if_neg p, if_pos q, if_neg (by omega), if_pos (by omega)]
          · rw [if_neg p, if_neg q, if_neg (by omega), if_neg (by omega)]
  | [], _ :: _, hl, _, _ => by simp at hl
  | _ :: _, [], hl, _, _ => by simp at hl
/-- How two sizes are. -/
def szL (a b : List Int) : Int := if a.length < b.length then -1 else if b.length < a.length then 1 else cmpL a b
theorem szL_digs (m n : Nat) : szL (digs m) (digs n) = if m < n then -1 else if n < m then 1 else 0 := by
  unfold szL
  have key : ∀ p q : Nat, (digs p).length < (digs q).length → p < q := by
    intro p q h
    have h1 := (dig_val (digs_dig p)).2
    rw [digs_val] at h1
    have hq : 0 < q := by
      rcases Nat.eq_zero_or_pos q with h0 | h0
      · subst h0; rw [digs_zero] at h; simp at h
      · exact h0
    have h2 := digs_low hq
    have h3 : (10 : Int) ^ (digs p).length ≤ 10 ^ ((digs q).length - 1) := by
      have : ((10 ^ (digs p).length : Nat) : Int) ≤ ((10 ^ ((digs q).length - 1) : Nat) : Int) := by
        exact_mod_cast Nat.pow_le_pow_right (by decide) (by omega)
      simpa using this
    omega
  by_cases h : (digs m).length < (digs n).length
  · rw [if_pos h, if_pos (key _ _ h)]
  · by_cases k : (digs n).length < (digs m).length
    · have := key _ _ k
      rw [if_neg h, if_pos k, if_neg (by omega), if_pos this]
    · rw [if_neg h, if_neg k, cmpL_val _ _ (by omega) (digs_dig m) (digs_dig n), digs_val, digs_val]
      split <;> split <;> (try split) <;> (try split) <;> omega
end Go.Proofs.YtpnfjjgihkmjmaaGreatDoor

/-
  TEXTS OF INTEGERS, plain: what strconv reads and writes, and what the document does.
-/
namespace Go.Proofs.YtpnfjjgihkmjmaaGreatDoor

/-- A decimal digit's byte. -/
def isD (c : UInt8) : Bool := decide (48 ≤ c.toNat ∧ c.toNat ≤ 57)
/-- The number of decimal digits behind acc. -/
def dval (acc : Nat) (l : List UInt8) : Nat := l.foldl (fun a c => a * 10 + (c.toNat - 48)) acc
theorem dval_nil (acc : Nat) : dval acc [] = acc := by unfold dval; rw [List.foldl_nil]
theorem dval_cons (acc : Nat) (c : UInt8) (l : List UInt8) : dval acc (c :: l) = dval (acc * 10 + (c.toNat - 48)) l := by unfold dval; rw [List.foldl_cons]
theorem dval_snoc (acc : Nat) (c : UInt8) (l : List UInt8) : dval acc (l ++ [c]) = dval acc l * 10 + (c.toNat - 48) := by unfold dval; simp
theorem dval_ge : ∀ (l : List UInt8) (acc : Nat), acc ≤ dval acc l
  | [], acc => by rw [dval_nil]; exact Nat.le_refl _
  | c :: l, acc => by rw [dval_cons]; have := dval_ge l (acc * 10 + (c.toNat - 48)); omega
theorem uintM_eq : ∀ (l : List UInt8) (acc : Nat), l.all isD = true → acc ≤ 18446744073709551615 →
    Lib.parseUintM 18446744073709551615 acc l = if dval acc l ≤ 18446744073709551615 then .ok (dval acc l) else .range
  | [], acc, _, ha => by unfold Lib.parseUintM; rw [dval_nil, if_pos ha]
  | c :: l, acc, hl, ha => by
    simp only [List.all_cons, Bool.and_eq_true] at hl
    have hc : 48 ≤ c.toNat ∧ c.toNat ≤ 57 := of_decide_eq_true hl.1
    have hg := dval_ge l (acc * 10 + (c.toNat - 48))
    unfold Lib.parseUintM
    rw [if_pos hc, dval_cons]
    by_cases h1 : 1844674407370955162 ≤ acc
    · rw [if_pos h1, if_neg (by omega)]
    · by_cases h2 : 18446744073709551615 < acc * 10 + (c.toNat - 48)
      · rw [if_neg h1, if_pos h2, if_neg (by omega)]
      · rw [if_neg h1, if_neg h2, uintM_eq l _ hl.2 (by omega)]
/-- What stands behind a sign. -/
def body : List UInt8 → List UInt8
  | [] => []
  | c :: r => if c.toNat = 43 ∨ c.toNat = 45 then r else c :: r
/-- Is it a text of an integer? -/
def isNum (l : List UInt8) : Bool := !(body l).isEmpty && (body l).all isD
/-- Is it below 0? -/
def neg (l : List UInt8) : Bool := decide (l.head?.map (·.toNat) = some 45)
/-- Its number. -/
def numZ (l : List UInt8) : Int := if neg l then -(dval 0 (body l) : Int) else dval 0 (body l)
theorem parse_ok (l : List UInt8) (h : isNum l = true) (h0 : -9223372036854775808 ≤ numZ l) (h1 : numZ l ≤ 9223372036854775807) : Lib.parseIntB 64 l = .ok (numZ l) := by
  unfold isNum at h
  rw [Bool.and_eq_true] at h
  match l with
  | [] => simp [body] at h
  | c :: r =>
    have hne : body (c :: r) ≠ [] := by intro e; rw [e] at h; simp at h
    have hu : Lib.parseUintB 64 (body (c :: r)) = if dval 0 (body (c :: r)) ≤ 18446744073709551615 then .ok (dval 0 (body (c :: r))) else .range := by
      unfold Lib.parseUintB
      rw [if_neg hne]
      exact uintM_eq _ 0 h.2 (by omega)
    have hb : (if c.toNat = 43 ∨ c.toNat = 45 then r else c :: r) = body (c :: r) := rfl
    unfold Lib.parseIntB
    simp only [hb]
    rw [hu]
    unfold numZ neg at *
    simp only [List.head?_cons, Option.map_some, Option.some.injEq] at *
    by_cases hc : c.toNat = 45
    · simp only [hc, decide_true, if_true] at *
      rw [if_pos (by omega)]
      simp only [not_true, false_and, if_false, true_and]
      rw [if_neg (by omega)]
    · simp only [hc, decide_false, if_false, Bool.false_eq_true] at *
      rw [if_pos (by omega)]
      simp only [not_false_eq_true, true_and, false_and, if_false]
      rw [if_neg (by omega)]
theorem parse_range (l : List UInt8) (h : isNum l = true) (h0 : ¬ (-9223372036854775808 ≤ numZ l ∧ numZ l ≤ 9223372036854775807)) : Lib.parseIntB 64 l = .range := by
  unfold isNum at h
  rw [Bool.and_eq_true] at h
  match l with
  | [] => simp [body] at h
  | c :: r =>
    have hne : body (c :: r) ≠ [] := by intro e; rw [e] at h; simp at h
    have hu : Lib.parseUintB 64 (body (c :: r)) = if dval 0 (body (c :: r)) ≤ 18446744073709551615 then .ok (dval 0 (body (c :: r))) else .range := by
      unfold Lib.parseUintB
      rw [if_neg hne]
      exact uintM_eq _ 0 h.2 (by omega)
    have hb : (if c.toNat = 43 ∨ c.toNat = 45 then r else c :: r) = body (c :: r) := rfl
    unfold Lib.parseIntB
    simp only [hb]
    rw [hu]
    unfold numZ neg at *
    simp only [List.head?_cons, Option.map_some, Option.some.injEq] at *
    by_cases hm : dval 0 (body (c :: r)) ≤ 18446744073709551615
    · rw [if_pos hm]
      by_cases hc : c.toNat = 45
      · simp only [hc, decide_true, if_true] at *
        simp only [not_true, false_and, if_false, true_and]
        rw [if_pos (by omega)]
      · simp only [hc, decide_false, if_false, Bool.false_eq_true] at *
        simp only [not_false_eq_true, true_and]
        rw [if_pos (by omega)]
    · rw [if_neg hm]

/-- The decimal digits' bytes of digits, the lowest first. -/
def chars (l : List Int) : List UInt8 := l.reverse.map fun d => UInt8.ofNat (48 + d.toNat)
theorem chars_digs : ∀ n : Nat, 0 < n → Lib.decDigits n = chars (digs n) := by
  intro n
  induction n using Nat.strongRecOn with
  | _ n ih =>
    intro hn
    rw [Lib.decDigits, digs_pos hn]
    by_cases h : n < 10
    · rw [dif_pos h, show n / 10 = 0 by omega, digs_zero]
      simp only [chars, List.reverse_cons, List.reverse_nil, List.nil_append, List.map_cons, List.map_nil, Int.toNat_natCast]
      rw [show n % 10 = n by omega]
    · rw [dif_neg h, ih _ (by omega) (by omega)]
      simp only [chars, List.reverse_cons, List.map_append, List.map_cons, List.map_nil, Int.toNat_natCast]
/-- The text of an integer. -/
def textZ (z : Int) : List UInt8 := if z = 0 then [48] else (if z < 0 then [45] else []) ++ chars (digs z.natAbs)
theorem itoa_text (z : Int) : Lib.itoa z = textZ z := by
  unfold Lib.itoa textZ
  by_cases h0 : z = 0
  · subst h0; rw [if_neg (by decide), if_pos rfl]; show Lib.decDigits 0 = _; rw [Lib.decDigits_one (by decide)]; rfl
  · rw [if_neg h0]
    by_cases h : z < 0
    · rw [if_pos h, if_pos h, chars_digs _ (by omega)]; rfl
    · rw [if_neg h, if_neg h, show z.toNat = z.natAbs by omega, chars_digs _ (by omega)]; rfl
/-- The digits of bytes, the lowest first. -/
def digsOf (l : List UInt8) : List Int := l.reverse.map fun c => ((c.toNat - 48 : Nat) : Int)
theorem digsOf_dig {l : List UInt8} (h : l.all isD = true) : Dig (digsOf l) := by
  intro d hd
  simp only [digsOf, List.mem_map, List.mem_reverse] at hd
  obtain ⟨c, hc, rfl⟩ := hd
  have : 48 ≤ c.toNat ∧ c.toNat ≤ 57 := of_decide_eq_true (List.all_eq_true.1 h c hc)
  omega
theorem digsOf_snoc (l : List UInt8) (c : UInt8) : digsOf (l ++ [c]) = ((c.toNat - 48 : Nat) : Int) :: digsOf l := by simp [digsOf]
theorem digsOf_val (l : List UInt8) : val (digsOf l) = dval 0 l := by
  obtain ⟨n, hn⟩ : ∃ n, n = l.length := ⟨_, rfl⟩
  induction n generalizing l with
  | zero =>
    obtain rfl : l = [] := List.length_eq_zero_iff.1 hn.symm
    rw [dval_nil]; rfl
  | succ n ih =>
    obtain ⟨a, c, rfl⟩ : ∃ a c, l = a ++ [c] := ⟨l.dropLast, l.getLast (by intro e; rw [e] at hn; simp at hn), (List.dropLast_concat_getLast _).symm⟩
    rw [digsOf_snoc, dval_snoc, val, ih a (by simp at hn; omega)]; omega
theorem chars_all {l : List Int} (h : Dig l) : (chars l).all isD = true := by
  rw [List.all_eq_true]
  intro c hc
  simp only [chars, List.mem_map, List.mem_reverse] at hc
  obtain ⟨d, hd, rfl⟩ := hc
  have := h d hd
  unfold isD
  rw [decide_eq_true_eq]
  have : (UInt8.ofNat (48 + d.toNat)).toNat = 48 + d.toNat := by simp; omega
  omega
theorem chars_back {l : List Int} (h : Dig l) : digsOf (chars l) = l := by
  unfold digsOf chars
  simp only [List.map_reverse, List.reverse_reverse, List.map_map]
  conv => rhs; rw [← List.map_id l]
  apply List.map_congr_left
  intro d hd
  have := h d hd
  have e : (UInt8.ofNat (48 + d.toNat)).toNat = 48 + d.toNat := by simp; omega
  simp only [Function.comp, e, id]
  omega
theorem chars_dval {l : List Int} (h : Dig l) : (dval 0 (chars l) : Int) = val l := by rw [← digsOf_val, chars_back h]
/-- Noughts ahead change nothing. -/
theorem dval_zeros (k : Nat) (l : List UInt8) : dval 0 (List.replicate k 48 ++ l) = dval 0 l := by
  induction k with
  | zero => rfl
  | succ k ih => rw [List.replicate_succ, List.cons_append, dval_cons]; exact ih
end Go.Proofs.YtpnfjjgihkmjmaaGreatDoor

/-
  'isNumber': whether a text is one of an integer; and the laws' words of bytes.
-/
namespace Go.Proofs.YtpnfjjgihkmjmaaGreatDoor
open Go.RowKit
set_option linter.unusedVariables false

theorem decN_high (n b0 b1 b2 b3 : Nat) (h : 128 ≤ b0) : 128 ≤ (Lib.decodeN n b0 b1 b2 b3).1 := by
  unfold Lib.decodeN
  repeat' split
  all_goals first | omega | (simp only; omega)
theorem dec_high (s : ByteArray) (i : Nat) (h : 128 ≤ (s.get! i).toNat) : 128 ≤ (Utf8.decode s i).1 := by
  rw [Lib.decode_at]
  exact decN_high _ _ _ _ _ h
def NbI (w : World) (t : ByteArray) (g : Nat) (wr : World) : Prop :=
  ∃ k, k + g = t.size ∧ (t.data.toList.take k).all isD = true ∧ wr.heap[w.heap.size]? = some (.stringIter t k) ∧ Below w.heap.size w wr
theorem body_cons (c : UInt8) (r : List UInt8) : body (c :: r) = if c.toNat = 43 ∨ c.toNat = 45 then r else c :: r := rfl
theorem ret_b' {a b : Bool} (h : a = b) : Ending.returned (.bool a) = .returned (.bool b) := by rw [h]
theorem get_bang (t : ByteArray) (k : Nat) (h : k < t.size) : t.get! k = t[k]'h := by
  simp [ByteArray.get!, ByteArray.getElem_eq_getElem_data, h]
theorem str_ne (t : ByteArray) : (!t.toList.isEmpty) = !t.data.toList.isEmpty := by rw [ByteArray.toList_eq]
set_option maxHeartbeats 8000000 in
theorem isnumber_any (s : ByteArray) (hs : s.size ≤ 1000000) (w : World) : Calls Tryz.prog 82 #[.string s] w fun e w' => e = .returned (.bool (isNum s.data.toList)) ∧ Below w.heap.size w w' := by
  have hsz : s.size = s.data.toList.length := Lib.size_eq s
  cases hl : s.data.toList with
  | nil =>
    have hse : (!s.toList.isEmpty) = false := by rw [ByteArray.toList_eq, hl]; rfl
    have hse2 : s.toList = [] := by rw [ByteArray.toList_eq, hl]
    have HT : Hid (s.data.toList = body s.data.toList) := Lib.hid (by rw [hl]; rfl)
    rw [← hl]
    clear hsz hl
    go_enter Tryz.func82, Tryz.ntmps82
    go_wp2
    clear hse hse2
    go_loopg [] s.size (fun g wr => NbI w s g wr)
    case atStart => exact ⟨0, by omega, by simp, World.iter_heap _ _ _, (Below.refl _ _).alloc (Nat.le_refl _) _⟩
    case round =>
      obtain ⟨k, hkg, hall, hit, hbw⟩ := hrel
      have HALL := Lib.hid hall
      have HBW := Lib.hid hbw
      have hbs := hbw.size
      clear hall hbw
      cases gk with
      | zero =>
        have hnext := fun ty => Lib.run_next_end_at (P := Tryz.prog) wr w.heap.size s k ty hit (by omega)
        have hres : isNum s.data.toList = !s.data.toList.isEmpty := by
          unfold isNum
          rw [← HT.out]
          have h1 := HALL.out
          rw [List.take_of_length_le (by rw [← Lib.size_eq]; omega)] at h1
          rw [h1, Bool.and_true]
        have HR := Lib.hid hres
        clear hres hit
        go_wp2
        go_ret
        exact ⟨ret_b' (by rw [HR.out]; exact (str_ne s)), HBW.out⟩
      | succ g =>
        have hk : k < s.size := by omega
        obtain ⟨c, hc⟩ : ∃ c, s.data.toList[k]? = some c := ⟨_, List.getElem?_eq_getElem (by rw [← Lib.size_eq]; exact hk)⟩
        have hcg : s[k]'hk = c := by
          have := (List.getElem?_eq_some_iff.1 hc).2
          rw [← this]; rfl
        by_cases hd : isD c = true
        · have hcd : 48 ≤ c.toNat ∧ c.toNat ≤ 57 := of_decide_eq_true hd
          have hnext := fun ty => Lib.run_next_ascii_at (P := Tryz.prog) wr w.heap.size s k ty hit hk (by rw [hcg]; omega)
          rw [hcg] at hnext
          obtain ⟨W, hW⟩ : ∃ W, W = wr.iterAt w.heap.size s (k + 1) := ⟨_, rfl⟩
          rw [← hW] at hnext
          have hfin : NbI w s g W := by
            refine ⟨k + 1, by omega, ?_, by rw [hW]; exact Lib.iterAt_heap _ _ _ _ _ hit, by rw [hW]; exact Lib.below_iterAt HBW.out (by omega) _ _⟩
            rw [List.take_add_one, hc, List.all_append, HALL.out]
            simp [hd]
          have HF := Lib.hid hfin
          obtain ⟨x, hx⟩ : ∃ x : Int, x = (c.toNat : Int) := ⟨_, rfl⟩
          rw [← hx] at hnext
          have hx1 : ¬ x < 48 := by omega
          have hx2 : ¬ 57 < x := by omega
          clear hfin hd hcd hcg hc hit hW hx HALL hkg
          go_wp2
          go_roundg g
          case measure => omega
          case rel => exact HF.out
        · have hres : isNum s.data.toList = false := by
            unfold isNum
            rw [← HT.out, Bool.and_eq_false_iff]
            right
            rw [List.all_eq_false]
            exact ⟨c, List.mem_of_getElem? hc, hd⟩
          have HR := Lib.hid hres
          have hcn : ¬ (48 ≤ c.toNat ∧ c.toNat ≤ 57) := fun h => hd (decide_eq_true h)
          obtain ⟨x, W, hnext, hx, hbW⟩ : ∃ (x : Int) (W : World), (∀ ty, (Instr.next (.pointer (some ⟨w.heap.size, 0, none⟩)) true ty).run Tryz.prog wr = .ok (.tuple #[.bool true, .int .i64 k, .int .i32 x]) W) ∧ (x < 48 ∨ 57 < x) ∧ Below w.heap.size w W := by
            by_cases h8 : c.toNat < 128
            · have hnext := fun ty => Lib.run_next_ascii_at (P := Tryz.prog) wr w.heap.size s k ty hit hk (by rw [hcg]; omega)
              rw [hcg] at hnext
              exact ⟨_, _, hnext, by omega, Lib.below_iterAt HBW.out (by omega) _ _⟩
            · have hnext := fun ty => Lib.run_next_any_at (P := Tryz.prog) wr w.heap.size s k ty hit hk
              have hhi := dec_high s k (by rw [show s.get! k = c by rw [← hcg]; exact get_bang s k hk]; omega)
              exact ⟨_, _, hnext, by omega, Lib.below_iterAt HBW.out (by omega) _ _⟩
          have HBW2 := Lib.hid hbW
          clear hres hd hcn hcg hc hit hbW HALL hkg
          rcases hx with hx | hx
          · go_wp2
            go_ret
            exact ⟨ret_b' HR.out.symm, HBW2.out⟩
          · have hx2 : ¬ x < 48 := by omega
            go_wp2
            go_ret
            exact ⟨ret_b' HR.out.symm, HBW2.out⟩
  | cons c r =>
    have h0 : 0 < s.size := by rw [hsz, hl]; simp
    have hse : (!s.toList.isEmpty) = true := by rw [ByteArray.toList_eq, hl]; rfl
    have hse2 : ¬ s.toList = [] := by rw [ByteArray.toList_eq, hl]; simp
    have hc0 : s[0]'h0 = c := by
      have : s.data.toList[0]? = some c := by rw [hl]; rfl
      exact (List.getElem?_eq_some_iff.1 this).2
    obtain ⟨x, hx⟩ : ∃ x : Int, x = (c.toNat : Int) := ⟨_, rfl⟩
    have hcx : ((s[0]'h0).toNat : Int) = x := by rw [hc0, hx]
    have hsg : (x = 43 ∨ x = 45) → (s.extract 1 s.size).data.toList = body s.data.toList := by
      intro h
      rw [Lib.extract_data, hl, body_cons, if_pos (by omega)]
      simp [hsz, hl]
    have hns : ¬ (x = 43 ∨ x = 45) → s.data.toList = body s.data.toList := by
      intro h
      rw [hl, body_cons, if_neg (by omega)]
    rw [← hl]
    by_cases h43 : x = 43
    · have g1 : (x == 43) = true := by simpa using h43
      have HT := Lib.hid (hsg (.inl h43))
      clear hl hsz hc0 hx h43 hsg hns
      go_enter Tryz.func82, Tryz.ntmps82
      go_wp2
      obtain ⟨t, ht⟩ : ∃ t, t = s.extract 1 s.size := ⟨_, rfl⟩
      rw [← ht] at HT ⊢
      clear ht
      go_loopg [] t.size (fun g wr => NbI w t g wr)
      case atStart => exact ⟨0, by omega, by simp, World.iter_heap _ _ _, (Below.refl _ _).alloc (Nat.le_refl _) _⟩
      case round =>
        obtain ⟨k, hkg, hall, hit, hbw⟩ := hrel
        have HALL := Lib.hid hall
        have HBW := Lib.hid hbw
        have hbs := hbw.size
        clear hall hbw
        cases gk with
        | zero =>
          have hnext := fun ty => Lib.run_next_end_at (P := Tryz.prog) wr w.heap.size t k ty hit (by omega)
          have hres : isNum s.data.toList = !t.data.toList.isEmpty := by
            unfold isNum
            rw [← HT.out]
            have h1 := HALL.out
            rw [List.take_of_length_le (by rw [← Lib.size_eq]; omega)] at h1
            rw [h1, Bool.and_true]
          have HR := Lib.hid hres
          clear hres hit
          go_wp2
          go_ret
          exact ⟨ret_b' (by rw [HR.out]; exact (str_ne t)), HBW.out⟩
        | succ g =>
          have hk : k < t.size := by omega
          obtain ⟨c, hc⟩ : ∃ c, t.data.toList[k]? = some c := ⟨_, List.getElem?_eq_getElem (by rw [← Lib.size_eq]; exact hk)⟩
          have hcg : t[k]'hk = c := by
            have := (List.getElem?_eq_some_iff.1 hc).2
            rw [← this]; rfl
          by_cases hd : isD c = true
          · have hcd : 48 ≤ c.toNat ∧ c.toNat ≤ 57 := of_decide_eq_true hd
            have hnext := fun ty => Lib.run_next_ascii_at (P := Tryz.prog) wr w.heap.size t k ty hit hk (by rw [hcg]; omega)
            rw [hcg] at hnext
            obtain ⟨W, hW⟩ : ∃ W, W = wr.iterAt w.heap.size t (k + 1) := ⟨_, rfl⟩
            rw [← hW] at hnext
            have hfin : NbI w t g W := by
              refine ⟨k + 1, by omega, ?_, by rw [hW]; exact Lib.iterAt_heap _ _ _ _ _ hit, by rw [hW]; exact Lib.below_iterAt HBW.out (by omega) _ _⟩
              rw [List.take_add_one, hc, List.all_append, HALL.out]
              simp [hd]
            have HF := Lib.hid hfin
            obtain ⟨x, hx⟩ : ∃ x : Int, x = (c.toNat : Int) := ⟨_, rfl⟩
            rw [← hx] at hnext
            have hx1 : ¬ x < 48 := by omega
            have hx2 : ¬ 57 < x := by omega
            clear hfin hd hcd hcg hc hit hW hx HALL hkg
            go_wp2
            go_roundg g
            case measure => omega
            case rel => exact HF.out
          · have hres : isNum s.data.toList = false := by
              unfold isNum
              rw [← HT.out, Bool.and_eq_false_iff]
              right
              rw [List.all_eq_false]
              exact ⟨c, List.mem_of_getElem? hc, hd⟩
            have HR := Lib.hid hres
            have hcn : ¬ (48 ≤ c.toNat ∧ c.toNat ≤ 57) := fun h => hd (decide_eq_true h)
            obtain ⟨x, W, hnext, hx, hbW⟩ : ∃ (x : Int) (W : World), (∀ ty, (Instr.next (.pointer (some ⟨w.heap.size, 0, none⟩)) true ty).run Tryz.prog wr = .ok (.tuple #[.bool true, .int .i64 k, .int .i32 x]) W) ∧ (x < 48 ∨ 57 < x) ∧ Below w.heap.size w W := by
              by_cases h8 : c.toNat < 128
              · have hnext := fun ty => Lib.run_next_ascii_at (P := Tryz.prog) wr w.heap.size t k ty hit hk (by rw [hcg]; omega)
                rw [hcg] at hnext
                exact ⟨_, _, hnext, by omega, Lib.below_iterAt HBW.out (by omega) _ _⟩
              · have hnext := fun ty => Lib.run_next_any_at (P := Tryz.prog) wr w.heap.size t k ty hit hk
                have hhi := dec_high t k (by rw [show t.get! k = c by rw [← hcg]; exact get_bang t k hk]; omega)
                exact ⟨_, _, hnext, by omega, Lib.below_iterAt HBW.out (by omega) _ _⟩
            have HBW2 := Lib.hid hbW
            clear hres hd hcn hcg hc hit hbW HALL hkg
            rcases hx with hx | hx
            · go_wp2
              go_ret
              exact ⟨ret_b' HR.out.symm, HBW2.out⟩
            · have hx2 : ¬ x < 48 := by omega
              go_wp2
              go_ret
              exact ⟨ret_b' HR.out.symm, HBW2.out⟩
    · have g1 : (x == 43) = false := by simpa using h43
      by_cases h45 : x = 45
      · have g2 : (x == 45) = true := by simpa using h45
        have HT := Lib.hid (hsg (.inr h45))
        clear hl hsz hc0 hx h43 h45 hsg hns
        go_enter Tryz.func82, Tryz.ntmps82
        go_wp2
        obtain ⟨t, ht⟩ : ∃ t, t = s.extract 1 s.size := ⟨_, rfl⟩
        rw [← ht] at HT ⊢
        clear ht
        go_loopg [] t.size (fun g wr => NbI w t g wr)
        case atStart => exact ⟨0, by omega, by simp, World.iter_heap _ _ _, (Below.refl _ _).alloc (Nat.le_refl _) _⟩
        case round =>
          obtain ⟨k, hkg, hall, hit, hbw⟩ := hrel
          have HALL := Lib.hid hall
          have HBW := Lib.hid hbw
          have hbs := hbw.size
          clear hall hbw
          cases gk with
          | zero =>
            have hnext := fun ty => Lib.run_next_end_at (P := Tryz.prog) wr w.heap.size t k ty hit (by omega)
            have hres : isNum s.data.toList = !t.data.toList.isEmpty := by
              unfold isNum
              rw [← HT.out]
              have h1 := HALL.out
              rw [List.take_of_length_le (by rw [← Lib.size_eq]; omega)] at h1
              rw [h1, Bool.and_true]
            have HR := Lib.hid hres
            clear hres hit
            go_wp2
            go_ret
            exact ⟨ret_b' (by rw [HR.out]; exact (str_ne t)), HBW.out⟩
          | succ g =>
            have hk : k < t.size := by omega
            obtain ⟨c, hc⟩ : ∃ c, t.data.toList[k]? = some c := ⟨_, List.getElem?_eq_getElem (by rw [← Lib.size_eq]; exact hk)⟩
            have hcg : t[k]'hk = c := by
              have := (List.getElem?_eq_some_iff.1 hc).2
              rw [← this]; rfl
            by_cases hd : isD c = true
            · have hcd : 48 ≤ c.toNat ∧ c.toNat ≤ 57 := of_decide_eq_true hd
              have hnext := fun ty => Lib.run_next_ascii_at (P := Tryz.prog) wr w.heap.size t k ty hit hk (by rw [hcg]; omega)
              rw [hcg] at hnext
              obtain ⟨W, hW⟩ : ∃ W, W = wr.iterAt w.heap.size t (k + 1) := ⟨_, rfl⟩
              rw [← hW] at hnext
              have hfin : NbI w t g W := by
                refine ⟨k + 1, by omega, ?_, by rw [hW]; exact Lib.iterAt_heap _ _ _ _ _ hit, by rw [hW]; exact Lib.below_iterAt HBW.out (by omega) _ _⟩
                rw [List.take_add_one, hc, List.all_append, HALL.out]
                simp [hd]
              have HF := Lib.hid hfin
              obtain ⟨x, hx⟩ : ∃ x : Int, x = (c.toNat : Int) := ⟨_, rfl⟩
              rw [← hx] at hnext
              have hx1 : ¬ x < 48 := by omega
              have hx2 : ¬ 57 < x := by omega
              clear hfin hd hcd hcg hc hit hW hx HALL hkg
              go_wp2
              go_roundg g
              case measure => omega
              case rel => exact HF.out
            · have hres : isNum s.data.toList = false := by
                unfold isNum
                rw [← HT.out, Bool.and_eq_false_iff]
                right
                rw [List.all_eq_false]
                exact ⟨c, List.mem_of_getElem? hc, hd⟩
              have HR := Lib.hid hres
              have hcn : ¬ (48 ≤ c.toNat ∧ c.toNat ≤ 57) := fun h => hd (decide_eq_true h)
              obtain ⟨x, W, hnext, hx, hbW⟩ : ∃ (x : Int) (W : World), (∀ ty, (Instr.next (.pointer (some ⟨w.heap.size, 0, none⟩)) true ty).run Tryz.prog wr = .ok (.tuple #[.bool true, .int .i64 k, .int .i32 x]) W) ∧ (x < 48 ∨ 57 < x) ∧ Below w.heap.size w W := by
                by_cases h8 : c.toNat < 128
                · have hnext := fun ty => Lib.run_next_ascii_at (P := Tryz.prog) wr w.heap.size t k ty hit hk (by rw [hcg]; omega)
                  rw [hcg] at hnext
                  exact ⟨_, _, hnext, by omega, Lib.below_iterAt HBW.out (by omega) _ _⟩
                · have hnext := fun ty => Lib.run_next_any_at (P := Tryz.prog) wr w.heap.size t k ty hit hk
                  have hhi := dec_high t k (by rw [show t.get! k = c by rw [← hcg]; exact get_bang t k hk]; omega)
                  exact ⟨_, _, hnext, by omega, Lib.below_iterAt HBW.out (by omega) _ _⟩
              have HBW2 := Lib.hid hbW
              clear hres hd hcn hcg hc hit hbW HALL hkg
              rcases hx with hx | hx
              · go_wp2
                go_ret
                exact ⟨ret_b' HR.out.symm, HBW2.out⟩
              · have hx2 : ¬ x < 48 := by omega
                go_wp2
                go_ret
                exact ⟨ret_b' HR.out.symm, HBW2.out⟩
      · have g2 : (x == 45) = false := by simpa using h45
        have HT := Lib.hid (hns (by omega))
        clear hl hsz hc0 hx h43 h45 hsg hns
        go_enter Tryz.func82, Tryz.ntmps82
        go_wp2
        clear hse hse2
        go_loopg [] s.size (fun g wr => NbI w s g wr)
        case atStart => exact ⟨0, by omega, by simp, World.iter_heap _ _ _, (Below.refl _ _).alloc (Nat.le_refl _) _⟩
        case round =>
          obtain ⟨k, hkg, hall, hit, hbw⟩ := hrel
          have HALL := Lib.hid hall
          have HBW := Lib.hid hbw
          have hbs := hbw.size
          clear hall hbw
          cases gk with
          | zero =>
            have hnext := fun ty => Lib.run_next_end_at (P := Tryz.prog) wr w.heap.size s k ty hit (by omega)
            have hres : isNum s.data.toList = !s.data.toList.isEmpty := by
              unfold isNum
              rw [← HT.out]
              have h1 := HALL.out
              rw [List.take_of_length_le (by rw [← Lib.size_eq]; omega)] at h1
              rw [h1, Bool.and_true]
            have HR := Lib.hid hres
            clear hres hit
            go_wp2
            go_ret
            exact ⟨ret_b' (by rw [HR.out]; exact (str_ne s)), HBW.out⟩
          | succ g =>
            have hk : k < s.size := by omega
            obtain ⟨c, hc⟩ : ∃ c, s.data.toList[k]? = some c := ⟨_, List.getElem?_eq_getElem (by rw [← Lib.size_eq]; exact hk)⟩
            have hcg : s[k]'hk = c := by
              have := (List.getElem?_eq_some_iff.1 hc).2
              rw [← this]; rfl
            by_cases hd : isD c = true
            · have hcd : 48 ≤ c.toNat ∧ c.toNat ≤ 57 := of_decide_eq_true hd
              have hnext := fun ty => Lib.run_next_ascii_at (P := Tryz.prog) wr w.heap.size s k ty hit hk (by rw [hcg]; omega)
              rw [hcg] at hnext
              obtain ⟨W, hW⟩ : ∃ W, W = wr.iterAt w.heap.size s (k + 1) := ⟨_, rfl⟩
              rw [← hW] at hnext
              have hfin : NbI w s g W := by
                refine ⟨k + 1, by omega, ?_, by rw [hW]; exact Lib.iterAt_heap _ _ _ _ _ hit, by rw [hW]; exact Lib.below_iterAt HBW.out (by omega) _ _⟩
                rw [List.take_add_one, hc, List.all_append, HALL.out]
                simp [hd]
              have HF := Lib.hid hfin
              obtain ⟨x, hx⟩ : ∃ x : Int, x = (c.toNat : Int) := ⟨_, rfl⟩
              rw [← hx] at hnext
              have hx1 : ¬ x < 48 := by omega
              have hx2 : ¬ 57 < x := by omega
              clear hfin hd hcd hcg hc hit hW hx HALL hkg
              go_wp2
              go_roundg g
              case measure => omega
              case rel => exact HF.out
            · have hres : isNum s.data.toList = false := by
                unfold isNum
                rw [← HT.out, Bool.and_eq_false_iff]
                right
                rw [List.all_eq_false]
                exact ⟨c, List.mem_of_getElem? hc, hd⟩
              have HR := Lib.hid hres
              have hcn : ¬ (48 ≤ c.toNat ∧ c.toNat ≤ 57) := fun h => hd (decide_eq_true h)
              obtain ⟨x, W, hnext, hx, hbW⟩ : ∃ (x : Int) (W : World), (∀ ty, (Instr.next (.pointer (some ⟨w.heap.size, 0, none⟩)) true ty).run Tryz.prog wr = .ok (.tuple #[.bool true, .int .i64 k, .int .i32 x]) W) ∧ (x < 48 ∨ 57 < x) ∧ Below w.heap.size w W := by
                by_cases h8 : c.toNat < 128
                · have hnext := fun ty => Lib.run_next_ascii_at (P := Tryz.prog) wr w.heap.size s k ty hit hk (by rw [hcg]; omega)
                  rw [hcg] at hnext
                  exact ⟨_, _, hnext, by omega, Lib.below_iterAt HBW.out (by omega) _ _⟩
                · have hnext := fun ty => Lib.run_next_any_at (P := Tryz.prog) wr w.heap.size s k ty hit hk
                  have hhi := dec_high s k (by rw [show s.get! k = c by rw [← hcg]; exact get_bang s k hk]; omega)
                  exact ⟨_, _, hnext, by omega, Lib.below_iterAt HBW.out (by omega) _ _⟩
              have HBW2 := Lib.hid hbW
              clear hres hd hcn hcg hc hit hbW HALL hkg
              rcases hx with hx | hx
              · go_wp2
                go_ret
                exact ⟨ret_b' HR.out.symm, HBW2.out⟩
              · have hx2 : ¬ x < 48 := by omega
                go_wp2
                go_ret
                exact ⟨ret_b' HR.out.symm, HBW2.out⟩
end Go.Proofs.YtpnfjjgihkmjmaaGreatDoor
