/-
  NUMBERS AS DECIMAL DIGITS, the lowest first: plain.
-/
namespace Go.Proofs.YtaoelnfflkkeeaaGreatDoor

/-- The value of digits. -/
def val : List Int → Int
  | [] => 0
  | d :: l => d + 10 * val l
/-- Each is a digit. -/
def Dig (l : List Int) : Prop := ∀ d ∈ l, 0 ≤ d ∧ d ≤ 9
/-- None is below 0. -/
def Non (l : List Int) : Prop := ∀ d ∈ l, 0 ≤ d
/-- The digits of a number, none of them a nought ahead. -/
def digs (n : Nat) : List Int := if n = 0 then [] else ((n % 10 : Nat) : Int) :: digs (n / 10)
termination_by n
decreasing_by omega
theorem digs_zero : digs 0 = [] := by unfold digs; rfl
theorem digs_pos {n : Nat} (h : 0 < n) : digs n = ((n % 10 : Nat) : Int) :: digs (n / 10) := by rw [digs, if_neg (by omega)]
theorem digs_nil {n : Nat} : digs n = [] ↔ n = 0 := by
  constructor
  · intro h
    by_cases hn : n = 0
    · exact hn
    · rw [digs_pos (by omega)] at h; cases h
  · rintro rfl; exact digs_zero

theorem Dig.tail {d : Int} {l : List Int} (h : Dig (d :: l)) : Dig l := fun x hx => h x (List.mem_cons_of_mem _ hx)
theorem Dig.head {d : Int} {l : List Int} (h : Dig (d :: l)) : 0 ≤ d ∧ d ≤ 9 := h d (List.mem_cons_self ..)
theorem Dig.cons {d : Int} {l : List Int} (h0 : 0 ≤ d) (h9 : d ≤ 9) (h : Dig l) : Dig (d :: l) := by
  intro x hx
  rcases List.mem_cons.1 hx with rfl | hx
  · exact ⟨h0, h9⟩
  · exact h x hx
theorem dig_nil : Dig [] := fun _ h => by cases h
theorem Dig.append {a b : List Int} (h : Dig a) (k : Dig b) : Dig (a ++ b) := by
  intro x hx
  rcases List.mem_append.1 hx with hx | hx
  · exact h x hx
  · exact k x hx
theorem Dig.snoc {a : List Int} {d : Int} (h : Dig a) (h0 : 0 ≤ d) (h9 : d ≤ 9) : Dig (a ++ [d]) := h.append (Dig.cons h0 h9 dig_nil)
theorem Dig.drop {a : List Int} (h : Dig a) (k : Nat) : Dig (a.drop k) := fun x hx => h x (List.mem_of_mem_drop hx)
theorem Dig.take {a : List Int} (h : Dig a) (k : Nat) : Dig (a.take k) := fun x hx => h x (List.mem_of_mem_take hx)
theorem Dig.at {a : List Int} (h : Dig a) {j : Nat} {x : Int} (hx : a[j]? = some x) : 0 ≤ x ∧ x ≤ 9 := h x (List.mem_of_getElem? hx)
theorem Dig.non {a : List Int} (h : Dig a) : Non a := fun x hx => (h x hx).1

theorem val_append : ∀ (a b : List Int), val (a ++ b) = val a + 10 ^ a.length * val b
  | [], b => by simp [val]
  | d :: a, b => by
    have := val_append a b
    simp only [List.cons_append, val, this, List.length_cons, Int.pow_succ]
    rw [Int.mul_add, Int.add_assoc]
    congr 2
    rw [← Int.mul_assoc, Int.mul_comm 10]
theorem dig_val : ∀ {l : List Int}, Dig l → 0 ≤ val l ∧ val l < 10 ^ l.length
  | [], _ => by simp [val]
  | d :: l, h => by
    have h1 := dig_val h.tail
    have h2 := h.head
    simp only [val, List.length_cons, Int.pow_succ]
    omega
theorem digs_dig (n : Nat) : Dig (digs n) := by
  induction n using Nat.strongRecOn with
  | _ n ih =>
    by_cases hn : n = 0
    · subst hn; rw [digs_zero]; exact dig_nil
    · rw [digs_pos (by omega)]
      exact Dig.cons (by omega) (by omega) (ih _ (by omega))
theorem digs_val (n : Nat) : val (digs n) = n := by
  induction n using Nat.strongRecOn with
  | _ n ih =>
    by_cases hn : n = 0
    · subst hn; rw [digs_zero]; rfl
    · rw [digs_pos (by omega), val, ih _ (by omega)]; omega
/-- Digits without a nought ahead are those of their value. -/
theorem digs_of : ∀ {l : List Int}, Dig l → (∀ a, l ≠ a ++ [0]) → l = digs (val l).toNat
  | [], _, _ => by simp [val, digs_zero]
  | d :: l, h, hz => by
    have h1 := dig_val h.tail
    have h2 := h.head
    have hpos : 0 < val (d :: l) := by
      by_cases hl : l = []
      · subst hl
        have : d ≠ 0 := fun e => hz [] (by rw [e]; rfl)
        simp only [val]; omega
      · have ih := digs_of h.tail (fun a e => hz (d :: a) (by rw [e]; rfl))
        have : 0 < val l := by
          rcases Int.lt_or_eq_of_le h1.1 with h | h
          · exact h
          · rw [← h] at ih; simp [digs_zero] at ih; exact absurd ih hl
        simp only [val]; omega
    have ih := digs_of h.tail (fun a e => hz (d :: a) (by rw [e]; rfl))
    rw [digs_pos (by omega)]
    have e1 : (((val (d :: l)).toNat % 10 : Nat) : Int) = d := by simp only [val] at *; omega
    have e2 : (val (d :: l)).toNat / 10 = (val l).toNat := by simp only [val] at *; omega
    rw [e1, e2, ← ih]
theorem digs_len {n k : Nat} (h : n < 10 ^ k) : (digs n).length ≤ k := by
  induction k generalizing n with
  | zero => simp at h; subst h; simp [digs_zero]
  | succ k ih =>
    by_cases hn : n = 0
    · subst hn; simp [digs_zero]
    · rw [digs_pos (by omega), List.length_cons]
      have := ih (n := n / 10) (by rw [Nat.pow_succ] at h; omega)
      omega
theorem digs_low {n : Nat} (h : 0 < n) : (10 : Int) ^ ((digs n).length - 1) ≤ n := by
  induction n using Nat.strongRecOn with
  | _ n ih =>
    rw [digs_pos h]
    by_cases hn : n / 10 = 0
    · rw [hn, digs_zero]; simp; omega
    · have := ih (n / 10) (by omega) (by omega)
      have hl : 0 < (digs (n / 10)).length := by
        rw [digs_pos (by omega)]; simp
      rw [List.length_cons, show (digs (n / 10)).length + 1 - 1 = ((digs (n / 10)).length - 1) + 1 by omega, Int.pow_succ]
      omega

/-- How two are, of the same length, from the highest on. -/
def cmpL : List Int → List Int → Int
  | x :: a, y :: b => if cmpL a b ≠ 0 then cmpL a b else if x < y then -1 else if y < x then 1 else 0
  | _, _ => 0
theorem cmpL_drop : ∀ (k : Nat) (a b : List Int), a.length = b.length → cmpL (a.drop k) (b.drop k) ≠ 0 → cmpL a b = cmpL (a.drop k) (b.drop k)
  | 0, _, _, _, _ => rfl
  | k + 1, [], [], _, h => by simp [cmpL] at h
  | k + 1, x :: a, y :: b, hl, h => by
    simp only [List.drop_succ_cons] at h ⊢
    have := cmpL_drop k a b (by simpa using hl) h
    rw [cmpL, if_pos (by rw [this]; exact h), this]
  | k + 1, [], _ :: _, hl, _ => by simp at hl
  | k + 1, _ :: _, [], hl, _ => by simp at hl
theorem cmpL_step {a b : List Int} {k : Nat} {x y : Int} (hx : a[k]? = some x) (hy : b[k]? = some y) (h : cmpL (a.drop (k + 1)) (b.drop (k + 1)) = 0) :
    cmpL (a.drop k) (b.drop k) = if x < y then -1 else if y < x then 1 else 0 := by
  have hj := (List.getElem?_eq_some_iff.1 hx).1
  have hj2 := (List.getElem?_eq_some_iff.1 hy).1
  rw [List.drop_eq_getElem_cons hj, (List.getElem?_eq_some_iff.1 hx).2, List.drop_eq_getElem_cons hj2, (List.getElem?_eq_some_iff.1 hy).2, cmpL, if_neg (by simp [h])]
theorem cmpL_val : ∀ (a b : List Int), a.length = b.length → Dig a → Dig b → cmpL a b = if val a < val b then -1 else if val b < val a then 1 else 0
  | [], [], _, _, _ => by simp [cmpL]
  | x :: a, y :: b, hl, ha, hb => by
    have ih := cmpL_val a b (by simpa using hl) ha.tail hb.tail
    have h1 := ha.head
    have h2 := hb.head
    have e1 : val (x :: a) = x + 10 * val a := rfl
    have e2 : val (y :: b) = y + 10 * val b := rfl
    unfold cmpL
    by_cases h : val a < val b
    · rw [if_pos h] at ih
      rw [ih, if_pos (by decide), if_pos (by omega)]
    · by_cases k : val b < val a
      · rw [if_neg h, if_pos k] at ih
        rw [ih, if_pos (by decide), if_neg (by omega), if_pos (by omega)]
      · rw [if_neg h, if_neg k] at ih
        rw [ih, if_neg (by decide)]
        by_cases p : x < y
        · rw [if_pos p, if_pos (by omega)]
        · by_cases q : y < x
          · rw [if_neg p, if_pos q, if_neg (by omega), if_pos (by omega)]
          · rw [if_neg p, if_neg q, if_neg (by omega), if_neg (by omega)]
  | [], _ :: _, hl, _, _ => by simp at hl
  | _ :: _, [], hl, _, _ => by simp at hl
/-- How two sizes are. -/
def szL (a b : List Int) : Int := if a.length < b.length then -1 else if b.length < a.length then 1 else cmpL a b
theorem szL_digs (m n : Nat) : szL (digs m) (digs n) = if m < n then -1 else if n < m then 1 else 0 := by
  unfold szL
  have key : ∀ p q : Nat, (digs p).length < (digs q).length → p < q := by
    intro p q h
    have h1 := (dig_val (digs_dig p)).2
    rw [digs_val] at h1
    have hq : 0 < q := by
      rcases Nat.eq_zero_or_pos q with h0 | h0
      · subst h0; rw [digs_zero] at h; simp at h
      · exact h0
    have h2 := digs_low hq
    have h3 : (10 : Int) ^ (digs p).length ≤ 10 ^ ((digs q).length - 1) := by
      have : ((10 ^ (digs p).length : Nat) : Int) ≤ ((10 ^ ((digs q).length - 1) : Nat) : Int) := by
        exact_mod_cast Nat.pow_le_pow_right (by decide) (by omega)
      simpa using this
    omega
  by_cases h : (digs m).length < (digs n).length
  · rw [if_pos h, if_pos (key _ _ h)]
  · by_cases k : (digs n).length < (digs m).length
    · have := key _ _ k
      rw [if_neg h, if_pos k, if_neg (by omega), if_pos this]
    · rw [if_neg h, if_neg k, cmpL_val _ _ (by omega) (digs_dig m) (digs_dig n), digs_val, digs_val]
      split <;> split <;> (try split) <;> (try split) <;> omega
end Go.Proofs.YtaoelnfflkkeeaaGreatDoor
