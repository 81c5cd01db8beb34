/-
  PRODUCTS OF DIGITS: plain.
-/
import Derived.Test.YtknjdkjakngkpaaVNum
namespace Go.Proofs.Ytknjdkjakngkpaa

theorem val_set : ∀ (l : List Int) (j : Nat) (x p : Int), l[j]? = some x → val (l.set j (x + p)) = val l + 10 ^ j * p
  | [], j, x, p, h => by simp at h
  | d :: l, 0, x, p, h => by
    simp at h
    subst h
    simp only [List.set_cons_zero, val, Int.pow_zero]
    omega
  | d :: l, j + 1, x, p, h => by
    have h' : l[j]? = some x := by simpa using h
    simp only [List.set_cons_succ, val, val_set l j x p h', Int.pow_succ]
    have e : 10 * (10 ^ j * p) = 10 ^ j * 10 * p := by rw [← Int.mul_assoc, Int.mul_comm 10 (10 ^ j)]
    rw [Int.mul_add, e, Int.add_assoc]
theorem val_take_step {l : List Int} {j : Nat} {x : Int} (h : l[j]? = some x) : val (l.take (j + 1)) = val (l.take j) + 10 ^ j * x := by
  have hj := (List.getElem?_eq_some_iff.1 h).1
  rw [List.take_add_one, h, Option.toList_some, val_snoc, List.length_take, Nat.min_eq_left (by omega)]
theorem val_rep (n : Nat) : val (List.replicate n 0) = 0 := by
  induction n with
  | zero => rfl
  | succ n ih => rw [List.replicate_succ, val, ih]; rfl
/-- Each is from 0 to M. -/
def Bnd (l : List Int) (M : Int) : Prop := ∀ (j : Nat) (x : Int), l[j]? = some x → 0 ≤ x ∧ x ≤ M
theorem get_set {l : List Int} {i j : Nat} {x y : Int} (h : (l.set i y)[j]? = some x) : (j = i ∧ x = y) ∨ (j ≠ i ∧ l[j]? = some x) := by
  by_cases e : i = j
  · subst e
    left
    refine ⟨rfl, ?_⟩
    have hl : i < l.length := by have := (List.getElem?_eq_some_iff.1 h).1; simpa using this
    rw [List.getElem?_set_self hl] at h
    exact (Option.some.inj h).symm
  · right
    rw [List.getElem?_set_ne e] at h
    exact ⟨fun k => e k.symm, h⟩
theorem Bnd.set {l : List Int} {M N : Int} (h : Bnd l M) (hMN : M ≤ N) {i : Nat} {y : Int} (h0 : 0 ≤ y) (h1 : y ≤ N) : Bnd (l.set i y) N := by
  intro j x hx
  rcases get_set hx with ⟨rfl, rfl⟩ | ⟨_, hx⟩
  · exact ⟨h0, h1⟩
  · have := h j x hx; omega
theorem bnd_rep (n : Nat) : Bnd (List.replicate n 0) 0 := by
  intro j x hx
  have := List.eq_of_mem_replicate (List.mem_of_getElem? hx)
  omega
theorem inner_step {a b out : List Int} {i k : Nat} {x y o : Int} (hb : b[k]? = some y) (ho : out[i + k]? = some o) (h : val out = val (a.take i) * val b + 10 ^ i * (x * val (b.take k))) :
    val (out.set (i + k) (o + x * y)) = val (a.take i) * val b + 10 ^ i * (x * val (b.take (k + 1))) := by
  rw [val_set out _ o _ ho, h, val_take_step hb, Int.mul_add x, Int.mul_add (10 ^ i), Int.add_assoc]
  congr 2
  rw [Int.pow_add, Int.mul_assoc, Int.mul_left_comm (10 ^ k) x y]
theorem outer_step {a b out : List Int} {i : Nat} {x : Int} (ha : a[i]? = some x) (h : val out = val (a.take i) * val b + 10 ^ i * (x * val (b.take b.length))) : val out = val (a.take (i + 1)) * val b := by
  rw [List.take_length] at h
  rw [h, val_take_step ha, Int.add_mul, Int.mul_assoc]
theorem carry_step {out : List Int} {i : Nat} {o p : Int} (h0 : out[i]? = some o) (h1 : out[i + 1]? = some p) : val ((out.set (i + 1) (p + o / 10)).set i (o % 10)) = val out := by
  have h0' : (out.set (i + 1) (p + o / 10))[i]? = some o := by rw [List.getElem?_set_ne (by omega)]; exact h0
  have e : o % 10 = o + (o % 10 - o) := by omega
  rw [e, val_set _ i o _ h0', val_set _ (i + 1) p _ h1, Int.pow_succ, Int.add_assoc, Int.mul_assoc, ← Int.mul_add]
  have : 10 * (o / 10) + (o % 10 - o) = 0 := by omega
  rw [this]; omega
/-- The carries' loop: the first i are digits, the next one at most 2M, the others at most M. -/
def Car (l : List Int) (i : Nat) (M : Int) : Prop := ∀ (j : Nat) (x : Int), l[j]? = some x → 0 ≤ x ∧ (j < i → x ≤ 9) ∧ (j = i → x ≤ 2 * M) ∧ (i < j → x ≤ M)
theorem Car.start {l : List Int} {M : Int} (h : Bnd l M) : Car l 0 M := by
  intro j x hx
  have := h j x hx
  exact ⟨this.1, by omega, by omega, by omega⟩
theorem Car.step {l : List Int} {i : Nat} {M o p : Int} (h : Car l i M) (h0 : l[i]? = some o) (h1 : l[i + 1]? = some p) : Car ((l.set (i + 1) (p + o / 10)).set i (o % 10)) (i + 1) M := by
  have g0 := h i o h0
  have g1 := h (i + 1) p h1
  intro j x hx
  rcases get_set hx with ⟨rfl, rfl⟩ | ⟨hne, hx⟩
  · exact ⟨by omega, by omega, by omega, by omega⟩
  · rcases get_set hx with ⟨rfl, rfl⟩ | ⟨hne2, hx⟩
    · exact ⟨by omega, by omega, by omega, by omega⟩
    · have := h j x hx
      exact ⟨by omega, by omega, by omega, by omega⟩
theorem Car.done {l : List Int} {n : Nat} {M : Int} (h : Car l n M) (hl : l.length = n + 1) (hv : val l < 10 ^ n) : Dig l := by
  obtain ⟨q, hq⟩ : ∃ q, l[n]? = some q := ⟨_, List.getElem?_eq_getElem (by omega)⟩
  have hs := val_take_step hq
  rw [List.take_of_length_le (by omega)] at hs
  have htd : Dig (l.take n) := by
    intro x hx
    obtain ⟨j, hj⟩ := List.getElem?_of_mem hx
    have hjn : j < n := by have := (List.getElem?_eq_some_iff.1 hj).1; simp at this; omega
    rw [List.getElem?_take_of_lt hjn] at hj
    have := h j x hj
    exact ⟨this.1, this.2.1 hjn⟩
  have h0 := dig_val htd
  have hq0 := h n q hq
  have hqz : q = 0 := by
    rcases Int.lt_or_eq_of_le hq0.1 with hp | hp
    · exfalso
      have : (10 : Int) ^ n * 1 ≤ 10 ^ n * q := Int.mul_le_mul_of_nonneg_left (by omega) (Int.le_of_lt (pow_pos10 n))
      omega
    · exact hp.symm
  intro x hx
  obtain ⟨j, hj⟩ := List.getElem?_of_mem hx
  have hjn : j < n + 1 := by rw [← hl]; exact (List.getElem?_eq_some_iff.1 hj).1
  by_cases e : j = n
  · subst e
    rw [hq] at hj
    injection hj with hj
    omega
  · have := h j x hj
    exact ⟨this.1, this.2.1 (by omega)⟩
theorem prod_lt {a b : List Int} (ha : Dig a) (hb : Dig b) : val a * val b < 10 ^ (a.length + b.length) := by
  have h1 := dig_val ha
  have h2 := dig_val hb
  rw [Int.pow_add]
  calc val a * val b ≤ val a * 10 ^ b.length := Int.mul_le_mul_of_nonneg_left (Int.le_of_lt h2.2) h1.1
    _ < 10 ^ a.length * 10 ^ b.length := Int.mul_lt_mul_of_pos_right h1.2 (pow_pos10 _)
theorem cnt_le {la lb i k : Nat} (hi : i < la) (hk : k ≤ lb) (hla : la ≤ 1000) (hlb : lb ≤ 1000) : i * lb + k ≤ 1000000 := by
  have h1 : (i + 1) * lb ≤ 1000 * 1000 := Nat.mul_le_mul (by omega) hlb
  rw [Nat.add_mul, Nat.one_mul] at h1
  omega
theorem digit_prod {x y : Int} (hx : 0 ≤ x ∧ x ≤ 9) (hy : 0 ≤ y ∧ y ≤ 9) : 0 ≤ x * y ∧ x * y ≤ 81 := by
  have h1 : x * y ≤ 9 * 9 := Int.mul_le_mul hx.2 hy.2 hy.1 (by omega)
  exact ⟨Int.mul_nonneg hx.1 hy.1, h1⟩
theorem mul_sign {x y : Int} (h : x * y ≠ 0) : (decide (x < 0) != decide (y < 0)) = decide (x * y < 0) := by
  have hx : x ≠ 0 := fun e => h (by rw [e, Int.zero_mul])
  have hy : y ≠ 0 := fun e => h (by rw [e, Int.mul_zero])
  by_cases h1 : x < 0 <;> by_cases h2 : y < 0
  · have := Int.mul_pos_of_neg_of_neg h1 h2; simp [h1, h2]; omega
  · have := Int.mul_neg_of_neg_of_pos h1 (show 0 < y by omega); simp [h1, h2, this]
  · have := Int.mul_neg_of_pos_of_neg (show 0 < x by omega) h2; simp [h1, h2, this]
  · have := Int.mul_pos (show 0 < x by omega) (show 0 < y by omega); simp [h1, h2]; omega
end Go.Proofs.Ytknjdkjakngkpaa
