/-
  SHAPES AND THEIR WINDOWS: plain.
-/

namespace Go.Proofs.Ytpmimmbheieobaa
set_option linter.unusedVariables false
set_option linter.unusedSimpArgs false

/-- A shape's numbers. -/
structure Sh where
  w : Int
  sl : Int
  b : Int
structure Sh.ok (s : Sh) : Prop where
  w0 : 1 ≤ s.w
  w1 : s.w ≤ 1099511627776
  s0 : 1 ≤ s.sl
  s1 : s.sl ≤ 1099511627776
  b0 : -1099511627776 ≤ s.b
  b1 : s.b ≤ 1099511627776
/-- The nearest of the times that are told apart. -/
def cl (t : Int) : Int := max (-2305843009213693952) (min t 2305843009213693952)
theorem cl_low (t : Int) : -2305843009213693952 ≤ cl t := by unfold cl; omega
theorem cl_high (t : Int) : cl t ≤ 2305843009213693952 := by unfold cl; omega
theorem cl_same {t : Int} (h0 : -2305843009213693952 ≤ t) (h1 : t ≤ 2305843009213693952) : cl t = t := by unfold cl; omega
theorem cl_cl (t : Int) : cl (cl t) = cl t := cl_same (cl_low t) (cl_high t)
theorem cl_mono {a b : Int} (h : a ≤ b) : cl a ≤ cl b := by unfold cl; omega
/-- How many windows open at or ahead of a time. -/
def Sh.op (s : Sh) (t : Int) : Int := max 0 ((t - s.b) / s.sl + 1)
def Sh.fst (s : Sh) (t : Int) : Int := s.op (cl t - s.w)
def Sh.mny (s : Sh) (t : Int) : Int := s.op (cl t) - s.fst t
def Sh.at (s : Sh) (i : Int) : Int := s.b + i * s.sl
section
variable {s : Sh}
theorem Sh.op_nn (s : Sh) (t : Int) : 0 ≤ s.op t := by unfold Sh.op; omega
theorem Sh.lt_op (h : s.ok) {i : Int} (hi : 0 ≤ i) (t : Int) : i < s.op t ↔ s.at i ≤ t := by
  have s0 := h.s0
  have key : i ≤ (t - s.b) / s.sl ↔ i * s.sl ≤ t - s.b := Int.le_ediv_iff_mul_le (by omega)
  unfold Sh.op Sh.at
  constructor
  · intro h1
    have := key.1 (by omega)
    omega
  · intro h1
    have := key.2 (by omega)
    omega
theorem Sh.op_mono (h : s.ok) {a b : Int} (hab : a ≤ b) : s.op a ≤ s.op b := by
  have h0 := s.op_nn b
  rcases Int.lt_or_le (s.op b) (s.op a) with hlt | hle
  · have := (Sh.lt_op h h0 a).1 hlt
    have := (Sh.lt_op h h0 b).2 (by omega)
    omega
  · exact hle
theorem Sh.at_op (h : s.ok) (t : Int) : t < s.at (s.op t) := by
  have h0 := s.op_nn t
  rcases Int.lt_or_le t (s.at (s.op t)) with hlt | hle
  · exact hlt
  · have := (Sh.lt_op h h0 t).2 hle
    omega
theorem Sh.at_succ (s : Sh) (i : Int) : s.at (i + 1) = s.at i + s.sl := by unfold Sh.at; rw [Int.add_mul]; omega
theorem Sh.at_prev (h : s.ok) (t : Int) (hp : 0 < s.op t) : s.at (s.op t) - s.sl ≤ t := by
  have := (Sh.lt_op h (i := s.op t - 1) (by omega) t).1 (by omega)
  have := s.at_succ (s.op t - 1)
  rw [Int.sub_add_cancel] at this
  omega
theorem Sh.at_mono (h : s.ok) {i j : Int} (hij : i ≤ j) : s.at i ≤ s.at j := by
  have := Int.mul_le_mul_of_nonneg_right hij (by have := h.s0; omega : 0 ≤ s.sl)
  unfold Sh.at; omega
theorem Sh.at_zero (s : Sh) : s.at 0 = s.b := by unfold Sh.at; omega
/-- Where the first one behind a time opens. -/
theorem Sh.at_low (h : s.ok) {i : Int} (hi : 0 ≤ i) : -1099511627776 ≤ s.at i := by
  have := Sh.at_mono h hi
  have := s.at_zero
  have := h.b0
  omega
theorem Sh.at_high (h : s.ok) {t : Int} (ht : t ≤ 2305843009213693952) : s.at (s.op t) ≤ 2305844108725321728 := by
  have := h.s1
  have := h.b1
  rcases Int.lt_or_le 0 (s.op t) with hp | hp
  · have := Sh.at_prev h t hp
    omega
  · have := s.op_nn t
    rw [show s.op t = 0 by omega, Sh.at_zero]; omega
theorem Sh.op_high (h : s.ok) {t : Int} (ht : t ≤ 2305843009213693952) : s.op t ≤ 2305845208236949505 := by
  rcases Int.lt_or_le 2305845208236949505 (s.op t) with hl | hl
  · exfalso
    have := (Sh.lt_op h (i := 2305845208236949505) (by omega) t).1 (by omega)
    unfold Sh.at at this
    have := h.s0
    have := h.b0
    have h2 : (2305845208236949505 : Int) * 1 ≤ 2305845208236949505 * s.sl := Int.mul_le_mul_of_nonneg_left h.s0 (by omega)
    omega
  · exact hl
theorem Sh.mul_bounds (h : s.ok) {i : Int} (hi : 0 ≤ i) {m : Int} (hm : s.at i ≤ m) : 0 ≤ i * s.sl ∧ i * s.sl ≤ m + 1099511627776 := by
  have := Int.mul_nonneg hi (by have := h.s0; omega : 0 ≤ s.sl)
  unfold Sh.at at hm
  have := h.b0
  omega
theorem Sh.fst_nn (s : Sh) (t : Int) : 0 ≤ s.fst t := s.op_nn _
theorem Sh.fst_high (h : s.ok) (t : Int) : s.fst t ≤ 2305845208236949505 := Sh.op_high h (by have := cl_high t; have := h.w0; omega)
theorem Sh.fst_le (h : s.ok) (t : Int) : s.fst t ≤ s.op (cl t) := Sh.op_mono h (by have := h.w0; omega)
theorem Sh.mny_nn (h : s.ok) (t : Int) : 0 ≤ s.mny t := by have := Sh.fst_le h t; unfold Sh.mny; omega
theorem Sh.lt_fst (h : s.ok) {i : Int} (hi : 0 ≤ i) (t : Int) : i < s.fst t ↔ s.at i + s.w ≤ cl t := by
  unfold Sh.fst
  rw [Sh.lt_op h hi]; omega
theorem Sh.fst_mono (h : s.ok) {a b : Int} (hab : a ≤ b) : s.fst a ≤ s.fst b := Sh.op_mono h (by have := cl_mono hab; omega)
theorem Sh.fst_cl (s : Sh) (t : Int) : s.fst (cl t) = s.fst t := by unfold Sh.fst; rw [cl_cl]
/-- The last number that Window answers. -/
def Sh.lst (s : Sh) : Int := s.fst 2305843009213693952
theorem Sh.lt_lst (h : s.ok) {i : Int} (hi : 0 ≤ i) : i < s.lst ↔ s.at i + s.w ≤ 2305843009213693952 := by
  unfold Sh.lst
  rw [Sh.lt_fst h hi, cl_same (by decide) (by decide)]
theorem Sh.fst_lst (h : s.ok) (t : Int) : s.fst t ≤ s.lst := by
  unfold Sh.lst
  exact Sh.op_mono h (by have := cl_high t; rw [cl_same (t := 2305843009213693952) (by decide) (by decide)]; omega)
theorem Sh.op_uniq (h : s.ok) {t i : Int} (hi : 0 ≤ i) (h1 : t < s.at i) (h2 : i = 0 ∨ s.at (i - 1) ≤ t) : s.op t = i := by
  have a1 := s.op_nn t
  rcases Int.lt_or_le i (s.op t) with hl | hl
  · have := (Sh.lt_op h hi t).1 hl; omega
  · rcases h2 with rfl | h2
    · omega
    · rcases Int.lt_or_le (i - 1) (s.op t) with hk | hk
      · omega
      · rcases Int.lt_or_le i 1 with h0 | h0
        · omega
        · have := (Sh.lt_op h (i := i - 1) (by omega) t).2 h2; omega
/-- How many windows have a time, as the statement counts them. -/
theorem Sh.mny_count (h : s.ok) {t : Int} (hc : cl t = t) : s.mny t = if s.at (s.fst t) ≤ t then (t - s.at (s.fst t)) / s.sl + 1 else 0 := by
  have s0 := h.s0
  have hf := Sh.fst_le h t
  have hn := s.fst_nn t
  unfold Sh.mny
  rw [hc] at hf ⊢
  split
  · rename_i hle
    have h1 : 0 ≤ (t - s.at (s.fst t)) / s.sl := Int.ediv_nonneg (by omega) (by omega)
    have h3 := Int.mul_ediv_add_emod (t - s.at (s.fst t)) s.sl
    have h4 := Int.emod_nonneg (t - s.at (s.fst t)) (show s.sl ≠ 0 by omega)
    have h5 := Int.emod_lt_of_pos (t - s.at (s.fst t)) (show 0 < s.sl by omega)
    generalize (t - s.at (s.fst t)) / s.sl = q at *
    have e : s.op t = s.fst t + q + 1 := by
      refine Sh.op_uniq h (by omega) ?_ (.inr ?_)
      · unfold Sh.at at *
        rw [Int.add_mul, Int.add_mul, Int.mul_comm q]; omega
      · unfold Sh.at at *
        rw [show s.fst t + q + 1 - 1 = s.fst t + q by omega, Int.add_mul, Int.mul_comm q]; omega
    omega
  · rename_i hle
    have : ¬ s.fst t < s.op t := fun hl => hle ((Sh.lt_op h hn t).1 hl)
    omega
end
end Go.Proofs.Ytpmimmbheieobaa
