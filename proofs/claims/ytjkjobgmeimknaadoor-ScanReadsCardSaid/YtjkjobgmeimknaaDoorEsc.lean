/-
  PLAIN LEAN, NO RUN: the signs of a quoted text: none is a control; unlike texts are quoted unlike.
-/
import Derived.Test.YtjkjobgmeimknaaDoorKit
namespace Go.Proofs.YtjkjobgmeimknaaDoor
set_option linter.unusedVariables false

def hx (x : Int) : Int := if x < 10 then 48 + x else 55 + x
/-- What Quote writes of a sign, as signs. -/
def escS (n : Int) : List Int := if lett n ≠ 0 then [92, lett n] else if cls n = 4 then [92, 117, 48, 48, hx (n / 16), hx (n % 16)] else [n]
def bodyS (l : List Int) : List Int := l.flatMap escS
def quoS (l : List Int) : List Int := 34 :: bodyS l ++ [34]
theorem enc_ascii (m : Int) (h0 : 0 ≤ m) (h1 : m < 128) : Lib.encodeRune m = [m.toNat.toUInt8] := by
  unfold Lib.encodeRune
  rw [Lib.encodeRuneZ_one h0 (by omega)]
  rfl
theorem encL_one (m : Int) (t : List Int) (h0 : 0 ≤ m) (h1 : m < 128) : encL (m :: t) = m.toNat.toUInt8 :: encL t := by
  rw [encL_cons, enc_ascii m h0 h1]; rfl
theorem lett_range (n : Int) (h : lett n ≠ 0) : 0 ≤ lett n ∧ lett n < 128 := by unfold lett at *; omega
theorem cls4_range (n : Int) (h : cls n = 4) : 0 ≤ n ∧ n < 160 := by unfold cls at h; omega
theorem hx_range (x : Int) (h0 : 0 ≤ x) (h1 : x < 16) : 48 ≤ hx x ∧ hx x < 71 := by unfold hx; omega
theorem escS_bytes (n : Int) : encL (escS n) = esc n := by
  unfold escS esc
  split
  · rename_i h
    have := lett_range n h
    rw [encL_one _ _ (by omega) (by omega), encL_one _ _ this.1 this.2]
    rfl
  · split
    · rename_i h
      have := cls4_range n h
      have h1 := hx_range (n / 16) (by omega) (by omega)
      have h2 := hx_range (n % 16) (by omega) (by omega)
      rw [encL_one _ _ (by omega) (by omega), encL_one _ _ (by omega) (by omega), encL_one _ _ (by omega) (by omega), encL_one _ _ (by omega) (by omega), encL_one _ _ (by omega) (by omega), encL_one _ _ (by omega) (by omega)]
      rfl
    · simp [encL]
theorem bodyS_bytes (l : List Int) : encL (bodyS l) = escL l := by
  induction l with
  | nil => rfl
  | cons n t ih => unfold bodyS escL at *; rw [List.flatMap_cons, List.flatMap_cons, encL_append, ih, escS_bytes]
theorem quoS_bytes (l : List Int) : encL (quoS l) = quoteL l := by
  unfold quoS quoteL
  rw [List.cons_append, encL_one _ _ (by omega) (by omega), encL_append, bodyS_bytes, encL_one _ _ (by omega) (by omega)]
  rfl
/-- A sign that may stand in a quoted text. -/
def okS (n : Int) : Prop := sgn n = true ∧ cls n ≠ 4 ∧ n ≠ 9 ∧ n ≠ 10 ∧ n ≠ 13
theorem okS_plain (n : Int) (h0 : 33 ≤ n) (h1 : n ≤ 126) : okS n := by
  refine ⟨(sgn_iff n).2 (by omega), ?_, by omega, by omega, by omega⟩
  unfold cls; omega
theorem escS_ok (n : Int) (h : sgn n = true) : ∀ m ∈ escS n, okS m := by
  intro m hm
  unfold escS at hm
  split at hm
  · rename_i hl
    have h33 : 33 ≤ lett n ∧ lett n ≤ 126 := by unfold lett at *; omega
    simp at hm
    rcases hm with rfl | rfl
    · exact okS_plain _ (by omega) (by omega)
    · exact okS_plain _ h33.1 h33.2
  · rename_i hl
    split at hm
    · rename_i hc
      have := cls4_range n hc
      have h1 := hx_range (n / 16) (by omega) (by omega)
      have h2 := hx_range (n % 16) (by omega) (by omega)
      simp at hm
      rcases hm with rfl | rfl | rfl | rfl | rfl <;> exact okS_plain _ (by omega) (by omega)
    · rename_i hc
      simp at hm
      subst hm
      refine ⟨h, hc, ?_, ?_, ?_⟩ <;> (intro e; subst e; exact hl (by decide))
theorem quoS_ok (l : List Int) (h : AllS l) : ∀ m ∈ quoS l, okS m := by
  intro m hm
  unfold quoS bodyS at hm
  simp at hm
  rcases hm with rfl | ⟨n, hn, hm⟩ | rfl
  · exact okS_plain _ (by omega) (by omega)
  · exact escS_ok n (h n hn) m hm
  · exact okS_plain _ (by omega) (by omega)
theorem quoS_parts (l : List Int) (h : AllS l) : Parts (quo l).data.toList (quoS l) [] :=
  ⟨by rw [quo_list, quoS_bytes, List.append_nil], fun m hm => (quoS_ok l h m hm).1, .inl rfl⟩
/-- Read back: one sign. -/
def unesc : List Int → Option (Int × List Int)
  | 92 :: 117 :: _ :: _ :: x :: y :: t => some (16 * hexv x + hexv y, t)
  | 92 :: c :: t => some ((if c = 116 then 9 else if c = 110 then 10 else if c = 114 then 13 else if c = 98 then 8 else if c = 102 then 12 else c), t)
  | n :: t => some (n, t)
  | [] => none
theorem hexv_hx (x : Int) (h0 : 0 ≤ x) (h1 : x < 16) : hexv (hx x) = x := by unfold hexv hx; omega
theorem unesc_esc (n : Int) (t : List Int) : unesc (escS n ++ t) = some (n, t) := by
  unfold escS
  by_cases hl : lett n ≠ 0
  · rw [if_pos hl]
    have hc : n = 9 ∨ n = 10 ∨ n = 13 ∨ n = 8 ∨ n = 12 ∨ n = 34 ∨ n = 92 := by unfold lett at hl; omega
    rcases hc with rfl | rfl | rfl | rfl | rfl | rfl | rfl <;> rfl
  · rw [if_neg hl]
    by_cases hc : cls n = 4
    · rw [if_pos hc]
      have := cls4_range n hc
      show some (16 * hexv (hx (n / 16)) + hexv (hx (n % 16)), t) = _
      rw [hexv_hx _ (by omega) (by omega), hexv_hx _ (by omega) (by omega)]
      congr 2
      omega
    · rw [if_neg hc]
      have h92 : n ≠ 92 := by intro e; subst e; exact hl (by decide)
      show unesc (n :: t) = _
      unfold unesc
      split
      · rename_i heq; simp only [List.cons.injEq] at heq; exact absurd heq.1 h92
      · rename_i heq; simp only [List.cons.injEq] at heq; exact absurd heq.1 h92
      · rename_i heq; simp only [List.cons.injEq] at heq; obtain ⟨rfl, rfl⟩ := heq; rfl
      · rename_i heq; cases heq
theorem esc_head (n : Int) (t : List Int) : ∃ m r, escS n ++ t = m :: r ∧ m ≠ 34 := by
  unfold escS
  by_cases hl : lett n ≠ 0
  · rw [if_pos hl]; exact ⟨92, _, rfl, by decide⟩
  · rw [if_neg hl]
    by_cases hc : cls n = 4
    · rw [if_pos hc]; exact ⟨92, _, rfl, by decide⟩
    · rw [if_neg hc]
      exact ⟨n, t, rfl, fun e => by subst e; exact hl (by decide)⟩
theorem body_one : ∀ a b : List Int, bodyS a ++ [34] = bodyS b ++ [34] → a = b
  | [], [], _ => rfl
  | [], n :: b, h => by
    exfalso
    obtain ⟨m, r, he, hm⟩ := esc_head n (bodyS b ++ [34])
    unfold bodyS at h he
    rw [List.flatMap_cons, List.append_assoc, he] at h
    simp at h
    exact hm h.1.symm
  | n :: a, [], h => by
    exfalso
    obtain ⟨m, r, he, hm⟩ := esc_head n (bodyS a ++ [34])
    unfold bodyS at h he
    rw [List.flatMap_cons, List.append_assoc, he] at h
    simp at h
    exact hm h.1
  | n :: a, m :: b, h => by
    have e1 := unesc_esc n (bodyS a ++ [34])
    have e2 := unesc_esc m (bodyS b ++ [34])
    have hh : escS n ++ (bodyS a ++ [34]) = escS m ++ (bodyS b ++ [34]) := by
      unfold bodyS at h ⊢
      rwa [List.flatMap_cons, List.flatMap_cons, List.append_assoc, List.append_assoc] at h
    rw [hh, e2] at e1
    simp only [Option.some.injEq, Prod.mk.injEq] at e1
    rw [e1.1, body_one a b e1.2.symm]
/-- Unlike texts are quoted unlike. -/
theorem quo_one (a b : List Int) (ha : AllS a) (hb : AllS b) (h : quo a = quo b) : a = b := by
  have h1 : encL (quoS a) ++ [] = encL (quoS b) ++ [] := by rw [quoS_bytes, quoS_bytes, ← quo_list, ← quo_list, h]
  have h2 := (split_one _ _ _ _ h1 (quoS_parts a ha).all (quoS_parts b hb).all (.inl rfl) (.inl rfl)).1
  unfold quoS at h2
  simp only [List.cons_append, List.cons.injEq, true_and] at h2
  exact body_one a b h2
end Go.Proofs.YtjkjobgmeimknaaDoor
