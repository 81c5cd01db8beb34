/-
  MERGED (a claim has at most 60 files): NSem, NTri.
-/
import Derived.Test.YtpnfjjgihkmjmaaZ21
import Derived.Test.YtpnfjjgihkmjmaaZ18
/-
  WHAT TERMS' TEXTS ARE, sign by sign: plain functions that the program's readers and the document's are both held against.
-/
namespace Go.Proofs.Ytpnfjjgihkmjmaa
set_option linter.unusedVariables false

/-- The marks of a blank node's label, of a language. -/
abbrev msB : List Int := [95, 45]
abbrev msL : List Int := [45]
theorem AllS.drop {l : List Int} (h : AllS l) (k : Nat) : AllS (l.drop k) := fun n hn => h n (List.mem_of_mem_drop hn)
/-- What is read is of texts of signs, none long. -/
def Tm.soft (N : Nat) (t : Tm) : Prop := (t.ta.size ≤ 4 * N ∧ t.tb.size ≤ 4 * N + 100 ∧ t.tc.size ≤ 4 * N) ∧ t.kind < 3
theorem Tm.soft.few {N : Nat} {t : Tm} (h : t.soft N) (hN : N ≤ 100000) : t.few := ⟨by have := h.1.1; omega, by have := h.1.2.1; omega, by have := h.1.2.2; omega⟩
end Go.Proofs.Ytpnfjjgihkmjmaa

/-
  A LINE's TRIPLE (package nt): all ways.
-/
namespace Go.Proofs.Ytpnfjjgihkmjmaa
open Go.RowKit
set_option linter.unusedVariables false
set_option linter.unusedSimpArgs false

/-- May a term stand in a part of a triple? -/
def mayB (t : Tm) (part : Nat) : Bool := (t.kind == 1) || (((t.kind == 0) && !(part == 1)) || ((t.kind == 2) && (part == 2)))
/-! ### mayStand -/
set_option maxRecDepth 100000 in
set_option maxHeartbeats 2000000 in
theorem nmay_any (t : Tm) (part : Nat) (w : World) : Calls Try.prog 47 #[t.val, .int .i64 part] w fun e w' => e = .returned (.bool (mayB t part)) ∧ Below w.heap.size w w' := by
  have cK := kind_any t
  obtain ⟨r, hr⟩ : ∃ r, r = mayB t part := ⟨_, rfl⟩
  rw [← hr]
  unfold mayB at hr
  have hk : t.kind = 0 ∨ t.kind = 1 ∨ t.kind = 2 ∨ t.kind = 3 := by cases t <;> simp [Tm.kind]
  obtain ⟨k, hkk⟩ : ∃ k, k = t.kind := ⟨_, rfl⟩
  obtain ⟨v, hv⟩ : ∃ k, k = t.val := ⟨_, rfl⟩
  rw [← hkk] at cK hr hk
  rw [← hv] at cK ⊢
  have e1 : ((part : Int) != 1) = !(part == 1) := by rw [Bool.eq_iff_iff, bne_iff_ne, Bool.not_eq_true', beq_eq_false_iff_ne]; omega
  have e2 : ((part : Int) == 2) = (part == 2) := by rw [Bool.eq_iff_iff, beq_iff_eq, beq_iff_eq]; omega
  obtain ⟨p1, hp1⟩ : ∃ p, p = (part == 1) := ⟨_, rfl⟩
  obtain ⟨p2, hp2⟩ : ∃ p, p = (part == 2) := ⟨_, rfl⟩
  rw [← hp1] at e1 hr
  rw [← hp2] at e2 hr
  clear hkk hv hp1 hp2
  rcases hk with rfl | rfl | rfl | rfl
  all_goals
    have HR : Hid (r = _) := Lib.hid hr
    clear hr
    go_enter Try.func47, Try.ntmps47
    go_wp2_with (go_at_call 46; (with_reducible refine (cK _).mono ?_); rintro e w1 ⟨rfl, hb1⟩)
    go_ret
    exact ⟨ret_bool (by rw [HR.out]; simp), hb1⟩
section
variable {w : World} {B b : Nat} {v : Value} {sl : List Int} {k : Nat} {ps : Array Value}
end
theorem iface_of {t : Tm} (h : t.kind < 3) : ∃ ty x, t.val = .iface ty x := by
  cases t with
  | blank s => exact ⟨_, _, rfl⟩
  | iri s => exact ⟨_, _, rfl⟩
  | lit a b c => exact ⟨_, _, rfl⟩
  | odd n => exact ⟨_, _, rfl⟩
  | none => exact absurd h (by decide)
end Go.Proofs.Ytpnfjjgihkmjmaa
