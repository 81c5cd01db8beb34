/-
  MERGED (a claim has at most 60 files): NRd, NSem.
-/
import Derived.Test.YtpnfjjgihkmjmaaZ08
import Derived.Test.YtpnfjjgihkmjmaaZ18
import Derived.Test.YtpnfjjgihkmjmaaZ07
import Derived.Laws.Rows
import Derived.Deep.QuietTactic
import Derived.BigQuiet
import Derived.Laws.BitsLemmas
import Derived.Laws.Cover4
import Derived.Laws.IdiomStrings
import Derived.Laws.BytesString
import Derived.Test.YtpnfjjgihkmjmaaZ17
/-
  READING A SIGN'S NUMBER, an escape, an IRI (package nt): all ways.
-/
namespace Go.Proofs.Ytpnfjjgihkmjmaa
open Go.RowKit
set_option linter.unusedVariables false

theorem parts_one (c : Int) (h0 : 0 ≤ c) (h1 : c ≤ 127) : Parts (⟨#[c.toNat.toUInt8]⟩ : ByteArray).data.toList [c] [] := by
  refine ⟨?_, fun n hn => ?_, .inl rfl⟩
  · rw [List.append_nil, encL_cons, encL_nil, List.append_nil]
    unfold Lib.encodeRune
    rw [Lib.encodeRuneZ_one h0 h1]
    rfl
  · simp at hn
    subst hn
    rw [sgn_iff]; omega
theorem p9 : Parts (⟨#[9]⟩ : ByteArray).data.toList [9] [] := parts_one 9 (by decide) (by decide)
theorem p10 : Parts (⟨#[10]⟩ : ByteArray).data.toList [10] [] := parts_one 10 (by decide) (by decide)
end Go.Proofs.Ytpnfjjgihkmjmaa

/-
  WHAT TERMS' TEXTS ARE, sign by sign: plain functions that the program's readers and the document's are both held against.
-/
namespace Go.Proofs.Ytpnfjjgihkmjmaa
set_option linter.unusedVariables false

theorem AllS.drop {l : List Int} (h : AllS l) (k : Nat) : AllS (l.drop k) := fun n hn => h n (List.mem_of_mem_drop hn)
/-- What is read is of texts of signs, none long. -/
def Tm.soft (N : Nat) (t : Tm) : Prop := (t.ta.size ≤ 4 * N ∧ t.tb.size ≤ 4 * N + 100 ∧ t.tc.size ≤ 4 * N) ∧ t.kind < 3
theorem Tm.soft.few {N : Nat} {t : Tm} (h : t.soft N) (hN : N ≤ 100000) : t.few := ⟨by have := h.1.1; omega, by have := h.1.2.1; omega, by have := h.1.2.2; omega⟩
end Go.Proofs.Ytpnfjjgihkmjmaa
