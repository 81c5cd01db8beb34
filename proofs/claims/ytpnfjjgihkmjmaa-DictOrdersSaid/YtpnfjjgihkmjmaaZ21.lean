/-
  MERGED (a claim has at most 60 files): NRd, NWord.
-/
import Derived.Test.YtpnfjjgihkmjmaaZ08
import Derived.Test.YtpnfjjgihkmjmaaZ20
import Derived.Test.YtpnfjjgihkmjmaaZ07
import Derived.Laws.Rows
import Derived.Deep.QuietTactic
import Derived.BigQuiet
import Derived.Laws.BitsLemmas
import Derived.Laws.Cover4
import Derived.Laws.IdiomStrings
import Derived.Laws.BytesString
/-
  READING A SIGN'S NUMBER, an escape, an IRI (package nt): all ways.
-/
namespace Go.Proofs.Ytpnfjjgihkmjmaa
open Go.RowKit
set_option linter.unusedVariables false

theorem parts_one (c : Int) (h0 : 0 ≤ c) (h1 : c ≤ 127) : Parts (⟨#[c.toNat.toUInt8]⟩ : ByteArray).data.toList [c] [] := by
  refine ⟨?_, fun n hn => ?_, .inl rfl⟩
  · rw [List.append_nil, encL_cons, encL_nil, List.append_nil]
    unfold Lib.encodeRune
    rw [Lib.encodeRuneZ_one h0 h1]
    rfl
  · simp at hn
    subst hn
    rw [sgn_iff]; omega
theorem p9 : Parts (⟨#[9]⟩ : ByteArray).data.toList [9] [] := parts_one 9 (by decide) (by decide)
theorem p10 : Parts (⟨#[10]⟩ : ByteArray).data.toList [10] [] := parts_one 10 (by decide) (by decide)
end Go.Proofs.Ytpnfjjgihkmjmaa

/-
  READING A WORD (package nt): letters, digits, and the marks that are told.
-/
namespace Go.Proofs.Ytpnfjjgihkmjmaa
open Go.RowKit
set_option linter.unusedVariables false

/-- What may go on in a word. -/
def wms (ms : List Int) (n : Int) : Bool := (cls n == 1) || ((cls n == 2) || decide (n ∈ ms))
section
variable {w : World} {B b : Nat} {v : Value} {sl : List Int} {N k : Nat} {acc : List Int}
end
end Go.Proofs.Ytpnfjjgihkmjmaa
