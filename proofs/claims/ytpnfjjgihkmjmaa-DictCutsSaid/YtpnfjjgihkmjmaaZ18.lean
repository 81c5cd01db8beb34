/-
  MERGED (a claim has at most 60 files): Kit, Esc.
-/
import Derived.Test.YtpnfjjgihkmjmaaZ08
import Derived.Test.YtpnfjjgihkmjmaaZ05
import Derived.Test.YtpnfjjgihkmjmaaRows
import Derived.Test.YtpnfjjgihkmjmaaZ07
import Derived.Test.YtpnfjjgihkmjmaaZ06
import Derived.WalkKit
import Derived.ProofKit
import Derived.OpenShut
import Derived.Deep.DeepHandedRow
import Derived.Lib.LaidTab
import Derived.MakeChecks
import Derived.Deep.LoopGhost
import Derived.BigCall
import Derived.Laws.Rows
/-
  WHAT THE LAWS SHARE: each contract over every world that is the first one below its size.
-/
namespace Go.Proofs.Ytpnfjjgihkmjmaa
open Go.RowKit

theorem Parts.size {s : ByteArray} {sl : List Int} {rest : List UInt8} (h : Parts s.data.toList sl rest) : s.size = (encL sl).length + rest.length := by rw [len_of s _ h.eq]; simp
theorem Parts.join {a b : ByteArray} {la lb : List Int} (h : Parts a.data.toList la []) (k : Parts b.data.toList lb []) : Parts (a ++ b).data.toList (la ++ lb) [] := by
  refine ⟨?_, h.all.append k.all, .inl rfl⟩
  rw [encL_append, List.append_nil, ← (show encL la ++ [] = encL la from List.append_nil _), ← (show encL lb ++ [] = encL lb from List.append_nil _), ← h.eq, ← k.eq]
  simp
theorem Parts.nil {s : ByteArray} {sl : List Int} (h : Parts s.data.toList sl []) : s.data.toList = encL sl := by rw [h.eq, List.append_nil]
/-- The bytes of signs. -/
def textOf (l : List Int) : ByteArray := ⟨(encL l).toArray⟩
theorem Parts.text {s : ByteArray} {sl : List Int} (h : Parts s.data.toList sl []) : s = textOf sl := by
  obtain ⟨⟨d⟩⟩ := s
  have := h.nil
  simp at this
  rw [this]; rfl
end Go.Proofs.Ytpnfjjgihkmjmaa

/-
  PLAIN LEAN, NO RUN: the signs of a quoted text: none is a control; unlike texts are quoted unlike.
-/
namespace Go.Proofs.Ytpnfjjgihkmjmaa
set_option linter.unusedVariables false

def hx (x : Int) : Int := if x < 10 then 48 + x else 55 + x
/-- What Quote writes of a sign, as signs. -/
def escS (n : Int) : List Int := if lett n ≠ 0 then [92, lett n] else if cls n = 4 then [92, 117, 48, 48, hx (n / 16), hx (n % 16)] else [n]
def bodyS (l : List Int) : List Int := l.flatMap escS
def quoS (l : List Int) : List Int := 34 :: bodyS l ++ [34]
end Go.Proofs.Ytpnfjjgihkmjmaa
