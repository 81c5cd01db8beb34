/-
  MERGED (a claim has at most 60 files): Quote, QuoteB.
-/
import Derived.Test.YtpnfjjgihkmjmaaZ05
import Derived.Test.YtpnfjjgihkmjmaaRows
import Derived.Test.YtpnfjjgihkmjmaaZ07
import Derived.WalkKit
import Derived.ProofKit
import Derived.OpenShut
import Derived.Deep.DeepHandedRow
import Derived.Lib.LaidTab
import Derived.MakeChecks
import Derived.Deep.LoopGhost
import Derived.BigCall
import Derived.Test.YtpnfjjgihkmjmaaZ06
import Derived.Laws.Rows
namespace Go.Proofs.Ytpnfjjgihkmjmaa
open Go.RowKit

/-- A digit's byte. -/
def hexd (x : Int) : UInt8 := (if x < 10 then 48 + x else 55 + x).toNat.toUInt8
/-- What writeNumber writes. -/
def numL (r : Int) : List UInt8 := [92, 117, 48, 48, hexd (r / 16), hexd (r % 16)]
end Go.Proofs.Ytpnfjjgihkmjmaa

namespace Go.Proofs.Ytpnfjjgihkmjmaa
open Go.RowKit

/-- What Quote writes of a sign. -/
def esc (n : Int) : List UInt8 := if lett n ≠ 0 then [92, (lett n).toNat.toUInt8] else if cls n = 4 then numL n else Lib.encodeRune n
def escL (l : List Int) : List UInt8 := l.flatMap esc
def quoteL (l : List Int) : List UInt8 := 34 :: escL l ++ [34]
theorem esc_len (n : Int) : 1 ≤ (esc n).length ∧ (esc n).length ≤ 6 := by
  have := enc_len n
  unfold esc numL
  split
  · simp
  · split
    · simp
    · omega
theorem escL_len (l : List Int) : (escL l).length ≤ 6 * l.length := by
  induction l with
  | nil => simp [escL]
  | cons n t ih => have := esc_len n; simp [escL] at *; omega
end Go.Proofs.Ytpnfjjgihkmjmaa
