/-
  MERGED (a claim has at most 60 files): TAsk, TEqA.
-/
import Derived.Test.YtpnfjjgihkmjmaaZ01
import Derived.Test.YtpnfjjgihkmjmaaProg
import Derived.Test.YtpnfjjgihkmjmaaZ13
import Derived.Test.YtpnfjjgihkmjmaaZ07
import Derived.WalkKit
import Derived.Below
import Derived.IntWalk
import Derived.Lib.Hide
import Derived.Deep.LoopGhost
import Derived.Lib.OthersKept
import Derived.Lib.DecodeN
import Derived.Lib.Strings
import Derived.Lib.SmallJoins
import Derived.Lib.ItoaLen
import Derived.Lib.AppendIntMem
/-
  THE INTEGER AND THE TRUTH OF A TERM; what comes with an error is no truth.
-/
namespace Go.Proofs.Ytpnfjjgihkmjmaa
open Go.RowKit
set_option linter.unusedVariables false

/-- Truths' numbers. -/
def tru (yes : Bool) (code : Int) : Int := if code = 0 then (if yes then 1 else 0) else 2
/-- What value.Parse says of a text. -/
def prs (s : ByteArray) : Int × Int := if isNum s.data.toList = true then (if -9223372036854775808 ≤ numZ s.data.toList ∧ numZ s.data.toList ≤ 9223372036854775807 then (numZ s.data.toList, 0) else (0, 9)) else (0, 1)
/-- What AsInt says of a text of type XInt. -/
def asT (s : ByteArray) : Int × Int := if (prs s).2 = 1 then (0, 3) else prs s
def asI (t : Tm) : Int × Int := if t.isLit = true then (if (t.tb.toList == lI) = true then asT t.la else (0, 10)) else (0, 10)
abbrev wTrue : List UInt8 := [116, 114, 117, 101]
abbrev wFalse : List UInt8 := [102, 97, 108, 115, 101]
abbrev wOne : List UInt8 := [49]
abbrev wNought : List UInt8 := [48]
def bT (s : ByteArray) : Bool × Int := if (s.toList == wTrue) = true then (true, 0) else if (s.toList == wOne) = true then (true, 0) else if (s.toList == wFalse) = true then (false, 0) else if (s.toList == wNought) = true then (false, 0) else (false, 3)
def asB (t : Tm) : Bool × Int := if t.isLit = true then (if (t.tb.toList == lB) = true then bT t.la else (false, 10)) else (false, 10)
end Go.Proofs.Ytpnfjjgihkmjmaa

/-
  WHETHER TWO TERMS ARE OF ONE VALUE; a term as a truth.
-/
namespace Go.Proofs.Ytpnfjjgihkmjmaa
open Go.RowKit
set_option linter.unusedVariables false

def eqI (x y : Tm) : Int := tru ((asI x).1 == (asI y).1) (orT (asI x).2 (asI y).2)
def eqB (x y : Tm) : Int := tru ((asB x).1 == (asB y).1) (orT (asB x).2 (asB y).2)
def eqv (x y : Tm) : Int :=
  if sameB x y = true then 1
  else if (x.isLit && y.isLit) = true then
    (if ((x.tb.toList == lI) && (y.tb.toList == lI)) = true then eqI x y
    else if ((x.tb.toList == lB) && (y.tb.toList == lB)) = true then eqB x y
    else if (known x.tb && known y.tb) = true then 0 else 2)
  else 0
end Go.Proofs.Ytpnfjjgihkmjmaa
