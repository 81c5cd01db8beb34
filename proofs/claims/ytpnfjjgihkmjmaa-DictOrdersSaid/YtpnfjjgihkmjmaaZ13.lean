/-
  MERGED (a claim has at most 60 files): VNum, VParse.
-/
import Derived.Lib.ParseIntB
import Derived.Lib.ItoaNum
/-
  NUMBERS AS DECIMAL DIGITS, the lowest first: plain.
-/
namespace Go.Proofs.Ytpnfjjgihkmjmaa

/-- The value of digits. -/
def val : List Int → Int
  | [] => 0
  | d :: l => d + 10 * val l
/-- The digits of a number, none of them a nought ahead. -/
def digs (n : Nat) : List Int := if n = 0 then [] else ((n % 10 : Nat) : Int) :: digs (n / 10)
termination_by n
decreasing_by omega
end Go.Proofs.Ytpnfjjgihkmjmaa

/-
  TEXTS OF INTEGERS, plain: what strconv reads and writes, and what the document does.
-/
namespace Go.Proofs.Ytpnfjjgihkmjmaa

/-- A decimal digit's byte. -/
def isD (c : UInt8) : Bool := decide (48 ≤ c.toNat ∧ c.toNat ≤ 57)
/-- The number of decimal digits behind acc. -/
def dval (acc : Nat) (l : List UInt8) : Nat := l.foldl (fun a c => a * 10 + (c.toNat - 48)) acc
/-- What stands behind a sign. -/
def body : List UInt8 → List UInt8
  | [] => []
  | c :: r => if c.toNat = 43 ∨ c.toNat = 45 then r else c :: r
/-- Is it a text of an integer? -/
def isNum (l : List UInt8) : Bool := !(body l).isEmpty && (body l).all isD
/-- Is it below 0? -/
def neg (l : List UInt8) : Bool := decide (l.head?.map (·.toNat) = some 45)
/-- Its number. -/
def numZ (l : List UInt8) : Int := if neg l then -(dval 0 (body l) : Int) else dval 0 (body l)
end Go.Proofs.Ytpnfjjgihkmjmaa
