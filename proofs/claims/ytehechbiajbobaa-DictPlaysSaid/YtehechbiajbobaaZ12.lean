/-
  MERGED (a claim has at most 60 files): ReadA, ReadD, ReadE, ReadF, NWord, NSem.
-/
import Derived.Test.YtehechbiajbobaaZ05
import Derived.Test.YtehechbiajbobaaZ11
import Derived.Laws.Rows
import Derived.Deep.QuietTactic
import Derived.BigQuiet
import Derived.Laws.BitsLemmas
import Derived.Test.YtehechbiajbobaaZ04
import Derived.Laws.Cover4
import Derived.Laws.IdiomStrings
import Derived.Laws.BytesString
import Derived.Test.YtehechbiajbobaaZ10
/-
  READING WHAT IS QUOTED, its parts: the letters behind a backslash; four digits; what is kept of a builder while a scanner moves on.
-/
namespace Go.Proofs.Ytehechbiajbobaa
open Go.RowKit
set_option linter.unusedVariables false

/-- The sign that a letter behind a backslash stands for, or -1. -/
def unl (r : Int) : Int := if r = 39 then 39 else if r = 116 then 9 else if r = 110 then 10 else if r = 114 then 13 else if r = 98 then 8 else if r = 102 then 12 else if r = 34 then 34 else if r = 92 then 92 else -1
end Go.Proofs.Ytehechbiajbobaa

/-
  READING A SIGN'S NUMBER: all ways.
-/
namespace Go.Proofs.Ytehechbiajbobaa
open Go.RowKit
set_option linter.unusedVariables false

/-- m digits are to come, of the number so far, at place p: where it stops, and the sign. -/
def rd : Nat → Int → List Int → Nat → Nat × Option Int
  | 0, S, _, p => if sgn S = true then (p, some S) else (p - 1, none)
  | _ + 1, _, [], p => (p, none)
  | m + 1, S, d :: l, p => if hexv d < 0 then (p, none) else rd m (S * 16 + hexv d) l (p + 1)
end Go.Proofs.Ytehechbiajbobaa

/-
  READING WHAT STANDS BEHIND A BACKSLASH: all ways.
-/
namespace Go.Proofs.Ytehechbiajbobaa
open Go.RowKit
set_option linter.unusedVariables false

/-- What stands behind a backslash. -/
def ef (sl : List Int) (p : Nat) : Nat × Option Int :=
  match sl[p]? with
  | none => (p, none)
  | some c => if c = 117 then rd 4 0 (sl.drop (p + 1)) (p + 1) else if c = 85 then rd 8 0 (sl.drop (p + 1)) (p + 1) else if 0 ≤ unl c then (p + 1, some (unl c)) else (p, none)
end Go.Proofs.Ytehechbiajbobaa

/-
  'readQuoted' and 'Quoted': all ways.
-/
namespace Go.Proofs.Ytehechbiajbobaa
open Go.RowKit
set_option linter.unusedVariables false

/-- From place p on, acc being read; at most f signs are to come. -/
def qf (sl : List Int) : Nat → Nat → List Int → Nat × Option (List Int)
  | 0, p, _ => (p, none)
  | f + 1, p, acc => match sl[p]? with
    | none => (p, none)
    | some c => if c = 34 then (p + 1, some acc) else if c = 10 ∨ c = 13 then (p, none) else if c = 92 then
        (match (ef sl (p + 1)).2 with
          | none => ((ef sl (p + 1)).1, none)
          | some n => qf sl f (ef sl (p + 1)).1 (acc ++ [n]))
      else qf sl f (p + 1) (acc ++ [c])
section
variable {w : World} {B b : Nat} {v : Value} {sl : List Int} {N k : Nat} {acc : List Int}
end
end Go.Proofs.Ytehechbiajbobaa

/-
  READING A WORD (package nt): letters, digits, and the marks that are told.
-/
namespace Go.Proofs.Ytehechbiajbobaa
open Go.RowKit
set_option linter.unusedVariables false

/-- What may go on in a word. -/
def wms (ms : List Int) (n : Int) : Bool := (cls n == 1) || ((cls n == 2) || decide (n ∈ ms))
section
variable {w : World} {B b : Nat} {v : Value} {sl : List Int} {N k : Nat} {acc : List Int}
end
end Go.Proofs.Ytehechbiajbobaa

/-
  WHAT TERMS' TEXTS ARE, sign by sign: plain functions that the program's readers and the document's are both held against.
-/
namespace Go.Proofs.Ytehechbiajbobaa
set_option linter.unusedVariables false

/-- The marks of a blank node's label, of a language. -/
abbrev msB : List Int := [95, 45]
abbrev msL : List Int := [45]
theorem AllS.drop {l : List Int} (h : AllS l) (k : Nat) : AllS (l.drop k) := fun n hn => h n (List.mem_of_mem_drop hn)
/-- What is read is of texts of signs, none long. -/
def Tm.soft (N : Nat) (t : Tm) : Prop := (t.ta.size ≤ 4 * N ∧ t.tb.size ≤ 4 * N + 100 ∧ t.tc.size ≤ 4 * N) ∧ t.kind < 3
theorem Tm.soft.few {N : Nat} {t : Tm} (h : t.soft N) (hN : N ≤ 100000) : t.few := ⟨by have := h.1.1; omega, by have := h.1.2.1; omega, by have := h.1.2.2; omega⟩
end Go.Proofs.Ytehechbiajbobaa
