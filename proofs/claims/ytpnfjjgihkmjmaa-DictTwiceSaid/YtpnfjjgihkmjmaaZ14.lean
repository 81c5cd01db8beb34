/-
  MERGED (a claim has at most 60 files): TAsk, TAwake.
-/
import Derived.Test.YtpnfjjgihkmjmaaZ01
import Derived.Test.YtpnfjjgihkmjmaaProg
import Derived.Test.YtpnfjjgihkmjmaaZ13
import Derived.Test.YtpnfjjgihkmjmaaZ07
import Derived.WalkKit
import Derived.Below
import Derived.IntWalk
import Derived.Lib.Hide
import Derived.Deep.LoopGhost
import Derived.Lib.OthersKept
import Derived.Lib.DecodeN
import Derived.Lib.Strings
import Derived.Lib.SmallJoins
import Derived.Lib.ItoaLen
import Derived.Lib.AppendIntMem
import Derived.Test.YtpnfjjgihkmjmaaZ09
/-
  THE INTEGER AND THE TRUTH OF A TERM; what comes with an error is no truth.
-/
namespace Go.Proofs.Ytpnfjjgihkmjmaa
open Go.RowKit
set_option linter.unusedVariables false

/-- What value.Parse says of a text. -/
def prs (s : ByteArray) : Int × Int := if isNum s.data.toList = true then (if -9223372036854775808 ≤ numZ s.data.toList ∧ numZ s.data.toList ≤ 9223372036854775807 then (numZ s.data.toList, 0) else (0, 9)) else (0, 1)
/-- What AsInt says of a text of type XInt. -/
def asT (s : ByteArray) : Int × Int := if (prs s).2 = 1 then (0, 3) else prs s
def asI (t : Tm) : Int × Int := if t.isLit = true then (if (t.tb.toList == lI) = true then asT t.la else (0, 10)) else (0, 10)
end Go.Proofs.Ytpnfjjgihkmjmaa

/-
  GOOD, ASKED FOR A LITERAL; the law's 'awake'.
-/
namespace Go.Proofs.Ytpnfjjgihkmjmaa
open Go.RowKit
set_option linter.unusedVariables false

theorem methLit (v : Value) (w : World) : (method 252 84 v "Good").run Try.prog w = .ok (75, v) w := by kernel_rfl
/-- Signs of ASCII, and their bytes. -/
def ascii (l : List Int) : Bool := l.all fun n => decide (0 ≤ n ∧ n ≤ 127)
theorem ascii_enc : ∀ (l : List Int), ascii l = true → encL l = l.map (fun n => n.toNat.toUInt8) ∧ AllS l
  | [], _ => ⟨rfl, allS_nil⟩
  | n :: l, h => by
    unfold ascii at h
    rw [List.all_cons, Bool.and_eq_true, decide_eq_true_eq] at h
    obtain ⟨e, a⟩ := ascii_enc l h.2
    refine ⟨?_, fun m hm => ?_⟩
    · rw [encL_cons, e]
      unfold Lib.encodeRune
      rw [Lib.encodeRuneZ_one h.1.1 h.1.2]
      rfl
    · rcases List.mem_cons.1 hm with rfl | hm
      · exact (sgn_iff _).2 ⟨h.1.1, by omega, by omega⟩
      · exact a m hm
theorem ascii_parts (s : ByteArray) (l : List Int) (h : ascii l = true) (he : s.data.toList = l.map (fun n => n.toNat.toUInt8)) : Parts s.data.toList l [] := by
  obtain ⟨e, a⟩ := ascii_enc l h
  exact ⟨by rw [he, e, List.append_nil], a, .inl rfl⟩
def sigs (l : List UInt8) : List Int := l.map fun c => (c.toNat : Int)
end Go.Proofs.Ytpnfjjgihkmjmaa
