/-
  MERGED (a claim has at most 60 files): TAwake, TMake.
-/
import Derived.Test.YtpnfjjgihkmjmaaZ14
import Derived.Test.YtpnfjjgihkmjmaaZ09
import Derived.Test.YtpnfjjgihkmjmaaZ13
import Derived.Deep.RegionHeld3
/-
  GOOD, ASKED FOR A LITERAL; the law's 'awake'.
-/
namespace Go.Proofs.Ytpnfjjgihkmjmaa
open Go.RowKit
set_option linter.unusedVariables false

theorem methLit (v : Value) (w : World) : (method 252 84 v "Good").run Try.prog w = .ok (75, v) w := by kernel_rfl
/-- Signs of ASCII, and their bytes. -/
def ascii (l : List Int) : Bool := l.all fun n => decide (0 ≤ n ∧ n ≤ 127)
theorem ascii_enc : ∀ (l : List Int), ascii l = true → encL l = l.map (fun n => n.toNat.toUInt8) ∧ AllS l
  | [], _ => ⟨rfl, allS_nil⟩
  | n :: l, h => by
    unfold ascii at h
    rw [List.all_cons, Bool.and_eq_true, decide_eq_true_eq] at h
    obtain ⟨e, a⟩ := ascii_enc l h.2
    refine ⟨?_, fun m hm => ?_⟩
    · rw [encL_cons, e]
      unfold Lib.encodeRune
      rw [Lib.encodeRuneZ_one h.1.1 h.1.2]
      rfl
    · rcases List.mem_cons.1 hm with rfl | hm
      · exact (sgn_iff _).2 ⟨h.1.1, by omega, by omega⟩
      · exact a m hm
theorem ascii_parts (s : ByteArray) (l : List Int) (h : ascii l = true) (he : s.data.toList = l.map (fun n => n.toNat.toUInt8)) : Parts s.data.toList l [] := by
  obtain ⟨e, a⟩ := ascii_enc l h
  exact ⟨by rw [he, e, List.append_nil], a, .inl rfl⟩
def sigs (l : List UInt8) : List Int := l.map fun c => (c.toNat : Int)
end Go.Proofs.Ytpnfjjgihkmjmaa

/-
  LITERALS THAT ARE MADE: Plain, Int, Bool.
-/
namespace Go.Proofs.Ytpnfjjgihkmjmaa
open Go.RowKit
set_option linter.unusedVariables false

theorem Fb.free {w : World} {g : Nat} {t : TypeId} {cs : Array Value} (h : Fb w g t cs) (i : Nat) : w.frozen? ⟨g, i, none⟩ = false := by
  unfold Fb at h
  simp [World.frozen?, h]
end Go.Proofs.Ytpnfjjgihkmjmaa
