/-
  MERGED (a claim has at most 60 files): TRef, TRefB.
-/
import Derived.Test.YtpnfjjgihkmjmaaZ16
import Derived.Test.YtpnfjjgihkmjmaaZ29
/-
  THE DOCUMENT's 'Less', 'AsInt', 'AsBool', 'known'.
-/
namespace Go.Proofs.Ytpnfjjgihkmjmaa
open Go.RowKit
set_option linter.unusedVariables false

/-- Is one ahead of another one? -/
def lessT (k : Int) (a b c : ByteArray) (k' : Int) (a' b' c' : ByteArray) : Bool :=
  if (k != k') = true then decide (k < k') else if (a.toList == a'.toList) = false then Op.bytesLess a.toList a'.toList else if (b.toList == b'.toList) = false then Op.bytesLess b.toList b'.toList else Op.bytesLess c.toList c'.toList
set_option maxHeartbeats 2000000 in
theorem rless_any (k : Int) (a b c : ByteArray) (k' : Int) (a' b' c' : ByteArray) (w : World) : Calls Try.prog 29 #[F4 k a b c, F4 k' a' b' c'] w fun e w' => e = .returned (.bool (lessT k a b c k' a' b' c')) ∧ Below w.heap.size w w' := by
  obtain ⟨r, hr⟩ : ∃ r, r = lessT k a b c k' a' b' c' := ⟨_, rfl⟩
  rw [← hr]
  unfold lessT at hr
  have ways : ((k != k') = true ∧ r = decide (k < k')) ∨ ((k != k') = false ∧ (((a.toList == a'.toList) = false ∧ r = Op.bytesLess a.toList a'.toList) ∨ ((a.toList == a'.toList) = true ∧ (((b.toList == b'.toList) = false ∧ r = Op.bytesLess b.toList b'.toList) ∨ ((b.toList == b'.toList) = true ∧ r = Op.bytesLess c.toList c'.toList))))) := by
    cases h1 : (k != k') <;> cases h2 : (a.toList == a'.toList) <;> cases h3 : (b.toList == b'.toList) <;> rw [h1, h2, h3] at hr <;> simp at hr <;> simp [hr]
  clear hr
  rcases ways with ⟨h1, hr⟩ | ⟨h1, ⟨h2, hr⟩ | ⟨h2, ⟨h3, hr⟩ | ⟨h3, hr⟩⟩⟩
  all_goals
    have HR := Lib.hid hr
    clear hr
    go_enter Try.func29, Try.ntmps29
    go_wp2
    go_ret
    exact ⟨ret_bT HR.out.symm, ((Below.refl _ _).alloc (Nat.le_refl _) _).alloc (by simp) _⟩
/-- What the document's AsInt says. -/
def RaPost (w : World) (t : Tm) (e : Ending) (w' : World) : Prop :=
  if (asI t).2 = 0 then ∃ v, e = .returned (.tuple #[v, .int .i64 0]) ∧ BigV w' v (asI t).1 ∧ Below w.heap.size w w' else e = .returned (noBig (asI t).2) ∧ Below w.heap.size w w'
theorem asI_lit (a b c : ByteArray) (h : (b.toList == lI) = true) : asI (.lit a b c) = asT a := by
  unfold asI
  simp only [Tm.isLit, Tm.tb, h, if_true]
  rfl
def IntPost (w : World) (a : ByteArray) (e : Ending) (w' : World) : Prop :=
  if (asT a).2 = 0 then ∃ v, e = .returned (.tuple #[v, .int .i64 0]) ∧ BigV w' v (asT a).1 ∧ Below w.heap.size w w' else e = .returned (noBig (asT a).2) ∧ Below w.heap.size w w'
theorem asT_form {a : ByteArray} (h : isNum a.data.toList = false) : asT a = (0, 3) := by
  unfold asT prs
  rw [h]
  rfl
theorem asT_fit {a : ByteArray} (h : isNum a.data.toList = true) (hf : F64 (numZ a.data.toList)) : asT a = (numZ a.data.toList, 0) := by
  unfold asT prs
  unfold F64 at hf
  rw [h, if_pos rfl, if_pos hf]
  rfl
theorem asT_over {a : ByteArray} (h : isNum a.data.toList = true) (hf : ¬ F64 (numZ a.data.toList)) : asT a = (0, 9) := by
  unfold asT prs
  unfold F64 at hf
  rw [h, if_pos rfl, if_neg hf]
  rfl
/-- A box of four, behind a call that makes memory. -/
theorem box4 {w w4 : World} {k : Int} {a b c : ByteArray} {cs : Array Value} {t' : TypeId} (hb : Below ((w.alloc (.cells #[.int .i64 k, .string a, .string b, .string c] 32)).alloc (.cells cs t')).heap.size ((w.alloc (.cells #[.int .i64 k, .string a, .string b, .string c] 32)).alloc (.cells cs t')) w4) :
    Fb w4 w.heap.size 32 #[.int .i64 k, .string a, .string b, .string c] ∧ Fb w4 (w.heap.size + 1) t' cs := by
  refine ⟨((Fb.new w 32 _).alloc _).below hb, ?_⟩
  have := (Fb.new (w.alloc (.cells #[.int .i64 k, .string a, .string b, .string c] 32)) t' cs).below hb
  simpa using this
theorem intPost_no {w : World} {a : ByteArray} {code : Int} (h : asT a = (0, code)) (hc : code ≠ 0) {e : Ending} {w' : World} (hp : e = .returned (noBig code) ∧ Below w.heap.size w w') : IntPost w a e w' := by
  unfold IntPost
  rw [h, if_neg hc]
  exact hp
def FitPost (w : World) (z : Int) (e : Ending) (w' : World) : Prop := ∃ v, e = .returned (.tuple #[v, .int .i64 0]) ∧ BigV w' v z ∧ Below w.heap.size w w'
theorem intPost_yes {w : World} {a : ByteArray} {z : Int} (h : asT a = (z, 0)) {e : Ending} {w' : World} (hp : FitPost w z e w') : IntPost w a e w' := by
  unfold IntPost
  rw [h, if_pos rfl]
  exact hp
end Go.Proofs.Ytpnfjjgihkmjmaa

/-
  THE DOCUMENT's 'AsBool' and 'Equal'.
-/
namespace Go.Proofs.Ytpnfjjgihkmjmaa
open Go.RowKit
set_option linter.unusedVariables false

theorem eql4T (k : Int) (a b c : ByteArray) (k' : Int) (a' b' c' : ByteArray) (w : World) :
    (binOp .eql 32 (F4 k a b c) (F4 k' a' b' c')).run Try.prog w = .ok (.bool ((k == k') && ((a.toList == a'.toList) && ((b.toList == b'.toList) && (c.toList == c'.toList))))) w := by
  go_simp
  by_cases hk : k = k'
  · by_cases h1 : a.toList = a'.toList <;> by_cases h2 : b.toList = b'.toList <;> by_cases h3 : c.toList = c'.toList <;> simp [hk, h1, h2, h3]
  · simp [hk]
end Go.Proofs.Ytpnfjjgihkmjmaa
