/-
  MERGED (a claim has at most 60 files): Kit, Esc.
-/
import Derived.Test.YtpnfjjgihkmjmaaZ08
import Derived.Test.YtpnfjjgihkmjmaaZ19
/-
  WHAT THE LAWS SHARE: each contract over every world that is the first one below its size.
-/
namespace Go.Proofs.Ytpnfjjgihkmjmaa
open Go.RowKit

theorem Parts.size {s : ByteArray} {sl : List Int} {rest : List UInt8} (h : Parts s.data.toList sl rest) : s.size = (encL sl).length + rest.length := by rw [len_of s _ h.eq]; simp
theorem Parts.join {a b : ByteArray} {la lb : List Int} (h : Parts a.data.toList la []) (k : Parts b.data.toList lb []) : Parts (a ++ b).data.toList (la ++ lb) [] := by
  refine ⟨?_, h.all.append k.all, .inl rfl⟩
  rw [encL_append, List.append_nil, ← (show encL la ++ [] = encL la from List.append_nil _), ← (show encL lb ++ [] = encL lb from List.append_nil _), ← h.eq, ← k.eq]
  simp
theorem Parts.nil {s : ByteArray} {sl : List Int} (h : Parts s.data.toList sl []) : s.data.toList = encL sl := by rw [h.eq, List.append_nil]
/-- The bytes of signs. -/
def textOf (l : List Int) : ByteArray := ⟨(encL l).toArray⟩
theorem textOf_list (l : List Int) : (textOf l).data.toList = encL l := by simp [textOf]
theorem Parts.text {s : ByteArray} {sl : List Int} (h : Parts s.data.toList sl []) : s = textOf sl := by
  obtain ⟨⟨d⟩⟩ := s
  have := h.nil
  simp at this
  rw [this]; rfl
end Go.Proofs.Ytpnfjjgihkmjmaa

/-
  PLAIN LEAN, NO RUN: the signs of a quoted text: none is a control; unlike texts are quoted unlike.
-/
namespace Go.Proofs.Ytpnfjjgihkmjmaa
set_option linter.unusedVariables false

def hx (x : Int) : Int := if x < 10 then 48 + x else 55 + x
/-- What Quote writes of a sign, as signs. -/
def escS (n : Int) : List Int := if lett n ≠ 0 then [92, lett n] else if cls n = 4 then [92, 117, 48, 48, hx (n / 16), hx (n % 16)] else [n]
def bodyS (l : List Int) : List Int := l.flatMap escS
def quoS (l : List Int) : List Int := 34 :: bodyS l ++ [34]
theorem enc_ascii (m : Int) (h0 : 0 ≤ m) (h1 : m < 128) : Lib.encodeRune m = [m.toNat.toUInt8] := by
  unfold Lib.encodeRune
  rw [Lib.encodeRuneZ_one h0 (by omega)]
  rfl
theorem encL_one (m : Int) (t : List Int) (h0 : 0 ≤ m) (h1 : m < 128) : encL (m :: t) = m.toNat.toUInt8 :: encL t := by
  rw [encL_cons, enc_ascii m h0 h1]; rfl
theorem lett_range (n : Int) (h : lett n ≠ 0) : 0 ≤ lett n ∧ lett n < 128 := by unfold lett at *; omega
theorem cls4_range (n : Int) (h : cls n = 4) : 0 ≤ n ∧ n < 160 := by unfold cls at h; omega
theorem hx_range (x : Int) (h0 : 0 ≤ x) (h1 : x < 16) : 48 ≤ hx x ∧ hx x < 71 := by unfold hx; omega
theorem escS_bytes (n : Int) : encL (escS n) = esc n := by
  unfold escS esc
  split
  · rename_i h
    have := lett_range n h
    rw [encL_one _ _ (by omega) (by omega), encL_one _ _ this.1 this.2]
    rfl
  · split
    · rename_i h
      have := cls4_range n h
      have h1 := hx_range (n / 16) (by omega) (by omega)
      have h2 := hx_range (n % 16) (by omega) (by omega)
      rw [encL_one _ _ (by omega) (by omega), encL_one _ _ (by omega) (by omega), encL_one _ _ (by omega) (by omega), encL_one _ _ (by omega) (by omega), encL_one _ _ (by omega) (by omega), encL_one _ _ (by omega) (by omega)]
      rfl
    · simp [encL]
theorem bodyS_bytes (l : List Int) : encL (bodyS l) = escL l := by
  induction l with
  | nil => rfl
  | cons n t ih => unfold bodyS escL at *; rw [List.flatMap_cons, List.flatMap_cons, encL_append, ih, escS_bytes]
theorem quoS_bytes (l : List Int) : encL (quoS l) = quoteL l := by
  unfold quoS quoteL
  rw [List.cons_append, encL_one _ _ (by omega) (by omega), encL_append, bodyS_bytes, encL_one _ _ (by omega) (by omega)]
  rfl
end Go.Proofs.Ytpnfjjgihkmjmaa
