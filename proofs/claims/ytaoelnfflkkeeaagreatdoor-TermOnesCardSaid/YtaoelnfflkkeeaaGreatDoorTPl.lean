/-
  COLONS IN TEXTS, plain: the byte is where the sign is.
-/
import Derived.Test.YtaoelnfflkkeeaaGreatDoorUtf
import Derived.Lib.Bytealg
namespace Go.Proofs.YtaoelnfflkkeeaaGreatDoor
open Go.Lib

theorem enc_colon : encodeRune 58 = [58] := by decide
theorem u8_ne {z : Int} (h0 : 0 ≤ z) (h1 : z < 256) (h : z ≠ 58) : z.toNat.toUInt8 ≠ 58 := by
  intro e
  have := congrArg UInt8.toNat e
  rw [u8n z h0 h1] at this
  have e2 : (58 : UInt8).toNat = 58 := rfl
  omega
theorem enc_nocolon (n : Int) (h : sgn n = true) (hn : n ≠ 58) : (58 : UInt8) ∉ encodeRune n := by
  obtain ⟨h0, h1, h2⟩ := (sgn_iff n).1 h
  unfold encodeRune
  by_cases a : n ≤ 127
  · rw [encodeRuneZ_one h0 a]
    simp only [List.map_cons, List.map_nil, List.mem_singleton]
    exact fun e => u8_ne h0 (by omega) hn e.symm
  by_cases b : n ≤ 2047
  · rw [encodeRuneZ_two (by omega) b]
    simp only [List.map_cons, List.map_nil, List.mem_cons, List.not_mem_nil, or_false, not_or]
    exact ⟨fun e => u8_ne (by omega) (by omega) (by omega) e.symm, fun e => u8_ne (by omega) (by omega) (by omega) e.symm⟩
  by_cases c : n ≤ 65535
  · rw [encodeRuneZ_three (by omega)]
    simp only [List.map_cons, List.map_nil, List.mem_cons, List.not_mem_nil, or_false, not_or]
    exact ⟨fun e => u8_ne (by omega) (by omega) (by omega) e.symm, fun e => u8_ne (by omega) (by omega) (by omega) e.symm, fun e => u8_ne (by omega) (by omega) (by omega) e.symm⟩
  · rw [encodeRuneZ_four (by omega) h1]
    simp only [List.map_cons, List.map_nil, List.mem_cons, List.not_mem_nil, or_false, not_or]
    exact ⟨fun e => u8_ne (by omega) (by omega) (by omega) e.symm, fun e => u8_ne (by omega) (by omega) (by omega) e.symm, fun e => u8_ne (by omega) (by omega) (by omega) e.symm, fun e => u8_ne (by omega) (by omega) (by omega) e.symm⟩
theorem indexByte_skip : ∀ (l r : List UInt8) (c : UInt8), c ∉ l → indexByte (l ++ r) c = if indexByte r c = -1 then -1 else indexByte r c + l.length
  | [], r, c, _ => by simp
  | b :: l, r, c, h => by
    have hb : (b == c) = false := by
      rw [beq_eq_false_iff_ne]
      exact fun e => h (by rw [e]; exact List.mem_cons_self ..)
    have hc : c ∉ l := fun e => h (List.mem_cons_of_mem _ e)
    have ih := indexByte_skip l r c hc
    have hg := indexByte_ge r c
    rw [List.cons_append, indexByte, hb, ih, List.length_cons, if_neg (by decide)]
    by_cases h1 : indexByte r c = -1
    · simp [h1]
    · rw [if_neg h1, if_neg h1, if_neg (by rw [beq_iff_eq]; omega)]; omega
/-- A colon, and something ahead of the first one. -/
def colonB (sl : List Int) : Bool := decide (58 ∈ sl ∧ sl.head? ≠ some 58)
theorem colon_none : ∀ (sl : List Int), AllS sl → (indexByte (encL sl) 58 = -1 ↔ 58 ∉ sl)
  | [], _ => by simp [encL, indexByte]
  | n :: sl, h => by
    have ih := colon_none sl h.tail
    by_cases hn : n = 58
    · subst hn
      rw [encL_cons, enc_colon]
      simp [indexByte]
    · rw [encL_cons, indexByte_skip _ _ _ (enc_nocolon n h.head hn)]
      have hg := indexByte_ge (encL sl) 58
      by_cases h1 : indexByte (encL sl) 58 = -1
      · rw [if_pos h1]
        have := ih.1 h1
        simp [this, Ne.symm hn]
      · rw [if_neg h1]
        have : 58 ∈ sl := Classical.byContradiction fun e => h1 (ih.2 e)
        simp [this]; omega
theorem colon_at (sl : List Int) (h : AllS sl) : decide (indexByte (encL sl) 58 < 1) = !colonB sl := by
  unfold colonB
  match sl, h with
  | [], _ => decide
  | n :: sl, h =>
    by_cases hn : n = 58
    · subst hn
      rw [encL_cons, enc_colon]
      simp [indexByte]
    · have hc := colon_none sl h.tail
      rw [encL_cons, indexByte_skip _ _ _ (enc_nocolon n h.head hn)]
      have hg := indexByte_ge (encL sl) 58
      have hl := (enc_len n).1
      by_cases h1 : indexByte (encL sl) 58 = -1
      · rw [if_pos h1]
        have := hc.1 h1
        simp [this, Ne.symm hn]
      · rw [if_neg h1]
        have : 58 ∈ sl := Classical.byContradiction fun e => h1 (hc.2 e)
        simp [this, hn]; omega
end Go.Proofs.YtaoelnfflkkeeaaGreatDoor
