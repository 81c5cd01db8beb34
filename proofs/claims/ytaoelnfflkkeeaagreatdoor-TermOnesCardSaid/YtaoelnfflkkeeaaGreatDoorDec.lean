/-
  PLAIN LEAN, NO RUN: the document's way to read one sign of bytes, arithmetic by arithmetic, against the decoder.
-/
import Derived.Test.YtaoelnfflkkeeaaGreatDoorUtf
import Derived.Laws.RangeAny
namespace Go.Proofs.YtaoelnfflkkeeaaGreatDoor
open Go.Lib

theorem dA (N b0 b1 b2 b3 : Nat) (h : b0 < 128) : decodeN N b0 b1 b2 b3 = (b0, 1) := decodeN_ascii _ _ _ _ _ h
theorem dE (N b0 b1 b2 b3 : Nat) (h : (128 ≤ b0 ∧ b0 < 192) ∨ 248 ≤ b0) (h0 : b0 < 256) : decodeN N b0 b1 b2 b3 = (65533, 1) := by
  unfold decodeN
  rw [if_neg (by omega), if_neg (by omega), if_neg (by omega), if_neg (by omega)]
theorem dB (N b0 b1 b2 b3 n : Nat) (h : 192 ≤ b0 ∧ b0 < 224) (hn : 1 < N) (h1 : 128 ≤ b1 ∧ b1 ≤ 191) (e : n + 128 = (b0 - 192) * 64 + b1) (k : 128 ≤ n) : decodeN N b0 b1 b2 b3 = (n, 2) := by
  unfold decodeN
  rw [if_neg (by omega), if_pos ⟨by omega, by omega, by omega⟩, if_pos (by omega)]
  congr 1; omega
theorem dBbad (N b0 b1 b2 b3 : Nat) (h : 192 ≤ b0 ∧ b0 < 224) (g : N ≤ 1 ∨ b1 < 128 ∨ 191 < b1 ∨ (b0 - 192) * 64 + b1 < 256) : decodeN N b0 b1 b2 b3 = (65533, 1) := by
  unfold decodeN
  rw [if_neg (by omega)]
  split
  · rw [if_neg (by omega)]
  · rw [if_neg (by omega), if_neg (by omega)]
theorem dC (N b0 b1 b2 b3 n : Nat) (h : 224 ≤ b0 ∧ b0 < 240) (hn : 2 < N) (h1 : 128 ≤ b1 ∧ b1 ≤ 191) (h2 : 128 ≤ b2 ∧ b2 ≤ 191) (e : n + 128 * 64 + 128 = (b0 - 224) * 4096 + b1 * 64 + b2) (k : 2048 ≤ n) (g : n < 55296 ∨ 57343 < n) : decodeN N b0 b1 b2 b3 = (n, 3) := by
  unfold decodeN
  rw [if_neg (by omega), if_neg (by omega), if_pos ⟨by omega, ⟨by omega, by omega⟩, by omega, by omega⟩, if_pos (by omega)]
  congr 1; omega
theorem dCbad (N b0 b1 b2 b3 : Nat) (h : 224 ≤ b0 ∧ b0 < 240) (g : N ≤ 2 ∨ b1 < 128 ∨ 191 < b1 ∨ b2 < 128 ∨ 191 < b2 ∨ (b0 - 224) * 4096 + b1 * 64 + b2 < 2048 + 8320 ∨ (55296 + 8320 ≤ (b0 - 224) * 4096 + b1 * 64 + b2 ∧ (b0 - 224) * 4096 + b1 * 64 + b2 ≤ 57343 + 8320)) (c1 : b1 < 256) (c2 : b2 < 256) : decodeN N b0 b1 b2 b3 = (65533, 1) := by
  unfold decodeN
  rw [if_neg (by omega), if_neg (by omega)]
  split
  · rw [if_neg (by omega)]
  · rw [if_neg (by omega)]
theorem dD (N b0 b1 b2 b3 n : Nat) (h : 240 ≤ b0 ∧ b0 < 248) (hn : 3 < N) (h1 : 128 ≤ b1 ∧ b1 ≤ 191) (h2 : 128 ≤ b2 ∧ b2 ≤ 191) (h3 : 128 ≤ b3 ∧ b3 ≤ 191) (e : n + 532608 = (b0 - 240) * 262144 + b1 * 4096 + b2 * 64 + b3) (k : 65536 ≤ n) (g : n ≤ 1114111) : decodeN N b0 b1 b2 b3 = (n, 4) := by
  unfold decodeN
  rw [if_neg (by omega), if_neg (by omega), if_neg (by omega), if_pos ⟨by omega, ⟨by omega, by omega⟩, ⟨by omega, by omega⟩, by omega, by omega⟩, if_pos (by omega)]
  congr 1; omega
theorem dDbad (N b0 b1 b2 b3 : Nat) (h : 240 ≤ b0 ∧ b0 < 248) (g : N ≤ 3 ∨ b1 < 128 ∨ 191 < b1 ∨ b2 < 128 ∨ 191 < b2 ∨ b3 < 128 ∨ 191 < b3 ∨ (b0 - 240) * 262144 + b1 * 4096 + b2 * 64 + b3 < 65536 + 532608 ∨ 1114111 + 532608 < (b0 - 240) * 262144 + b1 * 4096 + b2 * 64 + b3) (c1 : b1 < 256) (c2 : b2 < 256) (c3 : b3 < 256) : decodeN N b0 b1 b2 b3 = (65533, 1) := by
  unfold decodeN
  rw [if_neg (by omega), if_neg (by omega), if_neg (by omega)]
  split
  · rw [if_neg (by omega)]
  · rfl

/-- What 'first' answers. -/
def fstF (s : ByteArray) : Int := if Utf8.decode s 0 = (65533, 1) then -1 else (Utf8.decode s 0).1
def sndF (s : ByteArray) : Int := if Utf8.decode s 0 = (65533, 1) then 0 else (Utf8.decode s 0).2
theorem F_bad (s : ByteArray) (h : Utf8.decode s 0 = (65533, 1)) : (-1 : Int) = fstF s ∧ (0 : Int) = sndF s := by unfold fstF sndF; rw [if_pos h, if_pos h]; exact ⟨rfl, rfl⟩
theorem F_ok (s : ByteArray) (n k : Nat) (h : Utf8.decode s 0 = (n, k)) (hk : k = 1 → n ≠ 65533) (a b : Int) (ha : a = n) (hb : b = k) : a = fstF s ∧ b = sndF s := by
  unfold fstF sndF
  rw [h, if_neg, if_neg]
  · exact ⟨ha, hb⟩
  · intro e; simp only [Prod.mk.injEq] at e; exact hk e.2 e.1
  · intro e; simp only [Prod.mk.injEq] at e; exact hk e.2 e.1
/-- A byte of s, or 0 behind its end. -/
def byteAt (s : ByteArray) (i : Nat) : Nat := (s.get! i).toNat
theorem byteAt_lt (s : ByteArray) (i : Nat) : byteAt s i < 256 := (s.get! i).toNat_lt
theorem byteAt_eq (s : ByteArray) (i : Nat) (h : i < s.size) : (s[i]'h).toNat = byteAt s i := by
  unfold byteAt
  have := get_at s i h
  rw [Nat.add_zero] at this
  rw [this]
theorem dec0 (s : ByteArray) : Utf8.decode s 0 = decodeN s.size (byteAt s 0) (byteAt s 1) (byteAt s 2) (byteAt s 3) := by
  rw [decode_at]; rfl
end Go.Proofs.YtaoelnfflkkeeaaGreatDoor
