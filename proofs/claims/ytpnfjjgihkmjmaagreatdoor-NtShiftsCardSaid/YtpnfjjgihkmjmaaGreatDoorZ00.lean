/-
  MERGED (a claim has at most 60 files): Utf, Dec, Base, Sig.
-/
import Derived.Lib.MapLaws
import Derived.Lib.RuneBytes
import Derived.Laws.RangeAny
import Derived.Test.YtpnfjjgihkmjmaaGreatDoorProg
import Derived.WalkKit
import Derived.IntWalk
import Derived.Lib.Hide
import Derived.Deep.LoopGhost
/-
  PLAIN LEAN, NO RUN: texts as lists of signs and their UTF-8 bytes: what is decoded is what was encoded; every list of bytes is the bytes of some signs and a rest that is empty or begins with what is no sign's.
-/
namespace Go.Proofs.YtpnfjjgihkmjmaaGreatDoor
open Go.Lib

def sgn (n : Int) : Bool := decide (0 ≤ n ∧ n ≤ 1114111 ∧ (n < 55296 ∨ 57343 < n))
def AllS (l : List Int) : Prop := ∀ n ∈ l, sgn n = true
def encL (l : List Int) : List UInt8 := l.flatMap encodeRune
def Bad (r : List UInt8) : Prop := r ≠ [] ∧ (decodeL r).1 = 65533 ∧ (decodeL r).2 = 1

theorem sgn_iff (n : Int) : sgn n = true ↔ 0 ≤ n ∧ n ≤ 1114111 ∧ (n < 55296 ∨ 57343 < n) := by unfold sgn; simp
theorem encL_nil : encL [] = [] := rfl
theorem encL_cons (n : Int) (l : List Int) : encL (n :: l) = encodeRune n ++ encL l := by simp [encL]
theorem encL_append (a b : List Int) : encL (a ++ b) = encL a ++ encL b := by simp [encL]
theorem enc_len (n : Int) : 1 ≤ (encodeRune n).length ∧ (encodeRune n).length ≤ 4 := by
  have := runeCells_le n
  rwa [runeCells_length] at this
theorem encL_len (l : List Int) : l.length ≤ (encL l).length ∧ (encL l).length ≤ 4 * l.length := by
  induction l with
  | nil => simp [encL]
  | cons n t ih => rw [encL_cons]; have := enc_len n; simp; omega
theorem AllS.tail {n : Int} {l : List Int} (h : AllS (n :: l)) : AllS l := fun m hm => h m (List.mem_cons_of_mem _ hm)
theorem AllS.head {n : Int} {l : List Int} (h : AllS (n :: l)) : sgn n = true := h n List.mem_cons_self
theorem AllS.append {a b : List Int} (h : AllS a) (k : AllS b) : AllS (a ++ b) := fun n hn => by
  rcases List.mem_append.1 hn with x | x
  · exact h n x
  · exact k n x
theorem AllS.left {a b : List Int} (h : AllS (a ++ b)) : AllS a := fun n hn => h n (List.mem_append.2 (.inl hn))
theorem AllS.right {a b : List Int} (h : AllS (a ++ b)) : AllS b := fun n hn => h n (List.mem_append.2 (.inr hn))
theorem allS_nil : AllS [] := fun _ h => by cases h
theorem u8n (z : Int) (_h0 : 0 ≤ z) (h1 : z < 256) : (z.toNat.toUInt8).toNat = z.toNat := by simp; omega

/-- What was encoded is decoded, whatever stands behind. -/
theorem dec_enc (n : Int) (t : List UInt8) (h : sgn n = true) : decodeL (encodeRune n ++ t) = (n.toNat, (encodeRune n).length) := by
  obtain ⟨h0, h1, h2⟩ := (sgn_iff n).1 h
  rw [decodeL_N]
  unfold encodeRune
  by_cases a : n ≤ 127
  · rw [encodeRuneZ_one h0 a]
    simp only [List.map_cons, List.map_nil, List.cons_append, List.nil_append, List.getD_cons_zero, List.length_cons, List.length_nil]
    rw [u8n n h0 (by omega), decodeN_ascii _ _ _ _ _ (by omega)]
  by_cases b : n ≤ 2047
  · rw [encodeRuneZ_two (by omega) b]
    simp only [List.map_cons, List.map_nil, List.cons_append, List.nil_append, List.getD_cons_zero, List.getD_cons_succ, List.length_cons, List.length_nil]
    rw [u8n _ (by omega) (by omega), u8n _ (by omega) (by omega)]
    unfold decodeN
    rw [if_neg (by omega), if_pos ⟨by omega, by omega, by omega⟩, if_pos (by omega)]
    congr 1; omega
  by_cases c : n ≤ 65535
  · rw [encodeRuneZ_three (by omega)]
    simp only [List.map_cons, List.map_nil, List.cons_append, List.nil_append, List.getD_cons_zero, List.getD_cons_succ, List.length_cons, List.length_nil]
    rw [u8n _ (by omega) (by omega), u8n _ (by omega) (by omega), u8n _ (by omega) (by omega)]
    unfold decodeN
    rw [if_neg (by omega), if_neg (by omega), if_pos ⟨by omega, ⟨by omega, by omega⟩, by omega, by omega⟩, if_pos (by omega)]
    congr 1; omega
  · rw [encodeRuneZ_four (by omega) h1]
    simp only [List.map_cons, List.map_nil, List.cons_append, List.nil_append, List.getD_cons_zero, List.getD_cons_succ, List.length_cons, List.length_nil]
    rw [u8n _ (by omega) (by omega), u8n _ (by omega) (by omega), u8n _ (by omega) (by omega), u8n _ (by omega) (by omega)]
    unfold decodeN
    rw [if_neg (by omega), if_neg (by omega), if_neg (by omega), if_pos ⟨by omega, ⟨by omega, by omega⟩, ⟨by omega, by omega⟩, by omega, by omega⟩, if_pos (by omega)]
    congr 1; omega

theorem decodeL_nil : decodeL [] = (0, 1) := by decide
/-- A sign's own bytes are no bad ones. -/
theorem dec_good (n : Int) (t : List UInt8) (h : sgn n = true) : ¬ ((decodeL (encodeRune n ++ t)).1 = 65533 ∧ (decodeL (encodeRune n ++ t)).2 = 1) := by
  rw [dec_enc n t h]
  rintro ⟨h1, h2⟩
  have : n = 65533 := by have := (sgn_iff n).1 h; simp at h1; omega
  subst this
  simp [encodeRune, encodeRuneZ] at h2
theorem dec_sgn (l : List UInt8) (_hne : l ≠ []) (hv : ¬ ((decodeL l).1 = 65533 ∧ (decodeL l).2 = 1)) : sgn (decodeL l).1 = true := by
  rw [decodeL_N] at hv ⊢
  rw [sgn_iff]
  rcases decodeN_shape l.length (l.getD 0 0).toNat (l.getD 1 0).toNat (l.getD 2 0).toNat (l.getD 3 0).toNat with ⟨c, e⟩ | ⟨c1, c2, c3, cv, e⟩ | ⟨c1, c2, c3, c4, cv, cs, e⟩ | ⟨c1, c2, c3, c4, c5, cv, cw, e⟩ | e <;> rw [e] at hv ⊢
  · dsimp only; omega
  · dsimp only; omega
  · dsimp only; omega
  · dsimp only; omega
  · exact absurd ⟨rfl, rfl⟩ hv

/-- Every list of bytes: some signs' bytes, and a rest that is empty or begins badly. -/
theorem split_any : ∀ (f : Nat) (l : List UInt8), l.length ≤ f → ∃ sl rest, l = encL sl ++ rest ∧ AllS sl ∧ (rest = [] ∨ Bad rest)
  | 0, l, h => ⟨[], l, rfl, allS_nil, .inl (List.length_eq_zero_iff.1 (by omega))⟩
  | f + 1, l, h => by
    by_cases hne : l = []
    · exact ⟨[], [], by simp [hne, encL], allS_nil, .inl rfl⟩
    by_cases hv : (decodeL l).1 = 65533 ∧ (decodeL l).2 = 1
    · exact ⟨[], l, rfl, allS_nil, .inr ⟨hne, hv⟩⟩
    · have hw := decodeL_width l
      obtain ⟨sl, rest, h1, h2, h3⟩ := split_any f (l.drop (decodeL l).2) (by simp; omega)
      refine ⟨((decodeL l).1 : Int) :: sl, rest, ?_, ?_, h3⟩
      · rw [encL_cons, encode_decode l hne hv, List.append_assoc, ← h1, List.take_append_drop]
      · intro n hn
        rcases List.mem_cons.1 hn with rfl | hn
        · exact dec_sgn l hne hv
        · exact h2 n hn
theorem split_bytes (l : List UInt8) : ∃ sl rest, l = encL sl ++ rest ∧ AllS sl ∧ (rest = [] ∨ Bad rest) := split_any _ l (Nat.le_refl _)

/-- The signs of a text, and the rest, are its own. -/
theorem split_one : ∀ (a b : List Int) (r t : List UInt8), encL a ++ r = encL b ++ t → AllS a → AllS b → (r = [] ∨ Bad r) → (t = [] ∨ Bad t) → a = b ∧ r = t
  | [], [], r, t, h, _, _, _, _ => ⟨rfl, by simpa [encL] using h⟩
  | [], n :: b, r, t, h, _, hb, hr, _ => by
    exfalso
    rw [encL_nil, List.nil_append, encL_cons, List.append_assoc] at h
    rcases hr with rfl | hr
    · have := enc_len n
      have := congrArg List.length h
      simp at this; omega
    · exact dec_good n (encL b ++ t) hb.head (h ▸ hr.2)
  | n :: a, [], r, t, h, ha, _, _, ht => by
    exfalso
    rw [encL_nil, List.nil_append, encL_cons, List.append_assoc] at h
    rcases ht with rfl | ht
    · rw [List.append_eq_nil_iff] at h
      have := enc_len n
      rw [h.1] at this
      simp at this
    · exact dec_good n (encL a ++ r) ha.head (h ▸ ht.2)
  | n :: a, m :: b, r, t, h, ha, hb, hr, ht => by
    rw [encL_cons, List.append_assoc, encL_cons, List.append_assoc] at h
    have e1 := dec_enc n (encL a ++ r) ha.head
    have e2 := dec_enc m (encL b ++ t) hb.head
    rw [h, e2] at e1
    have h1 := (sgn_iff n).1 ha.head
    have h2 := (sgn_iff m).1 hb.head
    have : m = n := by have := congrArg Prod.fst e1; simp at this; omega
    subst this
    obtain ⟨x, y⟩ := split_one a b r t (List.append_cancel_left h) ha.tail hb.tail hr ht
    exact ⟨by rw [x], y⟩
end Go.Proofs.YtpnfjjgihkmjmaaGreatDoor

/-
  PLAIN LEAN, NO RUN: the document's way to read one sign of bytes, arithmetic by arithmetic, against the decoder.
-/
namespace Go.Proofs.YtpnfjjgihkmjmaaGreatDoor
open Go.Lib

theorem dA (N b0 b1 b2 b3 : Nat) (h : b0 < 128) : decodeN N b0 b1 b2 b3 = (b0, 1) := decodeN_ascii _ _ _ _ _ h
theorem dE (N b0 b1 b2 b3 : Nat) (h : (128 ≤ b0 ∧ b0 < 192) ∨ 248 ≤ b0) (h0 : b0 < 256) : decodeN N b0 b1 b2 b3 = (65533, 1) := by
  unfold decodeN
  rw [if_neg (by omega), if_neg (by omega), if_neg (by omega), if_neg (by omega)]
theorem dB (N b0 b1 b2 b3 n : Nat) (h : 192 ≤ b0 ∧ b0 < 224) (hn : 1 < N) (h1 : 128 ≤ b1 ∧ b1 ≤ 191) (e : n + 128 = (b0 - 192) * 64 + b1) (k : 128 ≤ n) : decodeN N b0 b1 b2 b3 = (n, 2) := by
  unfold decodeN
  rw [if_neg (by omega), if_pos ⟨by omega, by omega, by omega⟩, if_pos (by omega)]
  congr 1; omega
theorem dBbad (N b0 b1 b2 b3 : Nat) (h : 192 ≤ b0 ∧ b0 < 224) (g : N ≤ 1 ∨ b1 < 128 ∨ 191 < b1 ∨ (b0 - 192) * 64 + b1 < 256) : decodeN N b0 b1 b2 b3 = (65533, 1) := by
  unfold decodeN
  rw [if_neg (by omega)]
  split
  · rw [if_neg (by omega)]
  · rw [if_neg (by omega), if_neg (by omega)]
theorem dC (N b0 b1 b2 b3 n : Nat) (h : 224 ≤ b0 ∧ b0 < 240) (hn : 2 < N) (h1 : 128 ≤ b1 ∧ b1 ≤ 191) (h2 : 128 ≤ b2 ∧ b2 ≤ 191) (e : n + 128 * 64 + 128 = (b0 - 224) * 4096 + b1 * 64 + b2) (k : 2048 ≤ n) (g : n < 55296 ∨ 57343 < n) : decodeN N b0 b1 b2 b3 = (n, 3) := by
  unfold decodeN
  rw [if_neg (by omega), if_neg (by omega), if_pos ⟨by omega, ⟨by omega, by omega⟩, by omega, by omega⟩, if_pos (by omega)]
  congr 1; omega
theorem dCbad (N b0 b1 b2 b3 : Nat) (h : 224 ≤ b0 ∧ b0 < 240) (g : N ≤ 2 ∨ b1 < 128 ∨ 191 < b1 ∨ b2 < 128 ∨ 191 < b2 ∨ (b0 - 224) * 4096 + b1 * 64 + b2 < 2048 + 8320 ∨ (55296 + 8320 ≤ (b0 - 224) * 4096 + b1 * 64 + b2 ∧ (b0 - 224) * 4096 + b1 * 64 + b2 ≤ 57343 + 8320)) (c1 : b1 < 256) (c2 : b2 < 256) : decodeN N b0 b1 b2 b3 = (65533, 1) := by
  unfold decodeN
  rw [if_neg (by omega), if_neg (by omega)]
  split
  · rw [if_neg (by omega)]
  · rw [if_neg (by omega)]
theorem dD (N b0 b1 b2 b3 n : Nat) (h : 240 ≤ b0 ∧ b0 < 248) (hn : 3 < N) (h1 : 128 ≤ b1 ∧ b1 ≤ 191) (h2 : 128 ≤ b2 ∧ b2 ≤ 191) (h3 : 128 ≤ b3 ∧ b3 ≤ 191) (e : n + 532608 = (b0 - 240) * 262144 + b1 * 4096 + b2 * 64 + b3) (k : 65536 ≤ n) (g : n ≤ 1114111) : decodeN N b0 b1 b2 b3 = (n, 4) := by
  unfold decodeN
  rw [if_neg (by omega), if_neg (by omega), if_neg (by omega), if_pos ⟨by omega, ⟨by omega, by omega⟩, ⟨by omega, by omega⟩, by omega, by omega⟩, if_pos (by omega)]
  congr 1; omega
theorem dDbad (N b0 b1 b2 b3 : Nat) (h : 240 ≤ b0 ∧ b0 < 248) (g : N ≤ 3 ∨ b1 < 128 ∨ 191 < b1 ∨ b2 < 128 ∨ 191 < b2 ∨ b3 < 128 ∨ 191 < b3 ∨ (b0 - 240) * 262144 + b1 * 4096 + b2 * 64 + b3 < 65536 + 532608 ∨ 1114111 + 532608 < (b0 - 240) * 262144 + b1 * 4096 + b2 * 64 + b3) (c1 : b1 < 256) (c2 : b2 < 256) (c3 : b3 < 256) : decodeN N b0 b1 b2 b3 = (65533, 1) := by
  unfold decodeN
  rw [if_neg (by omega), if_neg (by omega), if_neg (by omega)]
  split
  · rw [if_neg (by omega)]
  · rfl

/-- What 'first' answers. -/
def fstF (s : ByteArray) : Int := if Utf8.decode s 0 = (65533, 1) then -1 else (Utf8.decode s 0).1
def sndF (s : ByteArray) : Int := if Utf8.decode s 0 = (65533, 1) then 0 else (Utf8.decode s 0).2
theorem F_bad (s : ByteArray) (h : Utf8.decode s 0 = (65533, 1)) : (-1 : Int) = fstF s ∧ (0 : Int) = sndF s := by unfold fstF sndF; rw [if_pos h, if_pos h]; exact ⟨rfl, rfl⟩
theorem F_ok (s : ByteArray) (n k : Nat) (h : Utf8.decode s 0 = (n, k)) (hk : k = 1 → n ≠ 65533) (a b : Int) (ha : a = n) (hb : b = k) : a = fstF s ∧ b = sndF s := by
  unfold fstF sndF
  rw [h, if_neg, if_neg]
  · exact ⟨ha, hb⟩
  · intro e; simp only [Prod.mk.injEq] at e; exact hk e.2 e.1
  · intro e; simp only [Prod.mk.injEq] at e; exact hk e.2 e.1
/-- A byte of s, or 0 behind its end. -/
def byteAt (s : ByteArray) (i : Nat) : Nat := (s.get! i).toNat
theorem byteAt_lt (s : ByteArray) (i : Nat) : byteAt s i < 256 := (s.get! i).toNat_lt
theorem byteAt_eq (s : ByteArray) (i : Nat) (h : i < s.size) : (s[i]'h).toNat = byteAt s i := by
  unfold byteAt
  have := get_at s i h
  rw [Nat.add_zero] at this
  rw [this]
theorem dec0 (s : ByteArray) : Utf8.decode s 0 = decodeN s.size (byteAt s 0) (byteAt s 1) (byteAt s 2) (byteAt s 3) := by
  rw [decode_at]; rfl
end Go.Proofs.YtpnfjjgihkmjmaaGreatDoor

/-
  THE CLASS OF A SIGN, its number as a digit, its letter: the program's and the document's: one contract each.
-/
namespace Go.Proofs.YtpnfjjgihkmjmaaGreatDoor
open Go.RowKit

theorem ret_int {k : IntKind} {a b : Int} (h : a = b) : Ending.returned (.int k a) = .returned (.int k b) := by rw [h]
theorem ret_bool {a b : Bool} (h : a = b) : Ending.returned (.bool a) = .returned (.bool b) := by rw [h]

def cls (r : Int) : Int := if r = 32 ∨ r = 9 ∨ r = 10 ∨ r = 13 then 0 else if (97 ≤ r ∧ r ≤ 122) ∨ (65 ≤ r ∧ r ≤ 90) then 1 else if 48 ≤ r ∧ r ≤ 57 then 2 else if 33 ≤ r ∧ r ≤ 126 then 3 else if r < 0 ∨ (55296 ≤ r ∧ r ≤ 57343) ∨ 1114111 < r then 6 else if r < 160 then 4 else 5
def hexv (n : Int) : Int := if 48 ≤ n ∧ n ≤ 57 then n - 48 else if 65 ≤ n ∧ n ≤ 70 then n - 55 else if 97 ≤ n ∧ n ≤ 102 then n - 87 else -1
def lett (n : Int) : Int := if n = 9 then 116 else if n = 10 then 110 else if n = 13 then 114 else if n = 8 then 98 else if n = 12 then 102 else if n = 34 then 34 else if n = 92 then 92 else 0


set_option linter.unusedSimpArgs false
theorem class_any (r : Int) (w : World) : Calls Tryz.prog 116 #[.int .i32 r] w fun e w' => e = .returned (.int .i64 (cls r)) ∧ w = w' := by
  go_enter Tryz.func116, Tryz.ntmps116
  go_wp2
  all_goals (go_ret; refine ⟨ret_int ?_, rfl⟩; (try simp only [Bool.or_eq_true, Bool.or_eq_false_iff, beq_iff_eq, beq_eq_false_iff_ne, decide_eq_true_eq, decide_eq_false_iff_not] at *); unfold cls; omega)
theorem hex_any (r : Int) (w : World) : Calls Tryz.prog 129 #[.int .i32 r] w fun e w' => e = .returned (.int .i64 (hexv r)) ∧ w = w' := by
  go_enter Tryz.func129, Tryz.ntmps129
  go_wp2
  all_goals (go_ret; refine ⟨ret_int ?_, rfl⟩; (try simp only [Bool.or_eq_true, Bool.or_eq_false_iff, beq_iff_eq, beq_eq_false_iff_ne, decide_eq_true_eq, decide_eq_false_iff_not] at *); unfold hexv; omega)
theorem refSign_any (r : Int) (w : World) : Calls Tryz.prog 77 #[.int .i64 r] w fun e w' => e = .returned (.bool (sgn r)) ∧ w = w' := by
  go_enter Tryz.func77, Tryz.ntmps77
  go_wp2
  all_goals (go_ret; refine ⟨ret_bool ?_, rfl⟩; unfold sgn; rw [Bool.eq_iff_iff]; simp only [Bool.or_eq_true, Bool.and_eq_true, decide_eq_true_eq]; first | omega | (constructor <;> intro <;> omega) | (simp; omega))
theorem refSign_yes (r : Int) (h : sgn r = true) (w : World) : Calls Tryz.prog 77 #[.int .i64 r] w fun e w' => e = .returned (.bool true) ∧ w = w' :=
  (refSign_any r w).mono fun _ _ ⟨a, b⟩ => ⟨by rw [a, h], b⟩
theorem refSign_no (r : Int) (h : sgn r = false) (w : World) : Calls Tryz.prog 77 #[.int .i64 r] w fun e w' => e = .returned (.bool false) ∧ w = w' :=
  (refSign_any r w).mono fun _ _ ⟨a, b⟩ => ⟨by rw [a, h], b⟩
theorem refClass_any (r : Int) (w : World) : Calls Tryz.prog 88 #[.int .i64 r] w fun e w' => e = .returned (.int .i64 (cls r)) ∧ w = w' := by
  by_cases hs : sgn r = true
  · have H : Hid (0 ≤ r ∧ r ≤ 1114111 ∧ (r < 55296 ∨ 57343 < r)) := by unfold sgn at hs; exact Lib.hid (of_decide_eq_true hs)
    go_enter Tryz.func88, Tryz.ntmps88
    go_wp2_with (go_at_call 77; refine (refSign_yes _ hs _).mono ?_; rintro e w' ⟨rfl, rfl⟩)
    all_goals (go_ret; refine ⟨ret_int ?_, rfl⟩; have HO := H.out; (try simp only [Bool.or_eq_true, Bool.or_eq_false_iff, beq_iff_eq, beq_eq_false_iff_ne, decide_eq_true_eq, decide_eq_false_iff_not] at *); unfold cls; omega)
  · have hs : sgn r = false := by simpa using hs
    have H : Hid (¬ (0 ≤ r ∧ r ≤ 1114111 ∧ (r < 55296 ∨ 57343 < r))) := by unfold sgn at hs; exact Lib.hid (of_decide_eq_false hs)
    go_enter Tryz.func88, Tryz.ntmps88
    go_wp2_with (go_at_call 77; refine (refSign_no _ hs _).mono ?_; rintro e w' ⟨rfl, rfl⟩)
    all_goals (go_ret; refine ⟨ret_int ?_, rfl⟩; have HO := H.out; unfold cls; omega)
theorem hex_step (n k : Int) (a b : Int) (h : hexv n < 0 ∨ k ≤ hexv n) (h1 : n ≠ a) (h2 : n ≠ b) (hab : (k < 10 ∧ a = 48 + k ∧ b = 48 + k) ∨ (10 ≤ k ∧ a = 87 + k ∧ b = 55 + k)) (h0 : 0 ≤ k) (h16 : k < 16) : hexv n < 0 ∨ k + 1 ≤ hexv n := by
  unfold hexv at *
  omega
theorem hex_end (n : Int) (h : hexv n < 0 ∨ 16 ≤ hexv n) : -1 = hexv n := by unfold hexv at *; omega
set_option maxHeartbeats 4000000 in
theorem refHex_any (n : Int) (w : World) : Calls Tryz.prog 93 #[.int .i64 n] w fun e w' => e = .returned (.int .i64 (hexv n)) ∧ w = w' := by
  go_enter Tryz.func93, Tryz.ntmps93
  go_wp2
  go_loop [5] (fun i => ∃ k : Int, 0 ≤ k ∧ k ≤ 16 ∧ i = .int .i64 k ∧ Hid (hexv n < 0 ∨ k ≤ hexv n)) (fun i => 16 - (intOf i).toNat)
  case atStart => exact ⟨0, by omega, by omega, rfl, Lib.hid (by omega)⟩
  case round =>
    obtain ⟨k, hk0, hk, rfl, H⟩ := hrel
    obtain rfl | rfl | rfl | rfl | rfl | rfl | rfl | rfl | rfl | rfl | rfl | rfl | rfl | rfl | rfl | rfl | rfl : k = 0 ∨ k = 1 ∨ k = 2 ∨ k = 3 ∨ k = 4 ∨ k = 5 ∨ k = 6 ∨ k = 7 ∨ k = 8 ∨ k = 9 ∨ k = 10 ∨ k = 11 ∨ k = 12 ∨ k = 13 ∨ k = 14 ∨ k = 15 ∨ k = 16 := by omega
    · have e1 : (((⟨#[48, 49, 50, 51, 52, 53, 54, 55, 56, 57, 97, 98, 99, 100, 101, 102]⟩ : ByteArray)[0]'(by decide)).toNat) = 48 := rfl
      have e2 : (((⟨#[48, 49, 50, 51, 52, 53, 54, 55, 56, 57, 65, 66, 67, 68, 69, 70]⟩ : ByteArray)[0]'(by decide)).toNat) = 48 := rfl
      go_wp2
      all_goals first
        | (go_ret; refine ⟨ret_int ?_, rfl⟩; (try simp only [beq_iff_eq, beq_eq_false_iff_ne] at *); unfold hexv; omega)
        | (go_round; (case rel => exact ⟨1, by omega, by omega, rfl, by (try simp only [beq_iff_eq, beq_eq_false_iff_ne] at *); exact Lib.hid (hex_step n 0 48 48 H.out (by omega) (by omega) (by omega) (by omega) (by omega))⟩); (case measure => simp [intOf]))
    · have e1 : (((⟨#[48, 49, 50, 51, 52, 53, 54, 55, 56, 57, 97, 98, 99, 100, 101, 102]⟩ : ByteArray)[1]'(by decide)).toNat) = 49 := rfl
      have e2 : (((⟨#[48, 49, 50, 51, 52, 53, 54, 55, 56, 57, 65, 66, 67, 68, 69, 70]⟩ : ByteArray)[1]'(by decide)).toNat) = 49 := rfl
      go_wp2
      all_goals first
        | (go_ret; refine ⟨ret_int ?_, rfl⟩; (try simp only [beq_iff_eq, beq_eq_false_iff_ne] at *); unfold hexv; omega)
        | (go_round; (case rel => exact ⟨2, by omega, by omega, rfl, by (try simp only [beq_iff_eq, beq_eq_false_iff_ne] at *); exact Lib.hid (hex_step n 1 49 49 H.out (by omega) (by omega) (by omega) (by omega) (by omega))⟩); (case measure => simp [intOf]))
    · have e1 : (((⟨#[48, 49, 50, 51, 52, 53, 54, 55, 56, 57, 97, 98, 99, 100, 101, 102]⟩ : ByteArray)[2]'(by decide)).toNat) = 50 := rfl
      have e2 : (((⟨#[48, 49, 50, 51, 52, 53, 54, 55, 56, 57, 65, 66, 67, 68, 69, 70]⟩ : ByteArray)[2]'(by decide)).toNat) = 50 := rfl
      go_wp2
      all_goals first
        | (go_ret; refine ⟨ret_int ?_, rfl⟩; (try simp only [beq_iff_eq, beq_eq_false_iff_ne] at *); unfold hexv; omega)
        | (go_round; (case rel => exact ⟨3, by omega, by omega, rfl, by (try simp only [beq_iff_eq, beq_eq_false_iff_ne] at *); exact Lib.hid (hex_step n 2 50 50 H.out (by omega) (by omega) (by omega) (by omega) (by omega))⟩); (case measure => simp [intOf]))
    · have e1 : (((⟨#[48, 49, 50, 51, 52, 53, 54, 55, 56, 57, 97, 98, 99, 100, 101, 102]⟩ : ByteArray)[3]'(by decide)).toNat) = 51 := rfl
      have e2 : (((⟨#[48, 49, 50, 51, 52, 53, 54, 55, 56, 57, 65, 66, 67, 68, 69, 70]⟩ : ByteArray)[3]'(by decide)).toNat) = 51 := rfl
      go_wp2
      all_goals first
        | (go_ret; refine ⟨ret_int ?_, rfl⟩; (try simp only [beq_iff_eq, beq_eq_false_iff_ne] at *); unfold hexv; omega)
        | (go_round; (case rel => exact ⟨4, by omega, by omega, rfl, by (try simp only [beq_iff_eq, beq_eq_false_iff_ne] at *); exact Lib.hid (hex_step n 3 51 51 H.out (by omega) (by omega) (by omega) (by omega) (by omega))⟩); (case measure => simp [intOf]))
    · have e1 : (((⟨#[48, 49, 50, 51, 52, 53, 54, 55, 56, 57, 97, 98, 99, 100, 101, 102]⟩ : ByteArray)[4]'(by decide)).toNat) = 52 := rfl
      have e2 : (((⟨#[48, 49, 50, 51, 52, 53, 54, 55, 56, 57, 65, 66, 67, 68, 69, 70]⟩ : ByteArray)[4]'(by decide)).toNat) = 52 := rfl
      go_wp2
      all_goals first
        | (go_ret; refine ⟨ret_int ?_, rfl⟩; (try simp only [beq_iff_eq, beq_eq_false_iff_ne] at *); unfold hexv; omega)
        | (go_round; (case rel => exact ⟨5, by omega, by omega, rfl, by (try simp only [beq_iff_eq, beq_eq_false_iff_ne] at *); exact Lib.hid (hex_step n 4 52 52 H.out (by omega) (by omega) (by omega) (by omega) (by omega))⟩); (case measure => simp [intOf]))
    · have e1 : (((⟨#[48, 49, 50, 51, 52, 53, 54, 55, 56, 57, 97, 98, 99, 100, 101, 102]⟩ : ByteArray)[5]'(by decide)).toNat) = 53 := rfl
      have e2 : (((⟨#[48, 49, 50, 51, 52, 53, 54, 55, 56, 57, 65, 66, 67, 68, 69, 70]⟩ : ByteArray)[5]'(by decide)).toNat) = 53 := rfl
      go_wp2
      all_goals first
        | (go_ret; refine ⟨ret_int ?_, rfl⟩; (try simp only [beq_iff_eq, beq_eq_false_iff_ne] at *); unfold hexv; omega)
        | (go_round; (case rel => exact ⟨6, by omega, by omega, rfl, by (try simp only [beq_iff_eq, beq_eq_false_iff_ne] at *); exact Lib.hid (hex_step n 5 53 53 H.out (by omega) (by omega) (by omega) (by omega) (by omega))⟩); (case measure => simp [intOf]))
    · have e1 : (((⟨#[48, 49, 50, 51, 52, 53, 54, 55, 56, 57, 97, 98, 99, 100, 101, 102]⟩ : ByteArray)[6]'(by decide)).toNat) = 54 := rfl
      have e2 : (((⟨#[48, 49, 50, 51, 52, 53, 54, 55, 56, 57, 65, 66, 67, 68, 69, 70]⟩ : ByteArray)[6]'(by decide)).toNat) = 54 := rfl
      go_wp2
      all_goals first
        | (go_ret; refine ⟨ret_int ?_, rfl⟩; (try simp only [beq_iff_eq, beq_eq_false_iff_ne] at *); unfold hexv; omega)
        | (go_round; (case rel => exact ⟨7, by omega, by omega, rfl, by (try simp only [beq_iff_eq, beq_eq_false_iff_ne] at *); exact Lib.hid (hex_step n 6 54 54 H.out (by omega) (by omega) (by omega) (by omega) (by omega))⟩); (case measure => simp [intOf]))
    · have e1 : (((⟨#[48, 49, 50, 51, 52, 53, 54, 55, 56, 57, 97, 98, 99, 100, 101, 102]⟩ : ByteArray)[7]'(by decide)).toNat) = 55 := rfl
      have e2 : (((⟨#[48, 49, 50, 51, 52, 53, 54, 55, 56, 57, 65, 66, 67, 68, 69, 70]⟩ : ByteArray)[7]'(by decide)).toNat) = 55 := rfl
      go_wp2
      all_goals first
        | (go_ret; refine ⟨ret_int ?_, rfl⟩; (try simp only [beq_iff_eq, beq_eq_false_iff_ne] at *); unfold hexv; omega)
        | (go_round; (case rel => exact ⟨8, by omega, by omega, rfl, by (try simp only [beq_iff_eq, beq_eq_false_iff_ne] at *); exact Lib.hid (hex_step n 7 55 55 H.out (by omega) (by omega) (by omega) (by omega) (by omega))⟩); (case measure => simp [intOf]))
    · have e1 : (((⟨#[48, 49, 50, 51, 52, 53, 54, 55, 56, 57, 97, 98, 99, 100, 101, 102]⟩ : ByteArray)[8]'(by decide)).toNat) = 56 := rfl
      have e2 : (((⟨#[48, 49, 50, 51, 52, 53, 54, 55, 56, 57, 65, 66, 67, 68, 69, 70]⟩ : ByteArray)[8]'(by decide)).toNat) = 56 := rfl
      go_wp2
      all_goals first
        | (go_ret; refine ⟨ret_int ?_, rfl⟩; (try simp only [beq_iff_eq, beq_eq_false_iff_ne] at *); unfold hexv; omega)
        | (go_round; (case rel => exact ⟨9, by omega, by omega, rfl, by (try simp only [beq_iff_eq, beq_eq_false_iff_ne] at *); exact Lib.hid (hex_step n 8 56 56 H.out (by omega) (by omega) (by omega) (by omega) (by omega))⟩); (case measure => simp [intOf]))
    · have e1 : (((⟨#[48, 49, 50, 51, 52, 53, 54, 55, 56, 57, 97, 98, 99, 100, 101, 102]⟩ : ByteArray)[9]'(by decide)).toNat) = 57 := rfl
      have e2 : (((⟨#[48, 49, 50, 51, 52, 53, 54, 55, 56, 57, 65, 66, 67, 68, 69, 70]⟩ : ByteArray)[9]'(by decide)).toNat) = 57 := rfl
      go_wp2
      all_goals first
        | (go_ret; refine ⟨ret_int ?_, rfl⟩; (try simp only [beq_iff_eq, beq_eq_false_iff_ne] at *); unfold hexv; omega)
        | (go_round; (case rel => exact ⟨10, by omega, by omega, rfl, by (try simp only [beq_iff_eq, beq_eq_false_iff_ne] at *); exact Lib.hid (hex_step n 9 57 57 H.out (by omega) (by omega) (by omega) (by omega) (by omega))⟩); (case measure => simp [intOf]))
    · have e1 : (((⟨#[48, 49, 50, 51, 52, 53, 54, 55, 56, 57, 97, 98, 99, 100, 101, 102]⟩ : ByteArray)[10]'(by decide)).toNat) = 97 := rfl
      have e2 : (((⟨#[48, 49, 50, 51, 52, 53, 54, 55, 56, 57, 65, 66, 67, 68, 69, 70]⟩ : ByteArray)[10]'(by decide)).toNat) = 65 := rfl
      go_wp2
      all_goals first
        | (go_ret; refine ⟨ret_int ?_, rfl⟩; (try simp only [beq_iff_eq, beq_eq_false_iff_ne] at *); unfold hexv; omega)
        | (go_round; (case rel => exact ⟨11, by omega, by omega, rfl, by (try simp only [beq_iff_eq, beq_eq_false_iff_ne] at *); exact Lib.hid (hex_step n 10 97 65 H.out (by omega) (by omega) (by omega) (by omega) (by omega))⟩); (case measure => simp [intOf]))
    · have e1 : (((⟨#[48, 49, 50, 51, 52, 53, 54, 55, 56, 57, 97, 98, 99, 100, 101, 102]⟩ : ByteArray)[11]'(by decide)).toNat) = 98 := rfl
      have e2 : (((⟨#[48, 49, 50, 51, 52, 53, 54, 55, 56, 57, 65, 66, 67, 68, 69, 70]⟩ : ByteArray)[11]'(by decide)).toNat) = 66 := rfl
      go_wp2
      all_goals first
        | (go_ret; refine ⟨ret_int ?_, rfl⟩; (try simp only [beq_iff_eq, beq_eq_false_iff_ne] at *); unfold hexv; omega)
        | (go_round; (case rel => exact ⟨12, by omega, by omega, rfl, by (try simp only [beq_iff_eq, beq_eq_false_iff_ne] at *); exact Lib.hid (hex_step n 11 98 66 H.out (by omega) (by omega) (by omega) (by omega) (by omega))⟩); (case measure => simp [intOf]))
    · have e1 : (((⟨#[48, 49, 50, 51, 52, 53, 54, 55, 56, 57, 97, 98, 99, 100, 101, 102]⟩ : ByteArray)[12]'(by decide)).toNat) = 99 := rfl
      have e2 : (((⟨#[48, 49, 50, 51, 52, 53, 54, 55, 56, 57, 65, 66, 67, 68, 69, 70]⟩ : ByteArray)[12]'(by decide)).toNat) = 67 := rfl
      go_wp2
      all_goals first
        | (go_ret; refine ⟨ret_int ?_, rfl⟩; (try simp only [beq_iff_eq, beq_eq_false_iff_ne] at *); unfold hexv; omega)
        | (go_round; (case rel => exact ⟨13, by omega, by omega, rfl, by (try simp only [beq_iff_eq, beq_eq_false_iff_ne] at *); exact Lib.hid (hex_step n 12 99 67 H.out (by omega) (by omega) (by omega) (by omega) (by omega))⟩); (case measure => simp [intOf]))
    · have e1 : (((⟨#[48, 49, 50, 51, 52, 53, 54, 55, 56, 57, 97, 98, 99, 100, 101, 102]⟩ : ByteArray)[13]'(by decide)).toNat) = 100 := rfl
      have e2 : (((⟨#[48, 49, 50, 51, 52, 53, 54, 55, 56, 57, 65, 66, 67, 68, 69, 70]⟩ : ByteArray)[13]'(by decide)).toNat) = 68 := rfl
      go_wp2
      all_goals first
        | (go_ret; refine ⟨ret_int ?_, rfl⟩; (try simp only [beq_iff_eq, beq_eq_false_iff_ne] at *); unfold hexv; omega)
        | (go_round; (case rel => exact ⟨14, by omega, by omega, rfl, by (try simp only [beq_iff_eq, beq_eq_false_iff_ne] at *); exact Lib.hid (hex_step n 13 100 68 H.out (by omega) (by omega) (by omega) (by omega) (by omega))⟩); (case measure => simp [intOf]))
    · have e1 : (((⟨#[48, 49, 50, 51, 52, 53, 54, 55, 56, 57, 97, 98, 99, 100, 101, 102]⟩ : ByteArray)[14]'(by decide)).toNat) = 101 := rfl
      have e2 : (((⟨#[48, 49, 50, 51, 52, 53, 54, 55, 56, 57, 65, 66, 67, 68, 69, 70]⟩ : ByteArray)[14]'(by decide)).toNat) = 69 := rfl
      go_wp2
      all_goals first
        | (go_ret; refine ⟨ret_int ?_, rfl⟩; (try simp only [beq_iff_eq, beq_eq_false_iff_ne] at *); unfold hexv; omega)
        | (go_round; (case rel => exact ⟨15, by omega, by omega, rfl, by (try simp only [beq_iff_eq, beq_eq_false_iff_ne] at *); exact Lib.hid (hex_step n 14 101 69 H.out (by omega) (by omega) (by omega) (by omega) (by omega))⟩); (case measure => simp [intOf]))
    · have e1 : (((⟨#[48, 49, 50, 51, 52, 53, 54, 55, 56, 57, 97, 98, 99, 100, 101, 102]⟩ : ByteArray)[15]'(by decide)).toNat) = 102 := rfl
      have e2 : (((⟨#[48, 49, 50, 51, 52, 53, 54, 55, 56, 57, 65, 66, 67, 68, 69, 70]⟩ : ByteArray)[15]'(by decide)).toNat) = 70 := rfl
      go_wp2
      all_goals first
        | (go_ret; refine ⟨ret_int ?_, rfl⟩; (try simp only [beq_iff_eq, beq_eq_false_iff_ne] at *); unfold hexv; omega)
        | (go_round; (case rel => exact ⟨16, by omega, by omega, rfl, by (try simp only [beq_iff_eq, beq_eq_false_iff_ne] at *); exact Lib.hid (hex_step n 15 102 70 H.out (by omega) (by omega) (by omega) (by omega) (by omega))⟩); (case measure => simp [intOf]))
    · go_wp2
      go_ret
      exact ⟨ret_int (hex_end n H.out), rfl⟩
def lettNot (n k : Int) : Prop := (1 ≤ k → n ≠ 9) ∧ (2 ≤ k → n ≠ 10) ∧ (3 ≤ k → n ≠ 13) ∧ (4 ≤ k → n ≠ 8) ∧ (5 ≤ k → n ≠ 12) ∧ (6 ≤ k → n ≠ 34) ∧ (7 ≤ k → n ≠ 92)
set_option maxHeartbeats 4000000 in
theorem refLetter_any (n : Int) (w : World) : Calls Tryz.prog 94 #[.int .i64 n] w fun e w' => e = .returned (.int .u8 (lett n)) ∧ w = w' := by
  go_enter Tryz.func94, Tryz.ntmps94
  go_wp2
  go_loop [5] (fun i => ∃ k : Int, 0 ≤ k ∧ k ≤ 7 ∧ i = .int .i64 k ∧ lettNot n k) (fun i => 7 - (intOf i).toNat)
  case atStart => exact ⟨0, by omega, by omega, rfl, by unfold lettNot; omega⟩
  case round =>
    obtain ⟨k, hk0, hk, rfl, H⟩ := hrel
    obtain rfl | rfl | rfl | rfl | rfl | rfl | rfl | rfl : k = 0 ∨ k = 1 ∨ k = 2 ∨ k = 3 ∨ k = 4 ∨ k = 5 ∨ k = 6 ∨ k = 7 := by omega
    · have e1 : (((⟨#[9, 10, 13, 8, 12, 34, 92]⟩ : ByteArray)[0]'(by decide)).toNat) = 9 := rfl
      have e2 : (((⟨#[116, 110, 114, 98, 102, 34, 92]⟩ : ByteArray)[0]'(by decide)).toNat) = 116 := rfl
      go_wp2
      all_goals first
        | (go_ret; refine ⟨ret_int ?_, rfl⟩; (try simp only [beq_iff_eq, beq_eq_false_iff_ne] at *); unfold lett; unfold lettNot at H; omega)
        | (go_round; (case rel => exact ⟨1, by omega, by omega, rfl, by (try simp only [beq_iff_eq, beq_eq_false_iff_ne] at *); unfold lettNot at *; omega⟩); (case measure => simp [intOf]))
    · have e1 : (((⟨#[9, 10, 13, 8, 12, 34, 92]⟩ : ByteArray)[1]'(by decide)).toNat) = 10 := rfl
      have e2 : (((⟨#[116, 110, 114, 98, 102, 34, 92]⟩ : ByteArray)[1]'(by decide)).toNat) = 110 := rfl
      go_wp2
      all_goals first
        | (go_ret; refine ⟨ret_int ?_, rfl⟩; (try simp only [beq_iff_eq, beq_eq_false_iff_ne] at *); unfold lett; unfold lettNot at H; omega)
        | (go_round; (case rel => exact ⟨2, by omega, by omega, rfl, by (try simp only [beq_iff_eq, beq_eq_false_iff_ne] at *); unfold lettNot at *; omega⟩); (case measure => simp [intOf]))
    · have e1 : (((⟨#[9, 10, 13, 8, 12, 34, 92]⟩ : ByteArray)[2]'(by decide)).toNat) = 13 := rfl
      have e2 : (((⟨#[116, 110, 114, 98, 102, 34, 92]⟩ : ByteArray)[2]'(by decide)).toNat) = 114 := rfl
      go_wp2
      all_goals first
        | (go_ret; refine ⟨ret_int ?_, rfl⟩; (try simp only [beq_iff_eq, beq_eq_false_iff_ne] at *); unfold lett; unfold lettNot at H; omega)
        | (go_round; (case rel => exact ⟨3, by omega, by omega, rfl, by (try simp only [beq_iff_eq, beq_eq_false_iff_ne] at *); unfold lettNot at *; omega⟩); (case measure => simp [intOf]))
    · have e1 : (((⟨#[9, 10, 13, 8, 12, 34, 92]⟩ : ByteArray)[3]'(by decide)).toNat) = 8 := rfl
      have e2 : (((⟨#[116, 110, 114, 98, 102, 34, 92]⟩ : ByteArray)[3]'(by decide)).toNat) = 98 := rfl
      go_wp2
      all_goals first
        | (go_ret; refine ⟨ret_int ?_, rfl⟩; (try simp only [beq_iff_eq, beq_eq_false_iff_ne] at *); unfold lett; unfold lettNot at H; omega)
        | (go_round; (case rel => exact ⟨4, by omega, by omega, rfl, by (try simp only [beq_iff_eq, beq_eq_false_iff_ne] at *); unfold lettNot at *; omega⟩); (case measure => simp [intOf]))
    · have e1 : (((⟨#[9, 10, 13, 8, 12, 34, 92]⟩ : ByteArray)[4]'(by decide)).toNat) = 12 := rfl
      have e2 : (((⟨#[116, 110, 114, 98, 102, 34, 92]⟩ : ByteArray)[4]'(by decide)).toNat) = 102 := rfl
      go_wp2
      all_goals first
        | (go_ret; refine ⟨ret_int ?_, rfl⟩; (try simp only [beq_iff_eq, beq_eq_false_iff_ne] at *); unfold lett; unfold lettNot at H; omega)
        | (go_round; (case rel => exact ⟨5, by omega, by omega, rfl, by (try simp only [beq_iff_eq, beq_eq_false_iff_ne] at *); unfold lettNot at *; omega⟩); (case measure => simp [intOf]))
    · have e1 : (((⟨#[9, 10, 13, 8, 12, 34, 92]⟩ : ByteArray)[5]'(by decide)).toNat) = 34 := rfl
      have e2 : (((⟨#[116, 110, 114, 98, 102, 34, 92]⟩ : ByteArray)[5]'(by decide)).toNat) = 34 := rfl
      go_wp2
      all_goals first
        | (go_ret; refine ⟨ret_int ?_, rfl⟩; (try simp only [beq_iff_eq, beq_eq_false_iff_ne] at *); unfold lett; unfold lettNot at H; omega)
        | (go_round; (case rel => exact ⟨6, by omega, by omega, rfl, by (try simp only [beq_iff_eq, beq_eq_false_iff_ne] at *); unfold lettNot at *; omega⟩); (case measure => simp [intOf]))
    · have e1 : (((⟨#[9, 10, 13, 8, 12, 34, 92]⟩ : ByteArray)[6]'(by decide)).toNat) = 92 := rfl
      have e2 : (((⟨#[116, 110, 114, 98, 102, 34, 92]⟩ : ByteArray)[6]'(by decide)).toNat) = 92 := rfl
      go_wp2
      all_goals first
        | (go_ret; refine ⟨ret_int ?_, rfl⟩; (try simp only [beq_iff_eq, beq_eq_false_iff_ne] at *); unfold lett; unfold lettNot at H; omega)
        | (go_round; (case rel => exact ⟨7, by omega, by omega, rfl, by (try simp only [beq_iff_eq, beq_eq_false_iff_ne] at *); unfold lettNot at *; omega⟩); (case measure => simp [intOf]))
    · go_wp2
      go_ret
      refine ⟨ret_int ?_, rfl⟩; unfold lettNot at H; unfold lett; omega
end Go.Proofs.YtpnfjjgihkmjmaaGreatDoor

namespace Go.Proofs.YtpnfjjgihkmjmaaGreatDoor
open Go.RowKit

def rowOf (n : Int) : Array Value := (Lib.runeCells n).toArray
theorem bytes_any (n : Int) (h : sgn n = true) (w : World) :
    Calls Tryz.prog 78 #[.int .i64 n] w fun e w' => e = .returned (.slice (some ⟨w.heap.size, 0, none⟩) (Lib.encodeRune n).length (Lib.encodeRune n).length) ∧ w' = w.alloc (.cells (rowOf n) 5) := by
  obtain ⟨h0, h1, h2⟩ := (sgn_iff n).1 h
  clear h
  by_cases a : n < 128
  · have e1 : rowOf n = #[.int .u8 n] := by unfold rowOf Lib.runeCells; rw [Lib.encodeRuneZ_one (by omega) (by omega)]; rfl
    have e2 : (Lib.encodeRune n).length = 1 := by unfold Lib.encodeRune; rw [Lib.encodeRuneZ_one (by omega) (by omega)]; rfl
    rw [e1, e2]
    clear e1 e2
    go_enter Tryz.func78, Tryz.ntmps78
    go_wp2
    go_ret
    exact ⟨rfl, rfl⟩
  by_cases b : n < 2048
  · have e1 : rowOf n = #[.int .u8 (192 + n / 64), .int .u8 (128 + n % 64)] := by unfold rowOf Lib.runeCells; rw [Lib.encodeRuneZ_two (by omega) (by omega)]; rfl
    have e2 : (Lib.encodeRune n).length = 2 := by unfold Lib.encodeRune; rw [Lib.encodeRuneZ_two (by omega) (by omega)]; rfl
    rw [e1, e2]
    clear e1 e2
    go_enter Tryz.func78, Tryz.ntmps78
    go_wp2
    go_ret
    exact ⟨rfl, rfl⟩
  by_cases c : n < 65536
  · have e1 : rowOf n = #[.int .u8 (224 + n / 4096), .int .u8 (128 + n / 64 % 64), .int .u8 (128 + n % 64)] := by unfold rowOf Lib.runeCells; rw [Lib.encodeRuneZ_three (by omega)]; rfl
    have e2 : (Lib.encodeRune n).length = 3 := by unfold Lib.encodeRune; rw [Lib.encodeRuneZ_three (by omega)]; rfl
    rw [e1, e2]
    clear e1 e2
    go_enter Tryz.func78, Tryz.ntmps78
    go_wp2
    go_ret
    exact ⟨rfl, rfl⟩
  · have e1 : rowOf n = #[.int .u8 (240 + n / 262144), .int .u8 (128 + n / 4096 % 64), .int .u8 (128 + n / 64 % 64), .int .u8 (128 + n % 64)] := by unfold rowOf Lib.runeCells; rw [Lib.encodeRuneZ_four (by omega) (by omega)]; rfl
    have e2 : (Lib.encodeRune n).length = 4 := by unfold Lib.encodeRune; rw [Lib.encodeRuneZ_four (by omega) (by omega)]; rfl
    rw [e1, e2]
    clear e1 e2
    go_enter Tryz.func78, Tryz.ntmps78
    go_wp2
    go_ret
    exact ⟨rfl, rfl⟩
end Go.Proofs.YtpnfjjgihkmjmaaGreatDoor
