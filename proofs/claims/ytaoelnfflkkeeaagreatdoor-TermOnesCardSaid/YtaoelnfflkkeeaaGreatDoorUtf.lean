/-
  PLAIN LEAN, NO RUN: texts as lists of signs and their UTF-8 bytes: what is decoded is what was encoded; every list of bytes is the bytes of some signs and a rest that is empty or begins with what is no sign's.
-/
import Derived.Lib.MapLaws
import Derived.Lib.RuneBytes
namespace Go.Proofs.YtaoelnfflkkeeaaGreatDoor
open Go.Lib

def sgn (n : Int) : Bool := decide (0 ≤ n ∧ n ≤ 1114111 ∧ (n < 55296 ∨ 57343 < n))
def AllS (l : List Int) : Prop := ∀ n ∈ l, sgn n = true
def encL (l : List Int) : List UInt8 := l.flatMap encodeRune
def Bad (r : List UInt8) : Prop := r ≠ [] ∧ (decodeL r).1 = 65533 ∧ (decodeL r).2 = 1

theorem sgn_iff (n : Int) : sgn n = true ↔ 0 ≤ n ∧ n ≤ 1114111 ∧ (n < 55296 ∨ 57343 < n) := by unfold sgn; simp
theorem encL_nil : encL [] = [] := rfl
theorem encL_cons (n : Int) (l : List Int) : encL (n :: l) = encodeRune n ++ encL l := by simp [encL]
theorem encL_append (a b : List Int) : encL (a ++ b) = encL a ++ encL b := by simp [encL]
theorem enc_len (n : Int) : 1 ≤ (encodeRune n).length ∧ (encodeRune n).length ≤ 4 := by
  have := runeCells_le n
  rwa [runeCells_length] at this
theorem encL_len (l : List Int) : l.length ≤ (encL l).length ∧ (encL l).length ≤ 4 * l.length := by
  induction l with
  | nil => simp [encL]
  | cons n t ih => rw [encL_cons]; have := enc_len n; simp; omega
theorem AllS.tail {n : Int} {l : List Int} (h : AllS (n :: l)) : AllS l := fun m hm => h m (List.mem_cons_of_mem _ hm)
theorem AllS.head {n : Int} {l : List Int} (h : AllS (n :: l)) : sgn n = true := h n List.mem_cons_self
theorem AllS.append {a b : List Int} (h : AllS a) (k : AllS b) : AllS (a ++ b) := fun n hn => by
  rcases List.mem_append.1 hn with x | x
  · exact h n x
  · exact k n x
theorem AllS.left {a b : List Int} (h : AllS (a ++ b)) : AllS a := fun n hn => h n (List.mem_append.2 (.inl hn))
theorem AllS.right {a b : List Int} (h : AllS (a ++ b)) : AllS b := fun n hn => h n (List.mem_append.2 (.inr hn))
theorem allS_nil : AllS [] := fun _ h => by cases h
theorem u8n (z : Int) (_h0 : 0 ≤ z) (h1 : z < 256) : (z.toNat.toUInt8).toNat = z.toNat := by simp; omega

/-- What was encoded is decoded, whatever stands behind. -/
theorem dec_enc (n : Int) (t : List UInt8) (h : sgn n = true) : decodeL (encodeRune n ++ t) = (n.toNat, (encodeRune n).length) := by
  obtain ⟨h0, h1, h2⟩ := (sgn_iff n).1 h
  rw [decodeL_N]
  unfold encodeRune
  by_cases a : n ≤ 127
  · rw [encodeRuneZ_one h0 a]
    simp only [List.map_cons, List.map_nil, List.cons_append, List.nil_append, List.getD_cons_zero, List.length_cons, List.length_nil]
    rw [u8n n h0 (by omega), decodeN_ascii _ _ _ _ _ (by omega)]
  by_cases b : n ≤ 2047
  · rw [encodeRuneZ_two (by omega) b]
    simp only [List.map_cons, List.map_nil, List.cons_append, List.nil_append, List.getD_cons_zero, List.getD_cons_succ, List.length_cons, List.length_nil]
    rw [u8n _ (by omega) (by omega), u8n _ (by omega) (by omega)]
    unfold decodeN
    rw [if_neg (by omega), if_pos ⟨by omega, by omega, by omega⟩, if_pos (by omega)]
    congr 1; omega
  by_cases c : n ≤ 65535
  · rw [encodeRuneZ_three (by omega)]
    simp only [List.map_cons, List.map_nil, List.cons_append, List.nil_append, List.getD_cons_zero, List.getD_cons_succ, List.length_cons, List.length_nil]
    rw [u8n _ (by omega) (by omega), u8n _ (by omega) (by omega), u8n _ (by omega) (by omega)]
    unfold decodeN
    rw [if_neg (by omega), if_neg (by omega), if_pos ⟨by omega, ⟨by omega, by omega⟩, by omega, by omega⟩, if_pos (by omega)]
    congr 1; omega
  · rw [encodeRuneZ_four (by omega) h1]
    simp only [List.map_cons, List.map_nil, List.cons_append, List.nil_append, List.getD_cons_zero, List.getD_cons_succ, List.length_cons, List.length_nil]
    rw [u8n _ (by omega) (by omega), u8n _ (by omega) (by omega), u8n _ (by omega) (by omega), u8n _ (by omega) (by omega)]
    unfold decodeN
    rw [if_neg (by omega), if_neg (by omega), if_neg (by omega), if_pos ⟨by omega, ⟨by omega, by omega⟩, ⟨by omega, by omega⟩, by omega, by omega⟩, if_pos (by omega)]
    congr 1; omega

/-- A sign's own bytes are no bad ones. -/
theorem dec_good (n : Int) (t : List UInt8) (h : sgn n = true) : ¬ ((decodeL (encodeRune n ++ t)).1 = 65533 ∧ (decodeL (encodeRune n ++ t)).2 = 1) := by
  rw [dec_enc n t h]
  rintro ⟨h1, h2⟩
  have : n = 65533 := by have := (sgn_iff n).1 h; simp at h1; omega
  subst this
  simp [encodeRune, encodeRuneZ] at h2
theorem dec_sgn (l : List UInt8) (_hne : l ≠ []) (hv : ¬ ((decodeL l).1 = 65533 ∧ (decodeL l).2 = 1)) : sgn (decodeL l).1 = true := by
  rw [decodeL_N] at hv ⊢
  rw [sgn_iff]
  rcases decodeN_shape l.length (l.getD 0 0).toNat (l.getD 1 0).toNat (l.getD 2 0).toNat (l.getD 3 0).toNat with ⟨c, e⟩ | ⟨c1, c2, c3, cv, e⟩ | ⟨c1, c2, c3, c4, cv, cs, e⟩ | ⟨c1, c2, c3, c4, c5, cv, cw, e⟩ | e <;> rw [e] at hv ⊢
  · dsimp only; omega
  · dsimp only; omega
  · dsimp only; omega
  · dsimp only; omega
  · exact absurd ⟨rfl, rfl⟩ hv

/-- Every list of bytes: some signs' bytes, and a rest that is empty or begins badly. -/
theorem split_any : ∀ (f : Nat) (l : List UInt8), l.length ≤ f → ∃ sl rest, l = encL sl ++ rest ∧ AllS sl ∧ (rest = [] ∨ Bad rest)
  | 0, l, h => ⟨[], l, rfl, allS_nil, .inl (List.length_eq_zero_iff.1 (by omega))⟩
  | f + 1, l, h => by
    by_cases hne : l = []
    · exact ⟨[], [], by simp [hne, encL], allS_nil, .inl rfl⟩
    by_cases hv : (decodeL l).1 = 65533 ∧ (decodeL l).2 = 1
    · exact ⟨[], l, rfl, allS_nil, .inr ⟨hne, hv⟩⟩
    · have hw := decodeL_width l
      obtain ⟨sl, rest, h1, h2, h3⟩ := split_any f (l.drop (decodeL l).2) (by simp; omega)
      refine ⟨((decodeL l).1 : Int) :: sl, rest, ?_, ?_, h3⟩
      · rw [encL_cons, encode_decode l hne hv, List.append_assoc, ← h1, List.take_append_drop]
      · intro n hn
        rcases List.mem_cons.1 hn with rfl | hn
        · exact dec_sgn l hne hv
        · exact h2 n hn
theorem split_bytes (l : List UInt8) : ∃ sl rest, l = encL sl ++ rest ∧ AllS sl ∧ (rest = [] ∨ Bad rest) := split_any _ l (Nat.le_refl _)

/-- The signs of a text, and the rest, are its own. -/
theorem split_one : ∀ (a b : List Int) (r t : List UInt8), encL a ++ r = encL b ++ t → AllS a → AllS b → (r = [] ∨ Bad r) → (t = [] ∨ Bad t) → a = b ∧ r = t
  | [], [], r, t, h, _, _, _, _ => ⟨rfl, by simpa [encL] using h⟩
  | [], n :: b, r, t, h, _, hb, hr, _ => by
    exfalso
    rw [encL_nil, List.nil_append, encL_cons, List.append_assoc] at h
    rcases hr with rfl | hr
    · have := enc_len n
      have := congrArg List.length h
      simp at this; omega
    · exact dec_good n (encL b ++ t) hb.head (h ▸ hr.2)
  | n :: a, [], r, t, h, ha, _, _, ht => by
    exfalso
    rw [encL_nil, List.nil_append, encL_cons, List.append_assoc] at h
    rcases ht with rfl | ht
    · rw [List.append_eq_nil_iff] at h
      have := enc_len n
      rw [h.1] at this
      simp at this
    · exact dec_good n (encL a ++ r) ha.head (h ▸ ht.2)
  | n :: a, m :: b, r, t, h, ha, hb, hr, ht => by
    rw [encL_cons, List.append_assoc, encL_cons, List.append_assoc] at h
    have e1 := dec_enc n (encL a ++ r) ha.head
    have e2 := dec_enc m (encL b ++ t) hb.head
    rw [h, e2] at e1
    have h1 := (sgn_iff n).1 ha.head
    have h2 := (sgn_iff m).1 hb.head
    have : m = n := by have := congrArg Prod.fst e1; simp at this; omega
    subst this
    obtain ⟨x, y⟩ := split_one a b r t (List.append_cancel_left h) ha.tail hb.tail hr ht
    exact ⟨by rw [x], y⟩
end Go.Proofs.YtaoelnfflkkeeaaGreatDoor
