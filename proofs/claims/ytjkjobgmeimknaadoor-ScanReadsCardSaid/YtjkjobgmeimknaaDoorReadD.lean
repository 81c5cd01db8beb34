/-
  READING A SIGN'S NUMBER: all ways.
-/
import Derived.Test.YtjkjobgmeimknaaDoorReadC
import Derived.Test.YtjkjobgmeimknaaDoorRunA
namespace Go.Proofs.YtjkjobgmeimknaaDoor
open Go.RowKit
set_option linter.unusedVariables false

/-- m digits are to come, of the number so far, at place p: where it stops, and the sign. -/
def rd : Nat → Int → List Int → Nat → Nat × Option Int
  | 0, S, _, p => if sgn S = true then (p, some S) else (p - 1, none)
  | _ + 1, _, [], p => (p, none)
  | m + 1, S, d :: l, p => if hexv d < 0 then (p, none) else rd m (S * 16 + hexv d) l (p + 1)
theorem rd_zero (S : Int) (l : List Int) (p : Nat) : rd 0 S l p = if sgn S = true then (p, some S) else (p - 1, none) := by cases l <;> rfl
theorem rd_end (m : Nat) (S : Int) (p : Nat) : rd (m + 1) S [] p = (p, none) := rfl
theorem rd_cons (m : Nat) (S d : Int) (l : List Int) (p : Nat) : rd (m + 1) S (d :: l) p = if hexv d < 0 then (p, none) else rd m (S * 16 + hexv d) l (p + 1) := rfl
def RdPost (B : Nat) (w : World) (b : Nat) (v : Value) (sl : List Int) (r : Nat × Option Int) (e : Ending) (w' : World) : Prop :=
  e = .returned (.tuple #[.int .i32 (r.2.getD 0), .bool r.2.isSome]) ∧ Moves B w b v sl r.1 w'
/-- As a rune holds it. -/
def w32 (S : Int) : Int := if S < 2147483648 then S else S - 4294967296
theorem bits_high (X D : Int) (h1 : 2147483648 ≤ X) (h2 : X < 4294967296) (hm : X % 16 = 0) (d0 : 0 ≤ D) (d1 : D < 16) : bits .or .i32 (X - 4294967296) D = X - 4294967296 + D := by
  obtain ⟨x, rfl⟩ := Int.eq_ofNat_of_zero_le (show 0 ≤ X by omega)
  obtain ⟨d, rfl⟩ := Int.eq_ofNat_of_zero_le d0
  have e : BitVec.ofInt 32 ((x : Int) - 4294967296) = BitVec.ofNat 32 x := by
    apply BitVec.eq_of_toNat_eq
    simp [BitVec.toNat_ofInt]
    omega
  have hj := bits_join .u32 32 (by decide) (fun n a b => by rw [IntKind.wrap_u32]; omega) 4 (x : Int) (d : Int) (by omega) (by omega) (by omega) (by omega) (by omega) (by omega)
  have ex : x % 2 ^ 32 = x := Nat.mod_eq_of_lt (by omega)
  have ed : d % 2 ^ 32 = d := Nat.mod_eq_of_lt (by omega)
  have hj2 : IntKind.u32.wrap (((BitVec.ofInt 32 (x : Int) ||| BitVec.ofInt 32 (d : Int) : BitVec 32).toNat : Nat) : Int) = (x : Int) + (d : Int) := hj
  rw [BitVec.ofInt_natCast, BitVec.ofInt_natCast, BitVec.toNat_or, BitVec.toNat_ofNat, BitVec.toNat_ofNat, ex, ed, IntKind.wrap_u32] at hj2
  show IntKind.i32.wrap (((BitVec.ofInt 32 ((x : Int) - 4294967296) ||| BitVec.ofInt 32 (d : Int) : BitVec 32).toNat : Nat) : Int) = _
  rw [e, BitVec.ofInt_natCast, BitVec.toNat_or, BitVec.toNat_ofNat, BitVec.toNat_ofNat, ex, ed, IntKind.wrap_i32]
  omega
/-- i digits are read, g are to come. -/
def NumA (B : Nat) (w : World) (b : Nat) (v : Value) (sl : List Int) (m k g : Nat) (s6 s9 : Value) (wr : World) : Prop :=
  ∃ (i : Nat) (S : Int), i + g = m ∧ k + i ≤ sl.length ∧ 0 ≤ S ∧ S < 16 ^ i ∧ s6 = .int .i32 (w32 S) ∧ s9 = .int .i64 i ∧ rd m 0 (sl.drop k) k = rd g S (sl.drop (k + i)) (k + i) ∧ Moves B w b v sl (k + i) wr

set_option maxHeartbeats 4000000 in
set_option maxRecDepth 100000 in
theorem number_any {B : Nat} {w : World} {b : Nat} {v : Value} {sl : List Int} {k : Nat} (h : Sc B w b v sl k) (hk : k ≤ sl.length) (hl : sl.length ≤ 4294967296) (m : Nat) (hm0 : 0 < m) (hm : m ≤ 8) :
    Calls Tryd.prog 57 #[.pointer (some ⟨b, 0, none⟩), .int .i64 m] w (RdPost B w b v sl (rd m 0 (sl.drop k) k)) := by
  have HS := Lib.hid h
  clear h
  go_enter Tryd.func57, Tryd.ntmps57
  go_wp2
  go_loopg [6, 9] m (fun g s6 s9 wr => NumA B w b v sl m k g s6 s9 wr)
  case atStart => exact ⟨0, 0, by omega, by omega, by omega, by omega, rfl, rfl, rfl, HS.out, same_grown (Same.refl _) _⟩
  case round =>
    obtain ⟨i, S, hig, hki, hS0, hS1, rfl, rfl, hrd, hM⟩ := hrel
    have HRD := Lib.hid hrd
    have HM := Lib.hid hM
    obtain ⟨R, hR⟩ : ∃ R, R = w32 S := ⟨_, rfl⟩
    have HR := Lib.hid hR
    cases gk with
    | zero =>
      have him : i = m := by omega
      have hge : ¬ ((i : Int) < (m : Int)) := by omega
      have c1 := hM.1.c1
      have f1 := hM.1.f1
      have hS2 : S < 4294967296 := by
        have : (16 : Int) ^ i ≤ 16 ^ 8 := by
          have := Nat.pow_le_pow_right (show 0 < 16 by decide) (show i ≤ 8 by omega)
          exact_mod_cast this
        omega
      have hcl : cls R = 6 ↔ ¬ sgn S = true := by
        rw [sgn_iff, hR]; unfold cls w32; split <;> omega
      rw [← hR]
      by_cases hs : sgn S = true
      · have hnot : (cls R == 6) = false := by
          have : cls R ≠ 6 := fun x => (hcl.1 x) hs
          simpa using this
        have hRS : R = S := by
          have := (sgn_iff _).1 hs
          rw [hR]; unfold w32; rw [if_pos (by omega)]
        have hfin : RdPost B w b v sl (rd m 0 (sl.drop k) k) (.returned (.tuple #[.int .i32 R, .bool true])) wr := by
          rw [hrd, rd_zero, if_pos hs]; exact ⟨by rw [hRS]; rfl, hM⟩
        have HF := Lib.hid hfin
        clear hM hrd hR hcl hs hRS hfin hS0 hS1 hS2
        go_wp2_with (go_at_call 22; (with_reducible refine (class_any R _).mono ?_); rintro e w' ⟨rfl, rfl⟩)
        go_ret2
        exact HF.out
      · have hyes : (cls R == 6) = true := by simpa using hcl.2 hs
        have hfin : RdPost B w b v sl (rd m 0 (sl.drop k) k) (.returned (.tuple #[.int .i32 0, .bool false])) (wr.setCell ⟨b, 1, none⟩ (.int .i64 ((k : Int) + (i : Int) - 1))) := by
          rw [hrd, rd_zero, if_neg hs]
          have := hM.1.place (k + i - 1)
          rw [show ((k + i - 1 : Nat) : Int) = (k : Int) + (i : Int) - 1 by omega] at this
          exact ⟨rfl, this, grown_trans hM.2 (grown_set wr b 1 _)⟩
        have HF := Lib.hid hfin
        clear hM hrd hR hcl hs hfin hS0 hS1 hS2 him
        go_wp2_with (go_at_call 22; (with_reducible refine (class_any R _).mono ?_); rintro e w' ⟨rfl, rfl⟩)
        go_ret2
        exact HF.out
    | succ g =>
      have hi2 : (i : Int) < (m : Int) := by omega
      have hS2 : S < 268435456 := by
        have : (16 : Int) ^ i ≤ 16 ^ 7 := by
          have := Nat.pow_le_pow_right (show 0 < 16 by decide) (show i ≤ 7 by omega)
          exact_mod_cast this
        omega
      have hRS : R = S := by rw [hR]; unfold w32; rw [if_pos (by omega)]
      rw [← hR]
      by_cases he : k + i = sl.length
      · have hP := peek_end hM.1 he hl
        have hH : ∀ W, Calls Tryd.prog 24 #[.int .i32 (-1)] W fun e w' => e = .returned (.int .i64 (-1)) ∧ W = w' := fun W => hex_any (-1) W
        have hfin : ∀ w3, Same wr w3 → RdPost B w b v sl (rd m 0 (sl.drop k) k) (.returned (.tuple #[.int .i32 0, .bool false])) w3 := fun w3 s3 => by
          rw [hrd, he, List.drop_length, rd_end, ← he]; exact ⟨rfl, s3.sc hM.1, grown_trans hM.2 (same_grown s3 _)⟩
        have HF := Lib.hid hfin
        clear hM hrd hR hfin hS0 hS1 hS2 hRS he
        go_wp2_with (first
          | (go_at_call 20; (with_reducible refine hP.mono ?_); rintro e w3 ⟨rfl, hs3⟩)
          | (go_at_call 24; (with_reducible refine (hH _).mono ?_); rintro e w' ⟨rfl, rfl⟩))
        go_ret2
        exact HF.out _ hs3
      · have hx0 : k + i < sl.length := by omega
        obtain ⟨d, hx⟩ : ∃ d, sl[k + i]? = some d := ⟨_, List.getElem?_eq_getElem hx0⟩
        have hP := peek_sign hM.1 hx hl
        have hdr := drop_cons sl (k + i) d hx
        obtain ⟨D, hD⟩ : ∃ D, D = hexv d := ⟨_, rfl⟩
        have hh1 : D ≤ 15 := by rw [hD]; unfold hexv; omega
        have hHx : ∀ W, Calls Tryd.prog 24 #[.int .i32 d] W fun e w' => e = .returned (.int .i64 D) ∧ W = w' := fun W => by have := hex_any d W; rwa [← hD] at this
        by_cases hneg : D < 0
        · have hfin : ∀ w3, Same wr w3 → RdPost B w b v sl (rd m 0 (sl.drop k) k) (.returned (.tuple #[.int .i32 0, .bool false])) w3 := fun w3 s3 => by
            rw [hrd, hdr, rd_cons, if_pos (by omega)]; exact ⟨rfl, s3.sc hM.1, grown_trans hM.2 (same_grown s3 _)⟩
          have HF := Lib.hid hfin
          clear hM hrd hR hfin hS0 hS1 hS2 hRS he hdr hx hD
          go_wp2_with (first
            | (go_at_call 20; (with_reducible refine hP.mono ?_); rintro e w3 ⟨rfl, hs3⟩)
            | (go_at_call 24; (with_reducible refine (hHx _).mono ?_); rintro e w' ⟨rfl, rfl⟩))
          go_ret2
          exact HF.out _ hs3
        · have hD0 : 0 ≤ D := by omega
          have hstep : ∀ w3, Same wr w3 → NumA B w b v sl m k g (.int .i32 (w32 (S * 16 + D))) (.int .i64 ((i : Int) + 1)) (w3.setCell ⟨b, 1, none⟩ (.int .i64 ((k : Int) + (i : Int) + 1))) := fun w3 s3 => by
            refine ⟨i + 1, S * 16 + D, by omega, by omega, by omega, ?_, rfl, by rfl, ?_, ?_, grown_trans (grown_trans hM.2 (same_grown s3 _)) (grown_set w3 b 1 _)⟩
            · rw [Int.pow_succ]; omega
            · rw [hrd, hdr, rd_cons, if_neg (by omega), ← hD, Nat.add_assoc]
            · have := (s3.sc hM.1).place (k + (i + 1))
              rwa [show ((k + (i + 1) : Nat) : Int) = (k : Int) + (i : Int) + 1 by omega] at this
          have HST := Lib.hid hstep
          rw [hRS]
          by_cases hbig : S * 16 + D < 2147483648
          · have hor : bits .or .i32 (S * 16) D = S * 16 + D := bits_join .i32 31 (by decide) wraps_i32 4 (S * 16) D (by omega) (by omega) (by omega) (by omega) (by omega) (by omega)
            have hw : w32 (S * 16 + D) = S * 16 + D := by unfold w32; rw [if_pos hbig]
            rw [hw] at HST
            clear hM hrd hR hRS he hdr hx hD hstep hw hS1
            go_wp2_with (first
              | (go_at_call 20; (with_reducible refine hP.mono ?_); rintro e w3 ⟨rfl, hs3⟩; have h3 := hs3.sc HM.out.1; have c13 := h3.c1; have f13 := h3.f1)
              | (go_at_call 24; (with_reducible refine (hHx _).mono ?_); rintro e w' ⟨rfl, rfl⟩))
            have HF := Lib.hid (HST.out _ hs3)
            clear h3 c13 f13
            go_roundg g
            case measure => omega
            case rel => exact HF.out
          · have hor : bits .or .i32 (S * 16 - 4294967296) D = S * 16 - 4294967296 + D := bits_high (S * 16) D (by omega) (by omega) (by omega) (by omega) (by omega)
            have hw : w32 (S * 16 + D) = S * 16 - 4294967296 + D := by unfold w32; rw [if_neg hbig]; omega
            rw [hw] at HST
            have hshift : IntKind.i32.wrap (S * 16) = S * 16 - 4294967296 := by rw [IntKind.wrap_i32]; omega
            clear hM hrd hR hRS he hdr hx hD hstep hw hS1
            go_wp2_with (first
              | (go_at_call 20; (with_reducible refine hP.mono ?_); rintro e w3 ⟨rfl, hs3⟩; have h3 := hs3.sc HM.out.1; have c13 := h3.c1; have f13 := h3.f1)
              | (go_at_call 24; (with_reducible refine (hHx _).mono ?_); rintro e w' ⟨rfl, rfl⟩))
            have HF := Lib.hid (HST.out _ hs3)
            clear h3 c13 f13
            go_roundg g
            case measure => omega
            case rel => exact HF.out
end Go.Proofs.YtjkjobgmeimknaaDoor
