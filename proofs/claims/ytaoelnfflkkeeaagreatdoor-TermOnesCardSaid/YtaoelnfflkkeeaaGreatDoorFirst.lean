/-
  THE DOCUMENT's 'first': the sign at the beginning of bytes, or that none is there: what the decoder says of them.
-/
import Derived.Test.YtaoelnfflkkeeaaGreatDoorSig
namespace Go.Proofs.YtaoelnfflkkeeaaGreatDoor
open Go.RowKit

theorem ret_two {a b c d : Int} (h : a = c ∧ b = d) : Ending.returned (.tuple #[.int .i64 a, .int .i64 b]) = .returned (.tuple #[.int .i64 c, .int .i64 d]) := by rw [h.1, h.2]
theorem elen1 (n : Int) (h0 : 0 ≤ n) (h : n < 128) : (Lib.encodeRune n).length = 1 := by unfold Lib.encodeRune; rw [Lib.encodeRuneZ_one h0 (by omega)]; rfl
theorem elen2 (n : Int) (h0 : 128 ≤ n) (h : n < 2048) : (Lib.encodeRune n).length = 2 := by unfold Lib.encodeRune; rw [Lib.encodeRuneZ_two h0 (by omega)]; rfl
theorem elen3 (n : Int) (h : (2048 ≤ n ∧ n < 55296) ∨ (57343 < n ∧ n ≤ 65535)) : (Lib.encodeRune n).length = 3 := by unfold Lib.encodeRune; rw [Lib.encodeRuneZ_three h]; rfl
theorem elen4 (n : Int) (h0 : 65536 ≤ n) (h : n ≤ 1114111) : (Lib.encodeRune n).length = 4 := by unfold Lib.encodeRune; rw [Lib.encodeRuneZ_four h0 h]; rfl
theorem bytes_k (n : Int) (h : sgn n = true) (k : Nat) (hk : (Lib.encodeRune n).length = k) (w : World) :
    Calls Tryz.prog 49 #[.int .i64 n] w fun e w' => e = .returned (.slice (some ⟨w.heap.size, 0, none⟩) k k) ∧ w' = w.alloc (.cells (rowOf n) 5) := hk ▸ bytes_any n h w

set_option maxHeartbeats 4000000 in
set_option maxRecDepth 100000 in
theorem first_A (s : ByteArray) (h : 0 < s.size) (_hm : s.size ≤ 4294967296) (w : World) (h1 : byteAt s 0 < 128) :
    Calls Tryz.prog 44 #[.string s] w fun e w' => e = .returned (.tuple #[.int .i64 (fstF s), .int .i64 (sndF s)]) ∧ Below w.heap.size w w' := by
  have E0 : ∀ h', (s[0]'h').toNat = byteAt s 0 := fun h' => byteAt_eq s 0 h'
  go_enter Tryz.func44, Tryz.ntmps44
  go_wp2
  all_goals (go_ret2; exact ⟨ret_two (F_ok s _ _ ((dec0 s).trans (dA _ _ _ _ _ h1)) (by omega) _ _ (by omega) (by omega)), by first | exact Below.refl _ _ | exact (Below.refl _ _).alloc (Nat.le_refl _) _⟩)

set_option maxHeartbeats 4000000 in
set_option maxRecDepth 100000 in
theorem first_E (s : ByteArray) (h : 0 < s.size) (_hm : s.size ≤ 4294967296) (w : World) (h1 : (128 ≤ byteAt s 0 ∧ byteAt s 0 < 192) ∨ 248 ≤ byteAt s 0) :
    Calls Tryz.prog 44 #[.string s] w fun e w' => e = .returned (.tuple #[.int .i64 (fstF s), .int .i64 (sndF s)]) ∧ Below w.heap.size w w' := by
  have E0 : ∀ h', (s[0]'h').toNat = byteAt s 0 := fun h' => byteAt_eq s 0 h'
  have l0 := byteAt_lt s 0
  go_enter Tryz.func44, Tryz.ntmps44
  go_wp2
  all_goals (go_ret2; exact ⟨ret_two (F_bad s (by rw [dec0]; exact dE _ _ _ _ _ (by omega) l0)), by first | exact Below.refl _ _ | exact (Below.refl _ _).alloc (Nat.le_refl _) _⟩)

set_option maxHeartbeats 4000000 in
set_option maxRecDepth 100000 in
theorem first_B (s : ByteArray) (h : 0 < s.size) (_hm : s.size ≤ 4294967296) (w : World) (h1 : 192 ≤ byteAt s 0 ∧ byteAt s 0 < 224) :
    Calls Tryz.prog 44 #[.string s] w fun e w' => e = .returned (.tuple #[.int .i64 (fstF s), .int .i64 (sndF s)]) ∧ Below w.heap.size w w' := by
  have E0 : ∀ h', (s[0]'h').toNat = byteAt s 0 := fun h' => byteAt_eq s 0 h'
  have E1 : ∀ h', (s[1]'h').toNat = byteAt s 1 := fun h' => byteAt_eq s 1 h'
  have l1 := byteAt_lt s 1
  by_cases hN : s.size < 2
  · go_enter Tryz.func44, Tryz.ntmps44
    go_wp2
    all_goals (go_ret2; exact ⟨ret_two (F_bad s (by rw [dec0]; exact dBbad _ _ _ _ _ (by omega) (by omega))), by first | exact Below.refl _ _ | exact (Below.refl _ _).alloc (Nat.le_refl _) _⟩)
  by_cases hc : 128 ≤ byteAt s 1 ∧ byteAt s 1 ≤ 191
  · by_cases hv : (byteAt s 0 - 192) * 64 + byteAt s 1 < 256
    · go_enter Tryz.func44, Tryz.ntmps44
      go_wp2
      refine wp_loop_rounds 5 ?_
      rw [rounds_succ]
      go_wp2_with (first | (go_at_call 48; refine (refSign_yes _ (by rw [sgn_iff]; omega) _).mono ?_; rintro e w' ⟨rfl, rfl⟩) | (go_at_call 49; refine (bytes_k _ (by rw [sgn_iff]; omega) 1 (elen1 _ (by omega) (by omega)) _).mono ?_; rintro e w' ⟨rfl, rfl⟩))
      all_goals (try (rw [rounds_succ]; go_wp2_with (first | (go_at_call 48; refine (refSign_yes _ (by rw [sgn_iff]; omega) _).mono ?_; rintro e w' ⟨rfl, rfl⟩) | (go_at_call 49; refine (bytes_k _ (by rw [sgn_iff]; omega) 1 (elen1 _ (by omega) (by omega)) _).mono ?_; rintro e w' ⟨rfl, rfl⟩))))
      all_goals (go_ret2; exact ⟨ret_two (F_bad s (by rw [dec0]; exact dBbad _ _ _ _ _ (by omega) (by omega))), by first | exact Below.refl _ _ | exact (Below.refl _ _).alloc (Nat.le_refl _) _⟩)
    · go_enter Tryz.func44, Tryz.ntmps44
      go_wp2
      refine wp_loop_rounds 5 ?_
      rw [rounds_succ]
      go_wp2_with (first | (go_at_call 48; refine (refSign_yes _ (by rw [sgn_iff]; omega) _).mono ?_; rintro e w' ⟨rfl, rfl⟩) | (go_at_call 49; refine (bytes_k _ (by rw [sgn_iff]; omega) 2 (elen2 _ (by omega) (by omega)) _).mono ?_; rintro e w' ⟨rfl, rfl⟩))
      all_goals (try (rw [rounds_succ]; go_wp2_with (first | (go_at_call 48; refine (refSign_yes _ (by rw [sgn_iff]; omega) _).mono ?_; rintro e w' ⟨rfl, rfl⟩) | (go_at_call 49; refine (bytes_k _ (by rw [sgn_iff]; omega) 2 (elen2 _ (by omega) (by omega)) _).mono ?_; rintro e w' ⟨rfl, rfl⟩))))
      all_goals (go_ret2; exact ⟨ret_two (F_ok s _ _ ((dec0 s).trans (dB _ _ _ _ _ ((byteAt s 0 - 192) * 64 + byteAt s 1 - 128) (by omega) (by omega) (by omega) (by omega) (by omega))) (by omega) _ _ (by omega) (by omega)), by first | exact Below.refl _ _ | exact (Below.refl _ _).alloc (Nat.le_refl _) _⟩)
  · go_enter Tryz.func44, Tryz.ntmps44
    go_wp2
    refine wp_loop_rounds 5 ?_
    rw [rounds_succ]
    go_wp2
    all_goals (try (rw [rounds_succ]; go_wp2))
    all_goals (go_ret2; exact ⟨ret_two (F_bad s (by rw [dec0]; exact dBbad _ _ _ _ _ (by omega) (by omega))), by first | exact Below.refl _ _ | exact (Below.refl _ _).alloc (Nat.le_refl _) _⟩)

set_option maxHeartbeats 4000000 in
set_option maxRecDepth 100000 in
theorem first_C (s : ByteArray) (h : 0 < s.size) (_hm : s.size ≤ 4294967296) (w : World) (h1 : 224 ≤ byteAt s 0 ∧ byteAt s 0 < 240) :
    Calls Tryz.prog 44 #[.string s] w fun e w' => e = .returned (.tuple #[.int .i64 (fstF s), .int .i64 (sndF s)]) ∧ Below w.heap.size w w' := by
  have E0 : ∀ h', (s[0]'h').toNat = byteAt s 0 := fun h' => byteAt_eq s 0 h'
  have E1 : ∀ h', (s[1]'h').toNat = byteAt s 1 := fun h' => byteAt_eq s 1 h'
  have l1 := byteAt_lt s 1
  have E2 : ∀ h', (s[2]'h').toNat = byteAt s 2 := fun h' => byteAt_eq s 2 h'
  have l2 := byteAt_lt s 2
  by_cases hN : s.size < 3
  · go_enter Tryz.func44, Tryz.ntmps44
    go_wp2
    all_goals (go_ret2; exact ⟨ret_two (F_bad s (by rw [dec0]; exact dCbad _ _ _ _ _ (by omega) (by omega) l1 l2)), by first | exact Below.refl _ _ | exact (Below.refl _ _).alloc (Nat.le_refl _) _⟩)
  by_cases hc : (128 ≤ byteAt s 1 ∧ byteAt s 1 ≤ 191) ∧ 128 ≤ byteAt s 2 ∧ byteAt s 2 ≤ 191
  · by_cases hv1 : (byteAt s 0 - 224) * 4096 + byteAt s 1 * 64 + byteAt s 2 < 128 + 8320
    · go_enter Tryz.func44, Tryz.ntmps44
      go_wp2
      refine wp_loop_rounds 5 ?_
      rw [rounds_succ]
      go_wp2_with (first | (go_at_call 48; refine (refSign_yes _ (by rw [sgn_iff]; omega) _).mono ?_; rintro e w' ⟨rfl, rfl⟩) | (go_at_call 49; refine (bytes_k _ (by rw [sgn_iff]; omega) 1 (elen1 _ (by omega) (by omega)) _).mono ?_; rintro e w' ⟨rfl, rfl⟩))
      all_goals (try (rw [rounds_succ]; go_wp2_with (first | (go_at_call 48; refine (refSign_yes _ (by rw [sgn_iff]; omega) _).mono ?_; rintro e w' ⟨rfl, rfl⟩) | (go_at_call 49; refine (bytes_k _ (by rw [sgn_iff]; omega) 1 (elen1 _ (by omega) (by omega)) _).mono ?_; rintro e w' ⟨rfl, rfl⟩))))
      all_goals (try (rw [rounds_succ]; go_wp2_with (first | (go_at_call 48; refine (refSign_yes _ (by rw [sgn_iff]; omega) _).mono ?_; rintro e w' ⟨rfl, rfl⟩) | (go_at_call 49; refine (bytes_k _ (by rw [sgn_iff]; omega) 1 (elen1 _ (by omega) (by omega)) _).mono ?_; rintro e w' ⟨rfl, rfl⟩))))
      all_goals (go_ret2; exact ⟨ret_two (F_bad s (by rw [dec0]; exact dCbad _ _ _ _ _ (by omega) (by omega) l1 l2)), by first | exact Below.refl _ _ | exact (Below.refl _ _).alloc (Nat.le_refl _) _⟩)
    by_cases hv2 : (byteAt s 0 - 224) * 4096 + byteAt s 1 * 64 + byteAt s 2 < 2048 + 8320
    · go_enter Tryz.func44, Tryz.ntmps44
      go_wp2
      refine wp_loop_rounds 5 ?_
      rw [rounds_succ]
      go_wp2_with (first | (go_at_call 48; refine (refSign_yes _ (by rw [sgn_iff]; omega) _).mono ?_; rintro e w' ⟨rfl, rfl⟩) | (go_at_call 49; refine (bytes_k _ (by rw [sgn_iff]; omega) 2 (elen2 _ (by omega) (by omega)) _).mono ?_; rintro e w' ⟨rfl, rfl⟩))
      all_goals (try (rw [rounds_succ]; go_wp2_with (first | (go_at_call 48; refine (refSign_yes _ (by rw [sgn_iff]; omega) _).mono ?_; rintro e w' ⟨rfl, rfl⟩) | (go_at_call 49; refine (bytes_k _ (by rw [sgn_iff]; omega) 2 (elen2 _ (by omega) (by omega)) _).mono ?_; rintro e w' ⟨rfl, rfl⟩))))
      all_goals (try (rw [rounds_succ]; go_wp2_with (first | (go_at_call 48; refine (refSign_yes _ (by rw [sgn_iff]; omega) _).mono ?_; rintro e w' ⟨rfl, rfl⟩) | (go_at_call 49; refine (bytes_k _ (by rw [sgn_iff]; omega) 2 (elen2 _ (by omega) (by omega)) _).mono ?_; rintro e w' ⟨rfl, rfl⟩))))
      all_goals (go_ret2; exact ⟨ret_two (F_bad s (by rw [dec0]; exact dCbad _ _ _ _ _ (by omega) (by omega) l1 l2)), by first | exact Below.refl _ _ | exact (Below.refl _ _).alloc (Nat.le_refl _) _⟩)
    by_cases hv3 : 55296 + 8320 ≤ (byteAt s 0 - 224) * 4096 + byteAt s 1 * 64 + byteAt s 2 ∧ (byteAt s 0 - 224) * 4096 + byteAt s 1 * 64 + byteAt s 2 ≤ 57343 + 8320
    · go_enter Tryz.func44, Tryz.ntmps44
      go_wp2
      refine wp_loop_rounds 5 ?_
      rw [rounds_succ]
      go_wp2_with (first | (go_at_call 48; refine (refSign_no _ (by rw [Bool.eq_false_iff, ne_eq, sgn_iff]; omega) _).mono ?_; rintro e w' ⟨rfl, rfl⟩))
      all_goals (try (rw [rounds_succ]; go_wp2_with (first | (go_at_call 48; refine (refSign_no _ (by rw [Bool.eq_false_iff, ne_eq, sgn_iff]; omega) _).mono ?_; rintro e w' ⟨rfl, rfl⟩))))
      all_goals (try (rw [rounds_succ]; go_wp2_with (first | (go_at_call 48; refine (refSign_no _ (by rw [Bool.eq_false_iff, ne_eq, sgn_iff]; omega) _).mono ?_; rintro e w' ⟨rfl, rfl⟩))))
      all_goals (go_ret2; exact ⟨ret_two (F_bad s (by rw [dec0]; exact dCbad _ _ _ _ _ (by omega) (by omega) l1 l2)), by first | exact Below.refl _ _ | exact (Below.refl _ _).alloc (Nat.le_refl _) _⟩)
    · go_enter Tryz.func44, Tryz.ntmps44
      go_wp2
      refine wp_loop_rounds 5 ?_
      rw [rounds_succ]
      go_wp2_with (first | (go_at_call 48; refine (refSign_yes _ (by rw [sgn_iff]; omega) _).mono ?_; rintro e w' ⟨rfl, rfl⟩) | (go_at_call 49; refine (bytes_k _ (by rw [sgn_iff]; omega) 3 (elen3 _ (by omega)) _).mono ?_; rintro e w' ⟨rfl, rfl⟩))
      all_goals (try (rw [rounds_succ]; go_wp2_with (first | (go_at_call 48; refine (refSign_yes _ (by rw [sgn_iff]; omega) _).mono ?_; rintro e w' ⟨rfl, rfl⟩) | (go_at_call 49; refine (bytes_k _ (by rw [sgn_iff]; omega) 3 (elen3 _ (by omega)) _).mono ?_; rintro e w' ⟨rfl, rfl⟩))))
      all_goals (try (rw [rounds_succ]; go_wp2_with (first | (go_at_call 48; refine (refSign_yes _ (by rw [sgn_iff]; omega) _).mono ?_; rintro e w' ⟨rfl, rfl⟩) | (go_at_call 49; refine (bytes_k _ (by rw [sgn_iff]; omega) 3 (elen3 _ (by omega)) _).mono ?_; rintro e w' ⟨rfl, rfl⟩))))
      all_goals (go_ret2; exact ⟨ret_two (F_ok s _ _ ((dec0 s).trans (dC _ _ _ _ _ ((byteAt s 0 - 224) * 4096 + byteAt s 1 * 64 + byteAt s 2 - 8320) (by omega) (by omega) (by omega) (by omega) (by omega) (by omega) (by omega))) (by omega) _ _ (by omega) (by omega)), by first | exact Below.refl _ _ | exact (Below.refl _ _).alloc (Nat.le_refl _) _⟩)
  · go_enter Tryz.func44, Tryz.ntmps44
    go_wp2
    refine wp_loop_rounds 5 ?_
    rw [rounds_succ]
    go_wp2
    all_goals (try (rw [rounds_succ]; go_wp2))
    all_goals (try (rw [rounds_succ]; go_wp2))
    all_goals (go_ret2; exact ⟨ret_two (F_bad s (by rw [dec0]; exact dCbad _ _ _ _ _ (by omega) (by omega) l1 l2)), by first | exact Below.refl _ _ | exact (Below.refl _ _).alloc (Nat.le_refl _) _⟩)

set_option maxHeartbeats 4000000 in
set_option maxRecDepth 100000 in
theorem first_D (s : ByteArray) (h : 0 < s.size) (_hm : s.size ≤ 4294967296) (w : World) (h1 : 240 ≤ byteAt s 0 ∧ byteAt s 0 < 248) :
    Calls Tryz.prog 44 #[.string s] w fun e w' => e = .returned (.tuple #[.int .i64 (fstF s), .int .i64 (sndF s)]) ∧ Below w.heap.size w w' := by
  have E0 : ∀ h', (s[0]'h').toNat = byteAt s 0 := fun h' => byteAt_eq s 0 h'
  have E1 : ∀ h', (s[1]'h').toNat = byteAt s 1 := fun h' => byteAt_eq s 1 h'
  have l1 := byteAt_lt s 1
  have E2 : ∀ h', (s[2]'h').toNat = byteAt s 2 := fun h' => byteAt_eq s 2 h'
  have l2 := byteAt_lt s 2
  have E3 : ∀ h', (s[3]'h').toNat = byteAt s 3 := fun h' => byteAt_eq s 3 h'
  have l3 := byteAt_lt s 3
  by_cases hN : s.size < 4
  · go_enter Tryz.func44, Tryz.ntmps44
    go_wp2
    all_goals (go_ret2; exact ⟨ret_two (F_bad s (by rw [dec0]; exact dDbad _ _ _ _ _ (by omega) (by omega) l1 l2 l3)), by first | exact Below.refl _ _ | exact (Below.refl _ _).alloc (Nat.le_refl _) _⟩)
  by_cases hc : (128 ≤ byteAt s 1 ∧ byteAt s 1 ≤ 191) ∧ (128 ≤ byteAt s 2 ∧ byteAt s 2 ≤ 191) ∧ 128 ≤ byteAt s 3 ∧ byteAt s 3 ≤ 191
  · by_cases hv1 : (byteAt s 0 - 240) * 262144 + byteAt s 1 * 4096 + byteAt s 2 * 64 + byteAt s 3 < 128 + 532608
    · go_enter Tryz.func44, Tryz.ntmps44
      go_wp2
      refine wp_loop_rounds 5 ?_
      rw [rounds_succ]
      go_wp2_with (first | (go_at_call 48; refine (refSign_yes _ (by rw [sgn_iff]; omega) _).mono ?_; rintro e w' ⟨rfl, rfl⟩) | (go_at_call 49; refine (bytes_k _ (by rw [sgn_iff]; omega) 1 (elen1 _ (by omega) (by omega)) _).mono ?_; rintro e w' ⟨rfl, rfl⟩))
      all_goals (try (rw [rounds_succ]; go_wp2_with (first | (go_at_call 48; refine (refSign_yes _ (by rw [sgn_iff]; omega) _).mono ?_; rintro e w' ⟨rfl, rfl⟩) | (go_at_call 49; refine (bytes_k _ (by rw [sgn_iff]; omega) 1 (elen1 _ (by omega) (by omega)) _).mono ?_; rintro e w' ⟨rfl, rfl⟩))))
      all_goals (try (rw [rounds_succ]; go_wp2_with (first | (go_at_call 48; refine (refSign_yes _ (by rw [sgn_iff]; omega) _).mono ?_; rintro e w' ⟨rfl, rfl⟩) | (go_at_call 49; refine (bytes_k _ (by rw [sgn_iff]; omega) 1 (elen1 _ (by omega) (by omega)) _).mono ?_; rintro e w' ⟨rfl, rfl⟩))))
      all_goals (try (rw [rounds_succ]; go_wp2_with (first | (go_at_call 48; refine (refSign_yes _ (by rw [sgn_iff]; omega) _).mono ?_; rintro e w' ⟨rfl, rfl⟩) | (go_at_call 49; refine (bytes_k _ (by rw [sgn_iff]; omega) 1 (elen1 _ (by omega) (by omega)) _).mono ?_; rintro e w' ⟨rfl, rfl⟩))))
      all_goals (go_ret2; exact ⟨ret_two (F_bad s (by rw [dec0]; exact dDbad _ _ _ _ _ (by omega) (by omega) l1 l2 l3)), by first | exact Below.refl _ _ | exact (Below.refl _ _).alloc (Nat.le_refl _) _⟩)
    by_cases hv2 : (byteAt s 0 - 240) * 262144 + byteAt s 1 * 4096 + byteAt s 2 * 64 + byteAt s 3 < 2048 + 532608
    · go_enter Tryz.func44, Tryz.ntmps44
      go_wp2
      refine wp_loop_rounds 5 ?_
      rw [rounds_succ]
      go_wp2_with (first | (go_at_call 48; refine (refSign_yes _ (by rw [sgn_iff]; omega) _).mono ?_; rintro e w' ⟨rfl, rfl⟩) | (go_at_call 49; refine (bytes_k _ (by rw [sgn_iff]; omega) 2 (elen2 _ (by omega) (by omega)) _).mono ?_; rintro e w' ⟨rfl, rfl⟩))
      all_goals (try (rw [rounds_succ]; go_wp2_with (first | (go_at_call 48; refine (refSign_yes _ (by rw [sgn_iff]; omega) _).mono ?_; rintro e w' ⟨rfl, rfl⟩) | (go_at_call 49; refine (bytes_k _ (by rw [sgn_iff]; omega) 2 (elen2 _ (by omega) (by omega)) _).mono ?_; rintro e w' ⟨rfl, rfl⟩))))
      all_goals (try (rw [rounds_succ]; go_wp2_with (first | (go_at_call 48; refine (refSign_yes _ (by rw [sgn_iff]; omega) _).mono ?_; rintro e w' ⟨rfl, rfl⟩) | (go_at_call 49; refine (bytes_k _ (by rw [sgn_iff]; omega) 2 (elen2 _ (by omega) (by omega)) _).mono ?_; rintro e w' ⟨rfl, rfl⟩))))
      all_goals (try (rw [rounds_succ]; go_wp2_with (first | (go_at_call 48; refine (refSign_yes _ (by rw [sgn_iff]; omega) _).mono ?_; rintro e w' ⟨rfl, rfl⟩) | (go_at_call 49; refine (bytes_k _ (by rw [sgn_iff]; omega) 2 (elen2 _ (by omega) (by omega)) _).mono ?_; rintro e w' ⟨rfl, rfl⟩))))
      all_goals (go_ret2; exact ⟨ret_two (F_bad s (by rw [dec0]; exact dDbad _ _ _ _ _ (by omega) (by omega) l1 l2 l3)), by first | exact Below.refl _ _ | exact (Below.refl _ _).alloc (Nat.le_refl _) _⟩)
    by_cases hv3 : 55296 + 532608 ≤ (byteAt s 0 - 240) * 262144 + byteAt s 1 * 4096 + byteAt s 2 * 64 + byteAt s 3 ∧ (byteAt s 0 - 240) * 262144 + byteAt s 1 * 4096 + byteAt s 2 * 64 + byteAt s 3 ≤ 57343 + 532608
    · go_enter Tryz.func44, Tryz.ntmps44
      go_wp2
      refine wp_loop_rounds 5 ?_
      rw [rounds_succ]
      go_wp2_with (first | (go_at_call 48; refine (refSign_no _ (by rw [Bool.eq_false_iff, ne_eq, sgn_iff]; omega) _).mono ?_; rintro e w' ⟨rfl, rfl⟩))
      all_goals (try (rw [rounds_succ]; go_wp2_with (first | (go_at_call 48; refine (refSign_no _ (by rw [Bool.eq_false_iff, ne_eq, sgn_iff]; omega) _).mono ?_; rintro e w' ⟨rfl, rfl⟩))))
      all_goals (try (rw [rounds_succ]; go_wp2_with (first | (go_at_call 48; refine (refSign_no _ (by rw [Bool.eq_false_iff, ne_eq, sgn_iff]; omega) _).mono ?_; rintro e w' ⟨rfl, rfl⟩))))
      all_goals (try (rw [rounds_succ]; go_wp2_with (first | (go_at_call 48; refine (refSign_no _ (by rw [Bool.eq_false_iff, ne_eq, sgn_iff]; omega) _).mono ?_; rintro e w' ⟨rfl, rfl⟩))))
      all_goals (go_ret2; exact ⟨ret_two (F_bad s (by rw [dec0]; exact dDbad _ _ _ _ _ (by omega) (by omega) l1 l2 l3)), by first | exact Below.refl _ _ | exact (Below.refl _ _).alloc (Nat.le_refl _) _⟩)
    by_cases hv4 : (byteAt s 0 - 240) * 262144 + byteAt s 1 * 4096 + byteAt s 2 * 64 + byteAt s 3 < 65536 + 532608
    · go_enter Tryz.func44, Tryz.ntmps44
      go_wp2
      refine wp_loop_rounds 5 ?_
      rw [rounds_succ]
      go_wp2_with (first | (go_at_call 48; refine (refSign_yes _ (by rw [sgn_iff]; omega) _).mono ?_; rintro e w' ⟨rfl, rfl⟩) | (go_at_call 49; refine (bytes_k _ (by rw [sgn_iff]; omega) 3 (elen3 _ (by omega)) _).mono ?_; rintro e w' ⟨rfl, rfl⟩))
      all_goals (try (rw [rounds_succ]; go_wp2_with (first | (go_at_call 48; refine (refSign_yes _ (by rw [sgn_iff]; omega) _).mono ?_; rintro e w' ⟨rfl, rfl⟩) | (go_at_call 49; refine (bytes_k _ (by rw [sgn_iff]; omega) 3 (elen3 _ (by omega)) _).mono ?_; rintro e w' ⟨rfl, rfl⟩))))
      all_goals (try (rw [rounds_succ]; go_wp2_with (first | (go_at_call 48; refine (refSign_yes _ (by rw [sgn_iff]; omega) _).mono ?_; rintro e w' ⟨rfl, rfl⟩) | (go_at_call 49; refine (bytes_k _ (by rw [sgn_iff]; omega) 3 (elen3 _ (by omega)) _).mono ?_; rintro e w' ⟨rfl, rfl⟩))))
      all_goals (try (rw [rounds_succ]; go_wp2_with (first | (go_at_call 48; refine (refSign_yes _ (by rw [sgn_iff]; omega) _).mono ?_; rintro e w' ⟨rfl, rfl⟩) | (go_at_call 49; refine (bytes_k _ (by rw [sgn_iff]; omega) 3 (elen3 _ (by omega)) _).mono ?_; rintro e w' ⟨rfl, rfl⟩))))
      all_goals (go_ret2; exact ⟨ret_two (F_bad s (by rw [dec0]; exact dDbad _ _ _ _ _ (by omega) (by omega) l1 l2 l3)), by first | exact Below.refl _ _ | exact (Below.refl _ _).alloc (Nat.le_refl _) _⟩)
    by_cases hv5 : 1114111 + 532608 < (byteAt s 0 - 240) * 262144 + byteAt s 1 * 4096 + byteAt s 2 * 64 + byteAt s 3
    · go_enter Tryz.func44, Tryz.ntmps44
      go_wp2
      refine wp_loop_rounds 5 ?_
      rw [rounds_succ]
      go_wp2_with (first | (go_at_call 48; refine (refSign_no _ (by rw [Bool.eq_false_iff, ne_eq, sgn_iff]; omega) _).mono ?_; rintro e w' ⟨rfl, rfl⟩))
      all_goals (try (rw [rounds_succ]; go_wp2_with (first | (go_at_call 48; refine (refSign_no _ (by rw [Bool.eq_false_iff, ne_eq, sgn_iff]; omega) _).mono ?_; rintro e w' ⟨rfl, rfl⟩))))
      all_goals (try (rw [rounds_succ]; go_wp2_with (first | (go_at_call 48; refine (refSign_no _ (by rw [Bool.eq_false_iff, ne_eq, sgn_iff]; omega) _).mono ?_; rintro e w' ⟨rfl, rfl⟩))))
      all_goals (try (rw [rounds_succ]; go_wp2_with (first | (go_at_call 48; refine (refSign_no _ (by rw [Bool.eq_false_iff, ne_eq, sgn_iff]; omega) _).mono ?_; rintro e w' ⟨rfl, rfl⟩))))
      all_goals (go_ret2; exact ⟨ret_two (F_bad s (by rw [dec0]; exact dDbad _ _ _ _ _ (by omega) (by omega) l1 l2 l3)), by first | exact Below.refl _ _ | exact (Below.refl _ _).alloc (Nat.le_refl _) _⟩)
    · go_enter Tryz.func44, Tryz.ntmps44
      go_wp2
      refine wp_loop_rounds 5 ?_
      rw [rounds_succ]
      go_wp2_with (first | (go_at_call 48; refine (refSign_yes _ (by rw [sgn_iff]; omega) _).mono ?_; rintro e w' ⟨rfl, rfl⟩) | (go_at_call 49; refine (bytes_k _ (by rw [sgn_iff]; omega) 4 (elen4 _ (by omega) (by omega)) _).mono ?_; rintro e w' ⟨rfl, rfl⟩))
      all_goals (try (rw [rounds_succ]; go_wp2_with (first | (go_at_call 48; refine (refSign_yes _ (by rw [sgn_iff]; omega) _).mono ?_; rintro e w' ⟨rfl, rfl⟩) | (go_at_call 49; refine (bytes_k _ (by rw [sgn_iff]; omega) 4 (elen4 _ (by omega) (by omega)) _).mono ?_; rintro e w' ⟨rfl, rfl⟩))))
      all_goals (try (rw [rounds_succ]; go_wp2_with (first | (go_at_call 48; refine (refSign_yes _ (by rw [sgn_iff]; omega) _).mono ?_; rintro e w' ⟨rfl, rfl⟩) | (go_at_call 49; refine (bytes_k _ (by rw [sgn_iff]; omega) 4 (elen4 _ (by omega) (by omega)) _).mono ?_; rintro e w' ⟨rfl, rfl⟩))))
      all_goals (try (rw [rounds_succ]; go_wp2_with (first | (go_at_call 48; refine (refSign_yes _ (by rw [sgn_iff]; omega) _).mono ?_; rintro e w' ⟨rfl, rfl⟩) | (go_at_call 49; refine (bytes_k _ (by rw [sgn_iff]; omega) 4 (elen4 _ (by omega) (by omega)) _).mono ?_; rintro e w' ⟨rfl, rfl⟩))))
      all_goals (go_ret2; exact ⟨ret_two (F_ok s _ _ ((dec0 s).trans (dD _ _ _ _ _ ((byteAt s 0 - 240) * 262144 + byteAt s 1 * 4096 + byteAt s 2 * 64 + byteAt s 3 - 532608) (by omega) (by omega) (by omega) (by omega) (by omega) (by omega) (by omega) (by omega))) (by omega) _ _ (by omega) (by omega)), by first | exact Below.refl _ _ | exact (Below.refl _ _).alloc (Nat.le_refl _) _⟩)
  · go_enter Tryz.func44, Tryz.ntmps44
    go_wp2
    refine wp_loop_rounds 5 ?_
    rw [rounds_succ]
    go_wp2
    all_goals (try (rw [rounds_succ]; go_wp2))
    all_goals (try (rw [rounds_succ]; go_wp2))
    all_goals (try (rw [rounds_succ]; go_wp2))
    all_goals (go_ret2; exact ⟨ret_two (F_bad s (by rw [dec0]; exact dDbad _ _ _ _ _ (by omega) (by omega) l1 l2 l3)), by first | exact Below.refl _ _ | exact (Below.refl _ _).alloc (Nat.le_refl _) _⟩)

theorem first_any (s : ByteArray) (h : 0 < s.size) (hm : s.size ≤ 4294967296) (w : World) :
    Calls Tryz.prog 44 #[.string s] w fun e w' => e = .returned (.tuple #[.int .i64 (fstF s), .int .i64 (sndF s)]) ∧ Below w.heap.size w w' := by
  by_cases a : byteAt s 0 < 128
  · exact first_A s h hm w a
  by_cases b : byteAt s 0 < 192
  · exact first_E s h hm w (.inl (by omega))
  by_cases c : byteAt s 0 < 224
  · exact first_B s h hm w (by omega)
  by_cases d : byteAt s 0 < 240
  · exact first_C s h hm w (by omega)
  by_cases e : byteAt s 0 < 248
  · exact first_D s h hm w (by omega)
  · exact first_E s h hm w (.inr (by omega))
end Go.Proofs.YtaoelnfflkkeeaaGreatDoor
