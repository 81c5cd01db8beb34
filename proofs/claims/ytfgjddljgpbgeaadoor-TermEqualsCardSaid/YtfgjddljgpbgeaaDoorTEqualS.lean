/-
  TermEquals: terms that are short.
-/
import Derived.Test.YtfgjddljgpbgeaaDoorTEqualB
namespace Go.Proofs.YtfgjddljgpbgeaaDoor
open Go.RowKit
set_option linter.unusedVariables false

set_option maxRecDepth 100000 in
set_option maxHeartbeats 16000000 in
theorem equals_short (k : Int) (a b c : ByteArray) (k' : Int) (a' b' c' : ByteArray) (k'' : Int) (a'' b'' c'' : ByteArray) (hk : -9223372036854775808 ≤ k ∧ k ≤ 9223372036854775807) (hk' : -9223372036854775808 ≤ k' ∧ k' ≤ 9223372036854775807) (hk'' : -9223372036854775808 ≤ k'' ∧ k'' ≤ 9223372036854775807)
    (h1 : shortB a b c = true) (h2 : shortB a' b' c' = true) (h3 : shortB a'' b'' c'' = true) (w : World) (hv : LV w) :
    Calls Tryd.prog 6 #[F4 k a b c, F4 k' a' b' c', F4 k'' a'' b'' c''] w fun e w' => e = .returned (.bool true) ∧ Below w.heap.size w w' := by
  have hS := Tx3.mk w (R4 k a b c) (R4 k' a' b' c') (R4 k'' a'' b'' c'')
  have sz : ∀ {x y z : ByteArray}, shortB x y z = true → x.size ≤ 5000 := fun {x y z} h => by
    unfold shortB at h
    rw [Bool.and_eq_true] at h
    exact of_decide_eq_true h.1
  have z1 := tmOf_size k a b c (sz h1)
  have z2 := tmOf_size k' a' b' c' (sz h2)
  have z3 := tmOf_size k'' a'' b'' c'' (sz h3)
  have htr := @eqv_trans (tmOf k a b c) (tmOf k' a' b' c') (tmOf k'' a'' b'' c'')
  have cA : ∀ {W : World}, Tx3 w (R4 k a b c) (R4 k' a' b' c') (R4 k'' a'' b'' c'') W → Calls Tryd.prog 10 #[] W fun e w' => e = .returned (.bool true) ∧ Tx3 w (R4 k a b c) (R4 k' a' b' c') (R4 k'' a'' b'' c'') w' := fun {W} h => tx_of h (awake_ok W (hv.below h.1))
  have s1 : ∀ {W : World}, Tx3 w (R4 k a b c) (R4 k' a' b' c') (R4 k'' a'' b'' c'') W → Calls Tryd.prog 11 #[F4 k a b c] W fun e w' => e = .returned (.bool true) ∧ Tx3 w (R4 k a b c) (R4 k' a' b' c') (R4 k'' a'' b'' c'') w' := fun {W} h => tx_of h (by have := short_any k a b c W; rw [h1] at this; exact this)
  have pl1 : ∀ {W : World}, Tx3 w (R4 k a b c) (R4 k' a' b' c') (R4 k'' a'' b'' c'') W → Calls Tryd.prog 12 #[F4 k a b c] W fun e w' => e = .returned (T4 (tmOf k a b c)) ∧ Tx3 w (R4 k a b c) (R4 k' a' b' c') (R4 k'' a'' b'' c'') w' := fun {W} h => tx_of h (plainT_any k hk a b c W)
  have rl1 : ∀ {W : World}, Tx3 w (R4 k a b c) (R4 k' a' b' c') (R4 k'' a'' b'' c'') W → Calls Tryd.prog 13 #[T4 (tmOf k a b c)] W fun e w' => e = .returned (tmOf k a b c).val ∧ Tx3 w (R4 k a b c) (R4 k' a' b' c') (R4 k'' a'' b'' c'') w' := fun {W} h => tx_of h (realT_any k a b c W)
  have s2 : ∀ {W : World}, Tx3 w (R4 k a b c) (R4 k' a' b' c') (R4 k'' a'' b'' c'') W → Calls Tryd.prog 11 #[F4 k' a' b' c'] W fun e w' => e = .returned (.bool true) ∧ Tx3 w (R4 k a b c) (R4 k' a' b' c') (R4 k'' a'' b'' c'') w' := fun {W} h => tx_of h (by have := short_any k' a' b' c' W; rw [h2] at this; exact this)
  have pl2 : ∀ {W : World}, Tx3 w (R4 k a b c) (R4 k' a' b' c') (R4 k'' a'' b'' c'') W → Calls Tryd.prog 12 #[F4 k' a' b' c'] W fun e w' => e = .returned (T4 (tmOf k' a' b' c')) ∧ Tx3 w (R4 k a b c) (R4 k' a' b' c') (R4 k'' a'' b'' c'') w' := fun {W} h => tx_of h (plainT_any k' hk' a' b' c' W)
  have rl2 : ∀ {W : World}, Tx3 w (R4 k a b c) (R4 k' a' b' c') (R4 k'' a'' b'' c'') W → Calls Tryd.prog 13 #[T4 (tmOf k' a' b' c')] W fun e w' => e = .returned (tmOf k' a' b' c').val ∧ Tx3 w (R4 k a b c) (R4 k' a' b' c') (R4 k'' a'' b'' c'') w' := fun {W} h => tx_of h (realT_any k' a' b' c' W)
  have s3 : ∀ {W : World}, Tx3 w (R4 k a b c) (R4 k' a' b' c') (R4 k'' a'' b'' c'') W → Calls Tryd.prog 11 #[F4 k'' a'' b'' c''] W fun e w' => e = .returned (.bool true) ∧ Tx3 w (R4 k a b c) (R4 k' a' b' c') (R4 k'' a'' b'' c'') w' := fun {W} h => tx_of h (by have := short_any k'' a'' b'' c'' W; rw [h3] at this; exact this)
  have pl3 : ∀ {W : World}, Tx3 w (R4 k a b c) (R4 k' a' b' c') (R4 k'' a'' b'' c'') W → Calls Tryd.prog 12 #[F4 k'' a'' b'' c''] W fun e w' => e = .returned (T4 (tmOf k'' a'' b'' c'')) ∧ Tx3 w (R4 k a b c) (R4 k' a' b' c') (R4 k'' a'' b'' c'') w' := fun {W} h => tx_of h (plainT_any k'' hk'' a'' b'' c'' W)
  have rl3 : ∀ {W : World}, Tx3 w (R4 k a b c) (R4 k' a' b' c') (R4 k'' a'' b'' c'') W → Calls Tryd.prog 13 #[T4 (tmOf k'' a'' b'' c'')] W fun e w' => e = .returned (tmOf k'' a'' b'' c'').val ∧ Tx3 w (R4 k a b c) (R4 k' a' b' c') (R4 k'' a'' b'' c'') w' := fun {W} h => tx_of h (realT_any k'' a'' b'' c'' W)
  have e12 : ∀ {W : World}, Tx3 w (R4 k a b c) (R4 k' a' b' c') (R4 k'' a'' b'' c'') W → Calls Tryd.prog 17 #[(tmOf k a b c).val, (tmOf k' a' b' c').val] W fun e w' => e = .returned (.int .u8 (eqv (tmOf k a b c) (tmOf k' a' b' c'))) ∧ Tx3 w (R4 k a b c) (R4 k' a' b' c') (R4 k'' a'' b'' c'') w' := fun {W} h => tx_of h (equal_any (tmOf k a b c) (tmOf k' a' b' c') z1 z2 W (hv.below h.1))
  have e23 : ∀ {W : World}, Tx3 w (R4 k a b c) (R4 k' a' b' c') (R4 k'' a'' b'' c'') W → Calls Tryd.prog 17 #[(tmOf k' a' b' c').val, (tmOf k'' a'' b'' c'').val] W fun e w' => e = .returned (.int .u8 (eqv (tmOf k' a' b' c') (tmOf k'' a'' b'' c''))) ∧ Tx3 w (R4 k a b c) (R4 k' a' b' c') (R4 k'' a'' b'' c'') w' := fun {W} h => tx_of h (equal_any (tmOf k' a' b' c') (tmOf k'' a'' b'' c'') z2 z3 W (hv.below h.1))
  have e13 : ∀ {W : World}, Tx3 w (R4 k a b c) (R4 k' a' b' c') (R4 k'' a'' b'' c'') W → Calls Tryd.prog 17 #[(tmOf k a b c).val, (tmOf k'' a'' b'' c'').val] W fun e w' => e = .returned (.int .u8 (eqv (tmOf k a b c) (tmOf k'' a'' b'' c''))) ∧ Tx3 w (R4 k a b c) (R4 k' a' b' c') (R4 k'' a'' b'' c'') w' := fun {W} h => tx_of h (equal_any (tmOf k a b c) (tmOf k'' a'' b'' c'') z1 z3 W (hv.below h.1))
  obtain ⟨t1, ht1⟩ : ∃ t, t = tmOf k a b c := ⟨_, rfl⟩
  obtain ⟨t2, ht2⟩ : ∃ t, t = tmOf k' a' b' c' := ⟨_, rfl⟩
  obtain ⟨t3, ht3⟩ : ∃ t, t = tmOf k'' a'' b'' c'' := ⟨_, rfl⟩
  rw [← ht1] at pl1 rl1 e12 e13
  rw [← ht2] at pl2 rl2 e12 e23
  rw [← ht3] at pl3 rl3 e23 e13
  rw [← ht1, ← ht2, ← ht3] at htr
  obtain ⟨v1, hv1⟩ : ∃ v, v = t1.val := ⟨_, rfl⟩
  obtain ⟨v2, hv2⟩ : ∃ v, v = t2.val := ⟨_, rfl⟩
  obtain ⟨v3, hv3⟩ : ∃ v, v = t3.val := ⟨_, rfl⟩
  rw [← hv1] at rl1 e12 e13
  rw [← hv2] at rl2 e12 e23
  rw [← hv3] at rl3 e23 e13
  obtain ⟨kind1, hkind1⟩ : ∃ v, v = t1.kind := ⟨_, rfl⟩
  obtain ⟨ta1, hta1⟩ : ∃ v, v = t1.ta := ⟨_, rfl⟩
  obtain ⟨tb1, htb1⟩ : ∃ v, v = t1.tb := ⟨_, rfl⟩
  obtain ⟨tc1, htc1⟩ : ∃ v, v = t1.tc := ⟨_, rfl⟩
  rw [show T4 t1 = F4 kind1 ta1 tb1 tc1 by rw [hkind1, hta1, htb1, htc1]] at pl1 rl1
  obtain ⟨kind2, hkind2⟩ : ∃ v, v = t2.kind := ⟨_, rfl⟩
  obtain ⟨ta2, hta2⟩ : ∃ v, v = t2.ta := ⟨_, rfl⟩
  obtain ⟨tb2, htb2⟩ : ∃ v, v = t2.tb := ⟨_, rfl⟩
  obtain ⟨tc2, htc2⟩ : ∃ v, v = t2.tc := ⟨_, rfl⟩
  rw [show T4 t2 = F4 kind2 ta2 tb2 tc2 by rw [hkind2, hta2, htb2, htc2]] at pl2 rl2
  obtain ⟨kind3, hkind3⟩ : ∃ v, v = t3.kind := ⟨_, rfl⟩
  obtain ⟨ta3, hta3⟩ : ∃ v, v = t3.ta := ⟨_, rfl⟩
  obtain ⟨tb3, htb3⟩ : ∃ v, v = t3.tb := ⟨_, rfl⟩
  obtain ⟨tc3, htc3⟩ : ∃ v, v = t3.tc := ⟨_, rfl⟩
  rw [show T4 t3 = F4 kind3 ta3 tb3 tc3 by rw [hkind3, hta3, htb3, htc3]] at pl3 rl3
  obtain ⟨x12, hx12⟩ : ∃ x, x = eqv t1 t2 := ⟨_, rfl⟩
  obtain ⟨x23, hx23⟩ : ∃ x, x = eqv t2 t3 := ⟨_, rfl⟩
  obtain ⟨x13, hx13⟩ : ∃ x, x = eqv t1 t3 := ⟨_, rfl⟩
  rw [← hx12] at e12
  rw [← hx23] at e23
  rw [← hx13] at e13
  rw [← hx12, ← hx23, ← hx13] at htr
  have ways : ((x12 == 1) = false) ∨ ((x12 == 1) = true ∧ (x23 == 1) = false) ∨ ((x12 == 1) = true ∧ (x23 == 1) = true ∧ (x13 == 1) = true) := by
    by_cases g1 : x12 = 1
    · by_cases g2 : x23 = 1
      · exact .inr (.inr ⟨by simpa using g1, by simpa using g2, by simpa using htr g1 g2⟩)
      · exact .inr (.inl ⟨by simpa using g1, by simpa using g2⟩)
    · exact .inl (by simpa using g1)
  have hLV := Lib.hid hv
  clear hv htr hx12 hx23 hx13 ht1 ht2 ht3 hv1 hv2 hv3 hkind1 hta1 htb1 htc1 hkind2 hta2 htb2 htc2 hkind3 hta3 htb3 htc3 h1 h2 h3 hk hk' hk'' z1 z2 z3 sz
  rcases ways with g1 | ⟨g1, g2⟩ | ⟨g1, g2, g3⟩
  all_goals
    go_enter Tryd.func6, Tryd.ntmps6
    go_wp2_with (first | (go_at_call 10; (with_reducible refine (cA hS).mono ?_); rintro e w2 ⟨rfl, hS2⟩; obtain ⟨p0, p1, p2, p3, p4, p5, p6, p7, p8, p9, p10, p11, _⟩ := Tx3.all hS2; clear hS; have hS := hS2; clear hS2) | (go_at_call 11; (with_reducible refine (s1 hS).mono ?_); rintro e w2 ⟨rfl, hS2⟩; obtain ⟨p0, p1, p2, p3, p4, p5, p6, p7, p8, p9, p10, p11, _⟩ := Tx3.all hS2; clear hS; have hS := hS2; clear hS2) | (go_at_call 11; (with_reducible refine (s2 hS).mono ?_); rintro e w2 ⟨rfl, hS2⟩; obtain ⟨p0, p1, p2, p3, p4, p5, p6, p7, p8, p9, p10, p11, _⟩ := Tx3.all hS2; clear hS; have hS := hS2; clear hS2) | (go_at_call 11; (with_reducible refine (s3 hS).mono ?_); rintro e w2 ⟨rfl, hS2⟩; obtain ⟨p0, p1, p2, p3, p4, p5, p6, p7, p8, p9, p10, p11, _⟩ := Tx3.all hS2; clear hS; have hS := hS2; clear hS2))
    clear p0 p1 p2 p3 p4 p5 p6 p7 p8 p9 p10 p11
    first
      | (go_region_held3 (fun W => W.cell? ⟨w.heap.size, 0, none⟩ = some (.int .i64 k) ∧ W.cell? ⟨w.heap.size, 1, none⟩ = some (.string a) ∧ W.cell? ⟨w.heap.size, 2, none⟩ = some (.string b) ∧ W.cell? ⟨w.heap.size, 3, none⟩ = some (.string c) ∧ W.cell? ⟨w.heap.size + 1, 0, none⟩ = some (.int .i64 k') ∧ W.cell? ⟨w.heap.size + 1, 1, none⟩ = some (.string a') ∧ W.cell? ⟨w.heap.size + 1, 2, none⟩ = some (.string b') ∧ W.cell? ⟨w.heap.size + 1, 3, none⟩ = some (.string c') ∧ W.cell? ⟨w.heap.size + 1 + 1, 0, none⟩ = some (.int .i64 k'') ∧ W.cell? ⟨w.heap.size + 1 + 1, 1, none⟩ = some (.string a'') ∧ W.cell? ⟨w.heap.size + 1 + 1, 2, none⟩ = some (.string b'') ∧ W.cell? ⟨w.heap.size + 1 + 1, 3, none⟩ = some (.string c'') ∧ Tx3 w (R4 k a b c) (R4 k' a' b' c') (R4 k'' a'' b'' c'') W)
          (first | exact Tx3.all (by assumption) | exact Tx3.all (Tx3.drew (by assumption)))
          (first | (go_at_call 12; (with_reducible refine (pl1 (by first | assumption | exact Tx3.drew (by assumption))).mono ?_); rintro e w3 ⟨rfl, hS3⟩) | (go_at_call 12; (with_reducible refine (pl2 (by first | assumption | exact Tx3.drew (by assumption))).mono ?_); rintro e w3 ⟨rfl, hS3⟩) | (go_at_call 12; (with_reducible refine (pl3 (by first | assumption | exact Tx3.drew (by assumption))).mono ?_); rintro e w3 ⟨rfl, hS3⟩) | (go_at_call 13; (with_reducible refine (rl1 (by first | assumption | exact Tx3.drew (by assumption))).mono ?_); rintro e w3 ⟨rfl, hS3⟩) | (go_at_call 13; (with_reducible refine (rl2 (by first | assumption | exact Tx3.drew (by assumption))).mono ?_); rintro e w3 ⟨rfl, hS3⟩) | (go_at_call 13; (with_reducible refine (rl3 (by first | assumption | exact Tx3.drew (by assumption))).mono ?_); rintro e w3 ⟨rfl, hS3⟩)))
      | fail
    clear hS
    have hS := hS3
    clear hS3
    go_wp2_with (first | (go_at_call 17; (with_reducible refine (e12 hS).mono ?_); rintro e w4 ⟨rfl, hS4⟩; clear hS; have hS := hS4; clear hS4) | (go_at_call 17; (with_reducible refine (e23 hS).mono ?_); rintro e w4 ⟨rfl, hS4⟩; clear hS; have hS := hS4; clear hS4) | (go_at_call 17; (with_reducible refine (e13 hS).mono ?_); rintro e w4 ⟨rfl, hS4⟩; clear hS; have hS := hS4; clear hS4))
    go_ret
    exact ⟨rfl, hS.1⟩
end Go.Proofs.YtfgjddljgpbgeaaDoor
