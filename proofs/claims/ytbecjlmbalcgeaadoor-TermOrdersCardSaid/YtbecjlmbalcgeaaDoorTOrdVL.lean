/-
  TermOrders: a term that is too long.
-/
import Derived.Test.YtbecjlmbalcgeaaDoorTOrdX
namespace Go.Proofs.YtbecjlmbalcgeaaDoor
open Go.RowKit
set_option linter.unusedVariables false

set_option maxHeartbeats 8000000 in
theorem orders_long (k : Int) (a b c : ByteArray) (k' : Int) (a' b' c' : ByteArray) (k'' : Int) (a'' b'' c'' : ByteArray) (h : shortB a b c = false ∨ (shortB a b c = true ∧ shortB a' b' c' = false) ∨ (shortB a b c = true ∧ shortB a' b' c' = true ∧ shortB a'' b'' c'' = false)) (w : World) (hv : LV w) :
    Calls Tryd.prog 3 #[F4 k a b c, F4 k' a' b' c', F4 k'' a'' b'' c''] w fun e w' => e = .returned (.bool true) ∧ Below w.heap.size w w' := by
  have hS := Tx3.mk w (R4 k a b c) (R4 k' a' b' c') (R4 k'' a'' b'' c'')
  have hLV := Lib.hid hv
  have cA : ∀ {W : World}, Tx3 w (R4 k a b c) (R4 k' a' b' c') (R4 k'' a'' b'' c'') W → Calls Tryd.prog 4 #[] W fun e w' => e = .returned (.bool true) ∧ Tx3 w (R4 k a b c) (R4 k' a' b' c') (R4 k'' a'' b'' c'') w' := fun {W} h => tx_of h (awake_ok W (hv.below h.1))
  have s1 : ∀ {W : World}, Tx3 w (R4 k a b c) (R4 k' a' b' c') (R4 k'' a'' b'' c'') W → Calls Tryd.prog 5 #[F4 k a b c] W fun e w' => e = .returned (.bool (shortB a b c)) ∧ Tx3 w (R4 k a b c) (R4 k' a' b' c') (R4 k'' a'' b'' c'') w' := fun {W} h => tx_of h (short_any k a b c W)
  have s2 : ∀ {W : World}, Tx3 w (R4 k a b c) (R4 k' a' b' c') (R4 k'' a'' b'' c'') W → Calls Tryd.prog 5 #[F4 k' a' b' c'] W fun e w' => e = .returned (.bool (shortB a' b' c')) ∧ Tx3 w (R4 k a b c) (R4 k' a' b' c') (R4 k'' a'' b'' c'') w' := fun {W} h => tx_of h (short_any k' a' b' c' W)
  have s3 : ∀ {W : World}, Tx3 w (R4 k a b c) (R4 k' a' b' c') (R4 k'' a'' b'' c'') W → Calls Tryd.prog 5 #[F4 k'' a'' b'' c''] W fun e w' => e = .returned (.bool (shortB a'' b'' c'')) ∧ Tx3 w (R4 k a b c) (R4 k' a' b' c') (R4 k'' a'' b'' c'') w' := fun {W} h => tx_of h (short_any k'' a'' b'' c'' W)
  clear hv
  rcases h with h1 | ⟨h1, h2⟩ | ⟨h1, h2, h3⟩
  · rw [h1] at s1
    clear h1 s2 s3
    go_enter Tryd.func3, Tryd.ntmps3
    go_wp2_with (first
      | (go_at_call 4; (with_reducible refine (cA (by assumption)).mono ?_); rintro e w1 ⟨rfl, hS1⟩; obtain ⟨p0, p1, p2, p3, p4, p5, p6, p7, p8, p9, p10, p11, _⟩ := Tx3.all hS1; clear hS; have hS := hS1; clear hS1)
      | (go_at_call 5; (with_reducible refine (s1 hS).mono ?_); rintro e w2 ⟨rfl, hS2⟩; obtain ⟨p0, p1, p2, p3, p4, p5, p6, p7, p8, p9, p10, p11, _⟩ := Tx3.all hS2; clear hS; have hS := hS2; clear hS2))
    go_ret
    exact ⟨rfl, hS.1⟩
  · rw [h1] at s1
    rw [h2] at s2
    clear h1 h2 s3
    go_enter Tryd.func3, Tryd.ntmps3
    go_wp2_with (first
      | (go_at_call 4; (with_reducible refine (cA (by assumption)).mono ?_); rintro e w1 ⟨rfl, hS1⟩; obtain ⟨p0, p1, p2, p3, p4, p5, p6, p7, p8, p9, p10, p11, _⟩ := Tx3.all hS1; clear hS; have hS := hS1; clear hS1)
      | (go_at_call 5; (with_reducible refine (s1 hS).mono ?_); rintro e w2 ⟨rfl, hS2⟩; obtain ⟨p0, p1, p2, p3, p4, p5, p6, p7, p8, p9, p10, p11, _⟩ := Tx3.all hS2; clear hS; have hS := hS2; clear hS2)
      | (go_at_call 5; (with_reducible refine (s2 hS).mono ?_); rintro e w2 ⟨rfl, hS2⟩; obtain ⟨p0, p1, p2, p3, p4, p5, p6, p7, p8, p9, p10, p11, _⟩ := Tx3.all hS2; clear hS; have hS := hS2; clear hS2))
    go_ret
    exact ⟨rfl, hS.1⟩
  · rw [h1] at s1
    rw [h2] at s2
    rw [h3] at s3
    clear h1 h2 h3
    go_enter Tryd.func3, Tryd.ntmps3
    go_wp2_with (first
      | (go_at_call 4; (with_reducible refine (cA (by assumption)).mono ?_); rintro e w1 ⟨rfl, hS1⟩; obtain ⟨p0, p1, p2, p3, p4, p5, p6, p7, p8, p9, p10, p11, _⟩ := Tx3.all hS1; clear hS; have hS := hS1; clear hS1)
      | (go_at_call 5; (with_reducible refine (s1 hS).mono ?_); rintro e w2 ⟨rfl, hS2⟩; obtain ⟨p0, p1, p2, p3, p4, p5, p6, p7, p8, p9, p10, p11, _⟩ := Tx3.all hS2; clear hS; have hS := hS2; clear hS2)
      | (go_at_call 5; (with_reducible refine (s2 hS).mono ?_); rintro e w2 ⟨rfl, hS2⟩; obtain ⟨p0, p1, p2, p3, p4, p5, p6, p7, p8, p9, p10, p11, _⟩ := Tx3.all hS2; clear hS; have hS := hS2; clear hS2)
      | (go_at_call 5; (with_reducible refine (s3 hS).mono ?_); rintro e w2 ⟨rfl, hS2⟩; obtain ⟨p0, p1, p2, p3, p4, p5, p6, p7, p8, p9, p10, p11, _⟩ := Tx3.all hS2; clear hS; have hS := hS2; clear hS2))
    go_ret
    exact ⟨rfl, hS.1⟩
end Go.Proofs.YtbecjlmbalcgeaaDoor
