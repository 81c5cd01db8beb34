/-
  TermMakes: the truth false.
-/
import Derived.Test.YtfgjddljgpbgeaaDoorTMkB
namespace Go.Proofs.YtfgjddljgpbgeaaDoor
open Go.RowKit
set_option linter.unusedVariables false

set_option maxRecDepth 100000 in
set_option maxHeartbeats 16000000 in
theorem makes_F (n : Int) (h0 : -9223372036854775808 ≤ n) (h1 : n ≤ 9223372036854775807) (s : ByteArray) (hs : s.size ≤ 5000) (w : World) (hv : LV w) :
    Calls Tryd.prog 4 #[.int .i64 n, .bool false, .string s] w fun e w' => e = .returned (.bool true) ∧ Below w.heap.size w w' := by
  have hB0 : Below w.heap.size w w := Below.refl _ _
  have hLV := Lib.hid hv
  have hz : ¬ (5000 : Int) < (s.size : Int) := by omega
  have cA : ∀ W, LV W → Calls Tryd.prog 19 #[.int .i64 n] W fun e w' => e = .returned (.agg #[.string (tx n), .string XI, .string mt]) ∧ Below W.heap.size W w' := fun W h => int_any n h0 h1 W h
  have cX : ∀ W, Calls Tryd.prog 20 #[.bool false] W fun e w' => e = .returned (.agg #[.string (bx false), .string XB, .string mt]) ∧ Below W.heap.size W w' := fun W => bool_any false W
  have cP := plain_any s
  have hsa := text_size n h0 h1
  obtain ⟨sl, rest, hp⟩ := parts_of s.data.toList
  obtain ⟨G, hG⟩ : ∃ k, k = litB s.size (decide (rest = [])) (XS.toList == lL) (iriB XS.size (sigs lS) []) := ⟨_, rfl⟩
  have q1 : ∀ {g : Nat} {W : World}, Zx w g (tx n) (bx false) s W → Calls Tryd.prog 22 #[(Tm.lit (tx n) XI mt).val] W fun e w' => e = .returned (twoP n 0) ∧ Zx w g (tx n) (bx false) s w' := fun {g W} hQ => zx_of hQ (by have := asInt_any (.lit (tx n) XI mt) hsa W (hv.below hQ.1); rw [asI_tx n h0 h1] at this; exact this)
  have q2 : ∀ {g : Nat} {W : World}, Zx w g (tx n) (bx false) s W → Calls Tryd.prog 23 #[(Tm.lit (bx false) XB mt).val] W fun e w' => e = .returned (oT false 0) ∧ Zx w g (tx n) (bx false) s w' := fun {g W} hQ => zx_of hQ (by have := asBool_any (.lit (bx false) XB mt) W; rw [asB_bx] at this; exact this)
  have q3 : ∀ {g : Nat} {W : World}, Zx w g (tx n) (bx false) s W → Calls Tryd.prog 22 #[(Tm.lit s XS mt).val] W fun e w' => e = .returned (twoP 0 10) ∧ Zx w g (tx n) (bx false) s w' := fun {g W} hQ => zx_of hQ (by have := asInt_any (.lit s XS mt) (show s.size ≤ 1000000 by omega) W (hv.below hQ.1); rw [asI_plainM] at this; exact this)
  have q4 : ∀ {g : Nat} {W : World}, Zx w g (tx n) (bx false) s W → Calls Tryd.prog 24 #[F4 2 s XS mt] W fun e w' => e = .returned (.bool G) ∧ Zx w g (tx n) (bx false) s w' := fun {g W} hQ => zx_of hQ (by rw [hG]; exact rgood_lit s XS _ _ _ _ hp xs_parts (by omega) (by decide) W)
  have q5 : ∀ {g : Nat} {W : World}, Zx w g (tx n) (bx false) s W → Calls Tryd.prog 25 #[.agg #[.string s, .string XS, .string mt]] W fun e w' => e = .returned (.bool G) ∧ Zx w g (tx n) (bx false) s w' := fun {g W} hQ => zx_of hQ (by rw [hG]; exact litGood_any s XS _ _ _ _ hp xs_parts (by omega) (by decide) W)
  have q6 : ∀ {g : Nat} {W : World}, Zx w g (tx n) (bx false) s W → Calls Tryd.prog 25 #[.agg #[.string (tx n), .string XI, .string mt]] W fun e w' => e = .returned (.bool true) ∧ Zx w g (tx n) (bx false) s w' := fun {g W} hQ => zx_of hQ (goodA n h0 h1 W)
  have q7 : ∀ {g : Nat} {W : World}, Zx w g (tx n) (bx false) s W → Calls Tryd.prog 25 #[.agg #[.string (bx false), .string XB, .string mt]] W fun e w' => e = .returned (.bool true) ∧ Zx w g (tx n) (bx false) s w' := fun {g W} hQ => zx_of hQ (goodB false W)
  have hd : (digs n.natAbs).length ≤ 100 := Nat.le_trans (digs_lenT h0 h1) (by decide)
  have q8 : ∀ {g : Nat} {W : World}, Zx w g (tx n) (bx false) s W → Calls Tryd.prog 27 #[.int .i64 n] W fun e w' => (∃ v, e = .returned v ∧ BigV w' v n) ∧ Zx w g (tx n) (bx false) s w' := fun {g W} hQ => (of_big n ⟨h0, h1⟩ W).mono fun e w' ⟨v, a, b, c⟩ => ⟨⟨v, a, b⟩, hQ.below c⟩
  have q9 : ∀ {g : Nat} {W : World} (v : Value), BigV W v n → Zx w g (tx n) (bx false) s W → Calls Tryd.prog 26 #[v] W fun e w' => e = .returned (.string (tx n)) ∧ Zx w g (tx n) (bx false) s w' := fun {g W} v hV hQ => zx_of hQ (rtext_big n hd v W hV)
  have hmk := fun (w2 : World) (hb : Below w.heap.size w w2) => Zx.mk hb (tx n) (bx false) s
  simp only [Tm.val] at q1 q2 q3
  have hbx : bx false = ⟨#[102, 97, 108, 115, 101]⟩ := rfl
  rw [hbx] at cX hmk
  rw [hbx] at q1 q2 q3 q4 q5 q6 q7 q8 q9
  obtain ⟨A, hA⟩ : ∃ k, k = tx n := ⟨_, rfl⟩
  rw [← hA] at cA q1 q2 q3 q4 q5 q6 q7 q8 q9 hmk
  clear hG hd hsa hp hA hv h0 h1 hs
  go_enter Tryd.func4, Tryd.ntmps4
  go_wp2_with (first
    | (go_at_call 10; (with_reducible refine (awake_b hLV.out (by assumption)).mono ?_); rintro e w1 ⟨rfl, hb1⟩)
    | (go_at_call 19; (with_reducible refine (cA _ (hLV.out.below hb1)).mono ?_); rintro e w2 ⟨rfl, hb2⟩; have hb2' := hb1.trans (hb2.mono hb1.size))
    | (go_at_call 20; (with_reducible refine (cX _).mono ?_); rintro e w4 ⟨rfl, hb4⟩; have hb4' := hb2'.trans (hb4.mono hb2'.size))
    | (go_at_call 21; (with_reducible refine (cP _).mono ?_); rintro e w5 ⟨rfl, hb5⟩; have hb5' := hb4'.trans (hb5.mono hb4'.size); have hS := hmk _ hb5'; clear hb1 hb2 hb2' hb4 hb4' hb5 hb5' hB0)
    | (go_at_call 22; (with_reducible refine (q1 hS).mono ?_); rintro e w7 ⟨rfl, hS7⟩; obtain ⟨p0, p1, p2, p3, p4, p5, p6, p7, p8⟩ := Zx.all hS7; clear hS; have hS := hS7; clear hS7)
    | (go_at_call 22; (with_reducible refine (q3 hS).mono ?_); rintro e w7 ⟨rfl, hS7⟩; obtain ⟨p0, p1, p2, p3, p4, p5, p6, p7, p8⟩ := Zx.all hS7; clear hS; have hS := hS7; clear hS7)
    | (go_at_call 23; (with_reducible refine (q2 hS).mono ?_); rintro e w7 ⟨rfl, hS7⟩; obtain ⟨p0, p1, p2, p3, p4, p5, p6, p7, p8⟩ := Zx.all hS7; clear hS; have hS := hS7; clear hS7)
    | (go_at_call 24; (with_reducible refine (q4 hS).mono ?_); rintro e w7 ⟨rfl, hS7⟩; obtain ⟨p0, p1, p2, p3, p4, p5, p6, p7, p8⟩ := Zx.all hS7; clear hS; have hS := hS7; clear hS7))
  clear p0 p1 p2 p3 p4 p5 p6 p7 p8
  dsimp only [List.append]
  have happ : ({ data := #[] } : ByteArray) ++ ({ data := #[] } : ByteArray) = { data := #[] } := by decide
  first
    | (go_region_held3 (fun W => W.cell? ⟨w5.heap.size, 0, none⟩ = some (.string A) ∧ W.cell? ⟨w5.heap.size, 1, none⟩ = some (.string XI) ∧ W.cell? ⟨w5.heap.size, 2, none⟩ = some (.string mt) ∧ W.cell? ⟨w5.heap.size + 1, 0, none⟩ = some (.string ⟨#[102, 97, 108, 115, 101]⟩) ∧ W.cell? ⟨w5.heap.size + 1, 1, none⟩ = some (.string XB) ∧ W.cell? ⟨w5.heap.size + 1, 2, none⟩ = some (.string mt) ∧ W.cell? ⟨w5.heap.size + 1 + 1, 0, none⟩ = some (.string s) ∧ W.cell? ⟨w5.heap.size + 1 + 1, 1, none⟩ = some (.string XS) ∧ W.cell? ⟨w5.heap.size + 1 + 1, 2, none⟩ = some (.string mt) ∧ Zx w w5.heap.size A ⟨#[102, 97, 108, 115, 101]⟩ s W)
        (first | exact Zx.alls (by assumption) | exact Zx.alls (Zx.drew (by assumption)))
        (first
          | (go_at_call 25; (with_reducible refine (q6 (by first | assumption | exact Zx.drew (by assumption))).mono ?_); rintro e w9 ⟨rfl, hS9⟩)
          | (go_at_call 25; (with_reducible refine (q7 (by first | assumption | exact Zx.drew (by assumption))).mono ?_); rintro e w9 ⟨rfl, hS9⟩)
          | (go_at_call 25; (with_reducible refine (q5 (by first | assumption | exact Zx.drew (by assumption))).mono ?_); rintro e w9 ⟨rfl, hS9⟩)
          | (go_at_call 27; (with_reducible refine (q8 (by first | assumption | exact Zx.drew (by assumption))).mono ?_); rintro e w9 ⟨⟨v, rfl, hV⟩, hS9⟩)
          | (go_at_call 26; (with_reducible refine (q9 _ (by first | assumption | exact BigV.drewT (by assumption)) (by first | assumption | exact Zx.drew (by assumption))).mono ?_); rintro e w9 ⟨rfl, hS9⟩)))
    | fail
  have HB := Lib.hid hS9.1
  clear hS9
  go_wp2
  go_ret
  exact ⟨rfl, HB.out⟩
end Go.Proofs.YtfgjddljgpbgeaaDoor
