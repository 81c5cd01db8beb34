/-
  TermKinds: case C of how the two texts are.
-/
import Derived.Test.YtfgjddljgpbgeaaDoorTKindB
namespace Go.Proofs.YtfgjddljgpbgeaaDoor
open Go.RowKit
set_option linter.unusedVariables false

set_option maxRecDepth 100000 in
set_option maxHeartbeats 16000000 in
theorem kinds_shortC (s t : ByteArray) (h1 : Op.bytesLess s.toList t.toList = false) (h2 : (s.toList == t.toList) = false) (h : s.size ≤ 300) (h' : t.size ≤ 300) (w : World) (hv : LV w) : Calls Tryd.prog 8 #[.string s, .string t] w fun e w' => e = .returned (.bool true) ∧ Below w.heap.size w w' := by
  have hb0 : Below w.heap.size w w := Below.refl _ _
  have hLV := Lib.hid hv
  clear hv
  have hs : ¬ (300 : Int) < (s.size : Int) := by omega
  have ht : ¬ (300 : Int) < (t.size : Int) := by omega
  clear h h'
  obtain ⟨q, hq⟩ : ∃ q, q = ordS s t := ⟨_, rfl⟩
  have c1 : ∀ {g : Nat} {W : World}, Bx3 w g s t W → Calls Tryd.prog 14 #[(Tm.blank s).val, (Tm.iri t).val] W fun e w' => e = .returned (.int .i64 (-1)) ∧ Bx3 w g s t w' := fun hB => ord_bx (.blank s) (.iri t) (-1) (ord_kinds _ _ (by simp [Tm.kind])) hB
  have c2 : ∀ {g : Nat} {W : World}, Bx3 w g s t W → Calls Tryd.prog 14 #[(Tm.iri t).val, (Tm.lit s XS mt).val] W fun e w' => e = .returned (.int .i64 (-1)) ∧ Bx3 w g s t w' := fun hB => ord_bx (.iri t) (.lit s XS mt) (-1) (ord_kinds _ _ (by simp [Tm.kind])) hB
  have c3 : ∀ {g : Nat} {W : World}, Bx3 w g s t W → Calls Tryd.prog 14 #[(Tm.blank s).val, (Tm.lit s XS mt).val] W fun e w' => e = .returned (.int .i64 (-1)) ∧ Bx3 w g s t w' := fun hB => ord_bx (.blank s) (.lit s XS mt) (-1) (ord_kinds _ _ (by simp [Tm.kind])) hB
  have c4 : ∀ {g : Nat} {W : World}, Bx3 w g s t W → Calls Tryd.prog 14 #[(Tm.lit s XS mt).val, (Tm.iri t).val] W fun e w' => e = .returned (.int .i64 1) ∧ Bx3 w g s t w' := fun hB => ord_bx (.lit s XS mt) (.iri t) 1 (ord_kinds' _ _ (by simp [Tm.kind])) hB
  have c5 : ∀ {g : Nat} {W : World}, Bx3 w g s t W → Calls Tryd.prog 14 #[(Tm.lit s XS mt).val, (Tm.lit t XS mt).val] W fun e w' => e = .returned (.int .i64 q) ∧ Bx3 w g s t w' := fun hB => ord_bx (.lit s XS mt) (.lit t XS mt) q (by rw [hq, ord_alike (.lit s XS mt) (.lit t XS mt) rfl]; exact ord_texts _ _ _ _) hB
  have c6 : ∀ {g : Nat} {W : World}, Bx3 w g s t W → Calls Tryd.prog 14 #[(Tm.blank s).val, (Tm.blank t).val] W fun e w' => e = .returned (.int .i64 q) ∧ Bx3 w g s t w' := fun hB => ord_bx (.blank s) (.blank t) q (by rw [hq, ord_alike (.blank s) (.blank t) rfl]; exact ord_texts _ _ _ _) hB
  have c7 : ∀ {g : Nat} {W : World}, Bx3 w g s t W → Calls Tryd.prog 14 #[(Tm.iri s).val, (Tm.iri t).val] W fun e w' => e = .returned (.int .i64 q) ∧ Bx3 w g s t w' := fun hB => ord_bx (.iri s) (.iri t) q (by rw [hq, ord_alike (.iri s) (.iri t) rfl]; exact ord_texts _ _ _ _) hB
  have cP : ∀ {g : Nat} {W : World}, Bx3 w g s t W → Calls Tryd.prog 21 #[.string t] W fun e w' => e = .returned (.agg #[.string t, .string XS, .string mt]) ∧ Bx3 w g s t w' := fun hB => plain_bx t hB
  have cQ := plain_any s
  simp only [Tm.val] at c1 c2 c3 c4 c5 c6 c7
  unfold ordS at hq
  rw [h1, h2, if_neg (by decide), if_neg (by decide)] at hq
  subst hq
  go_enter Tryd.func8, Tryd.ntmps8
  go_wp2_with (first
    | (go_at_call 10; (with_reducible refine (awake_b hLV.out (by assumption)).mono ?_); rintro e w1 ⟨rfl, hb1⟩)
    | (go_at_call 21; (with_reducible refine (cQ _).mono ?_); rintro e w2 ⟨rfl, hb2⟩))
  have hB := Bx3.mk (hb1.trans (hb2.mono hb1.size)) s t
  clear hb1 hb2 hb0
  first
    | (go_region_held3 (fun W => W.cell? ⟨w2.heap.size, 0, none⟩ = some (.string s) ∧ W.cell? ⟨w2.heap.size + 1, 0, none⟩ = some (.string t) ∧ W.cell? ⟨w2.heap.size + 1 + 1, 0, none⟩ = some (.string s) ∧ W.cell? ⟨w2.heap.size + 1 + 1, 1, none⟩ = some (.string XS) ∧ W.cell? ⟨w2.heap.size + 1 + 1, 2, none⟩ = some (.string mt) ∧ Bx3 w w2.heap.size s t W)
        (first | exact Bx3.all (by assumption) | exact Bx3.all (Bx3.drew (by assumption)))
        (first
          | (go_at_call 21; (with_reducible refine (cP (by first | assumption | exact Bx3.drew (by assumption))).mono ?_); rintro e w3 ⟨rfl, hS3⟩)
          | (go_at_call 14; (with_reducible refine (c1 (by first | assumption | exact Bx3.drew (by assumption))).mono ?_); rintro e w3 ⟨rfl, hS3⟩)
          | (go_at_call 14; (with_reducible refine (c2 (by first | assumption | exact Bx3.drew (by assumption))).mono ?_); rintro e w3 ⟨rfl, hS3⟩)
          | (go_at_call 14; (with_reducible refine (c3 (by first | assumption | exact Bx3.drew (by assumption))).mono ?_); rintro e w3 ⟨rfl, hS3⟩)
          | (go_at_call 14; (with_reducible refine (c4 (by first | assumption | exact Bx3.drew (by assumption))).mono ?_); rintro e w3 ⟨rfl, hS3⟩)
          | (go_at_call 14; (with_reducible refine (c5 (by first | assumption | exact Bx3.drew (by assumption))).mono ?_); rintro e w3 ⟨rfl, hS3⟩)
          | (go_at_call 14; (with_reducible refine (c6 (by first | assumption | exact Bx3.drew (by assumption))).mono ?_); rintro e w3 ⟨rfl, hS3⟩)
          | (go_at_call 14; (with_reducible refine (c7 (by first | assumption | exact Bx3.drew (by assumption))).mono ?_); rintro e w3 ⟨rfl, hS3⟩)))
    | fail
  have HB := Lib.hid hS3.1
  clear hS3 hB
  go_wp2
  go_ret
  exact ⟨rfl, HB.out⟩
end Go.Proofs.YtfgjddljgpbgeaaDoor
