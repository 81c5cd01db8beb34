/-
  TermEquals: its words; being of one value is handed on; terms that are long.
-/
import Derived.Test.YtfgjddljgpbgeaaDoorTTerm
import Derived.Deep.RegionHeld3
namespace Go.Proofs.YtfgjddljgpbgeaaDoor
open Go.RowKit
set_option linter.unusedVariables false

theorem bytes_ext {a b : ByteArray} (h : (a.toList == b.toList) = true) : a = b := by
  rw [beq_iff_eq, ByteArray.toList_eq, ByteArray.toList_eq] at h
  exact ByteArray.ext (Array.ext' h)
theorem same_eq {x y : Tm} (h : sameB x y = true) : x = y := by
  unfold sameB same4 at h
  simp only [Bool.and_eq_true] at h
  obtain ⟨h0, h1, h2, h3, h4⟩ := h
  have e2 := bytes_ext h2
  have e3 := bytes_ext h3
  have e4 := bytes_ext h4
  cases x <;> cases y <;> simp_all [Tm.kind, Tm.ta, Tm.tb, Tm.tc]
def oneI (x y : Tm) : Prop := (x.tb.toList == lI) = true ∧ (y.tb.toList == lI) = true ∧ (asI x).2 = 0 ∧ (asI y).2 = 0 ∧ (asI x).1 = (asI y).1
def oneB (x y : Tm) : Prop := (x.tb.toList == lB) = true ∧ (y.tb.toList == lB) = true ∧ (asB x).2 = 0 ∧ (asB y).2 = 0 ∧ (asB x).1 = (asB y).1
theorem orT_zero {u v : Int} : orT u v = 0 ↔ u = 0 ∧ v = 0 := by
  unfold orT
  by_cases h : u = 0
  · rw [if_pos h]; simp [h]
  · rw [if_neg h]; simp [h]
theorem tru_one {b : Bool} {c : Int} : tru b c = 1 ↔ b = true ∧ c = 0 := by
  unfold tru
  by_cases h : c = 0
  · rw [if_pos h]; cases b <;> simp [h]
  · rw [if_neg h]; simp [h]
theorem eqI_one {x y : Tm} : eqI x y = 1 ↔ (asI x).2 = 0 ∧ (asI y).2 = 0 ∧ (asI x).1 = (asI y).1 := by
  unfold eqI
  rw [tru_one, orT_zero, beq_iff_eq]
  constructor
  · rintro ⟨a, b, c⟩; exact ⟨b, c, a⟩
  · rintro ⟨a, b, c⟩; exact ⟨c, a, b⟩
theorem eqB_one {x y : Tm} : eqB x y = 1 ↔ (asB x).2 = 0 ∧ (asB y).2 = 0 ∧ (asB x).1 = (asB y).1 := by
  unfold eqB
  rw [tru_one, orT_zero, beq_iff_eq]
  constructor
  · rintro ⟨a, b, c⟩; exact ⟨b, c, a⟩
  · rintro ⟨a, b, c⟩; exact ⟨c, a, b⟩
theorem not_both {l : List UInt8} (h : (l == lI) = true) (k : (l == lB) = true) : False := by
  rw [beq_iff_eq] at h k
  rw [h] at k
  exact absurd k (by decide)
theorem eqv_one {x y : Tm} (h : eqv x y = 1) : sameB x y = true ∨ (x.isLit = true ∧ y.isLit = true ∧ (oneI x y ∨ oneB x y)) := by
  unfold eqv at h
  cases hs : sameB x y
  · rw [hs, if_neg (by decide)] at h
    right
    cases hl : (x.isLit && y.isLit)
    · rw [hl, if_neg (by decide)] at h; omega
    · rw [hl, if_pos rfl] at h
      rw [Bool.and_eq_true] at hl
      refine ⟨hl.1, hl.2, ?_⟩
      cases h1 : ((x.tb.toList == lI) && (y.tb.toList == lI))
      · rw [h1, if_neg (by decide)] at h
        cases h2 : ((x.tb.toList == lB) && (y.tb.toList == lB))
        · rw [h2, if_neg (by decide)] at h
          cases h3 : (known x.tb && known y.tb) <;> rw [h3] at h <;> simp at h
        · rw [h2, if_pos rfl] at h
          rw [Bool.and_eq_true] at h2
          exact .inr ⟨h2.1, h2.2, eqB_one.1 h⟩
      · rw [h1, if_pos rfl] at h
        rw [Bool.and_eq_true] at h1
        exact .inl ⟨h1.1, h1.2, eqI_one.1 h⟩
  · exact .inl rfl
theorem eqv_of {x y : Tm} (h : x.isLit = true ∧ y.isLit = true ∧ (oneI x y ∨ oneB x y)) : eqv x y = 1 := by
  obtain ⟨a, b, h⟩ := h
  unfold eqv
  rw [a, b]
  cases hs : sameB x y
  · rw [if_neg (by decide), Bool.and_self, if_pos rfl]
    rcases h with ⟨p, q, r⟩ | ⟨p, q, r⟩
    · rw [p, q, Bool.and_self, if_pos rfl]
      exact eqI_one.2 r
    · have n1 : (x.tb.toList == lI) = false := by
        cases e : (x.tb.toList == lI)
        · rfl
        · exact (not_both e p).elim
      rw [n1, Bool.false_and, if_neg (by decide), p, q, Bool.and_self, if_pos rfl]
      exact eqB_one.2 r
  · rw [if_pos rfl]
theorem eqv_trans {x y z : Tm} (h : eqv x y = 1) (k : eqv y z = 1) : eqv x z = 1 := by
  rcases eqv_one h with h | ⟨h1, h2, h3⟩
  · rw [same_eq h]; exact k
  · rcases eqv_one k with k | ⟨k1, k2, k3⟩
    · rw [← same_eq k]; exact eqv_of ⟨h1, h2, h3⟩
    · refine eqv_of ⟨h1, k2, ?_⟩
      rcases h3 with ⟨a, b, c, d, e⟩ | ⟨a, b, c, d, e⟩ <;> rcases k3 with ⟨a', b', c', d', e'⟩ | ⟨a', b', c', d', e'⟩
      · exact .inl ⟨a, b', c, d', e.trans e'⟩
      · exact (not_both b a').elim
      · exact (not_both a' b).elim
      · exact .inr ⟨a, b', c, d', e.trans e'⟩
/-- Three terms' boxes. -/
abbrev R4 (k : Int) (a b c : ByteArray) : Array Value := #[.int .i64 k, .string a, .string b, .string c]
def Tx3 (w : World) (u v x : Array Value) (W : World) : Prop := Below w.heap.size w W ∧ Fb W w.heap.size 23 u ∧ Fb W (w.heap.size + 1) 23 v ∧ Fb W (w.heap.size + 1 + 1) 23 x
theorem Tx3.drew {w : World} {u v x : Array Value} {W : World} (h : Tx3 w u v x W) : Tx3 w u v x W.drew := ⟨Below.drew h.1, h.2⟩
theorem Tx3.below {w : World} {u v x : Array Value} {W W' : World} (h : Tx3 w u v x W) (hb : Below W.heap.size W W') : Tx3 w u v x W' := ⟨h.1.trans (hb.mono h.1.size), h.2.1.below hb, h.2.2.1.below hb, h.2.2.2.below hb⟩
theorem Tx3.mk (w : World) (u v x : Array Value) : Tx3 w u v x (((w.alloc (.cells u 23)).alloc (.cells v 23)).alloc (.cells x 23)) :=
  ⟨(((Below.refl _ _).alloc (Nat.le_refl _) _).alloc (by simp) _).alloc (by simp; omega) _, ((Fb.new _ _ _).alloc _).alloc _, by simpa using (Fb.new (w.alloc (.cells u 23)) 23 v).alloc (.cells x 23), by simpa using Fb.new ((w.alloc (.cells u 23)).alloc (.cells v 23)) 23 x⟩
def Cells4 (W : World) (g : Nat) (k : Int) (a b c : ByteArray) : Prop := W.cell? ⟨g, 0, none⟩ = some (.int .i64 k) ∧ W.cell? ⟨g, 1, none⟩ = some (.string a) ∧ W.cell? ⟨g, 2, none⟩ = some (.string b) ∧ W.cell? ⟨g, 3, none⟩ = some (.string c)
theorem Fb.four {W : World} {g : Nat} {k : Int} {a b c : ByteArray} (h : Fb W g 23 (R4 k a b c)) : Cells4 W g k a b c := ⟨h.cell 0, h.cell 1, h.cell 2, h.cell 3⟩
theorem Tx3.all {w : World} {k k' k'' : Int} {a b c a' b' c' a'' b'' c'' : ByteArray} {W : World} (h : Tx3 w (R4 k a b c) (R4 k' a' b' c') (R4 k'' a'' b'' c'') W) :
    W.cell? ⟨w.heap.size, 0, none⟩ = some (.int .i64 k) ∧ W.cell? ⟨w.heap.size, 1, none⟩ = some (.string a) ∧ W.cell? ⟨w.heap.size, 2, none⟩ = some (.string b) ∧ W.cell? ⟨w.heap.size, 3, none⟩ = some (.string c) ∧
    W.cell? ⟨w.heap.size + 1, 0, none⟩ = some (.int .i64 k') ∧ W.cell? ⟨w.heap.size + 1, 1, none⟩ = some (.string a') ∧ W.cell? ⟨w.heap.size + 1, 2, none⟩ = some (.string b') ∧ W.cell? ⟨w.heap.size + 1, 3, none⟩ = some (.string c') ∧
    W.cell? ⟨w.heap.size + 1 + 1, 0, none⟩ = some (.int .i64 k'') ∧ W.cell? ⟨w.heap.size + 1 + 1, 1, none⟩ = some (.string a'') ∧ W.cell? ⟨w.heap.size + 1 + 1, 2, none⟩ = some (.string b'') ∧ W.cell? ⟨w.heap.size + 1 + 1, 3, none⟩ = some (.string c'') ∧ Tx3 w (R4 k a b c) (R4 k' a' b' c') (R4 k'' a'' b'' c'') W :=
  ⟨h.2.1.cell 0, h.2.1.cell 1, h.2.1.cell 2, h.2.1.cell 3, h.2.2.1.cell 0, h.2.2.1.cell 1, h.2.2.1.cell 2, h.2.2.1.cell 3, h.2.2.2.cell 0, h.2.2.2.cell 1, h.2.2.2.cell 2, h.2.2.2.cell 3, h⟩
theorem tx_of {w : World} {u v x : Array Value} {W : World} {f : Nat} {args : Array Value} {y : Value} (h : Tx3 w u v x W) (c : Calls Tryd.prog f args W fun e w' => e = .returned y ∧ Below W.heap.size W w') :
    Calls Tryd.prog f args W fun e w' => e = .returned y ∧ Tx3 w u v x w' := c.mono fun _ _ ⟨a, b⟩ => ⟨a, h.below b⟩
set_option maxRecDepth 100000 in
set_option maxHeartbeats 8000000 in
theorem equals_long (k : Int) (a b c : ByteArray) (k' : Int) (a' b' c' : ByteArray) (k'' : Int) (a'' b'' c'' : ByteArray) (h : shortB a b c = false ∨ (shortB a b c = true ∧ shortB a' b' c' = false) ∨ (shortB a b c = true ∧ shortB a' b' c' = true ∧ shortB a'' b'' c'' = false)) (w : World) (hv : LV w) :
    Calls Tryd.prog 6 #[F4 k a b c, F4 k' a' b' c', F4 k'' a'' b'' c''] w fun e w' => e = .returned (.bool true) ∧ Below w.heap.size w w' := by
  have hS := Tx3.mk w (R4 k a b c) (R4 k' a' b' c') (R4 k'' a'' b'' c'')
  have hLV := Lib.hid hv
  have cA : ∀ {W : World}, Tx3 w (R4 k a b c) (R4 k' a' b' c') (R4 k'' a'' b'' c'') W → Calls Tryd.prog 10 #[] W fun e w' => e = .returned (.bool true) ∧ Tx3 w (R4 k a b c) (R4 k' a' b' c') (R4 k'' a'' b'' c'') w' := fun {W} h => tx_of h (awake_ok W (hv.below h.1))
  have s1 : ∀ {W : World}, Tx3 w (R4 k a b c) (R4 k' a' b' c') (R4 k'' a'' b'' c'') W → Calls Tryd.prog 11 #[F4 k a b c] W fun e w' => e = .returned (.bool (shortB a b c)) ∧ Tx3 w (R4 k a b c) (R4 k' a' b' c') (R4 k'' a'' b'' c'') w' := fun {W} h => tx_of h (short_any k a b c W)
  have s2 : ∀ {W : World}, Tx3 w (R4 k a b c) (R4 k' a' b' c') (R4 k'' a'' b'' c'') W → Calls Tryd.prog 11 #[F4 k' a' b' c'] W fun e w' => e = .returned (.bool (shortB a' b' c')) ∧ Tx3 w (R4 k a b c) (R4 k' a' b' c') (R4 k'' a'' b'' c'') w' := fun {W} h => tx_of h (short_any k' a' b' c' W)
  have s3 : ∀ {W : World}, Tx3 w (R4 k a b c) (R4 k' a' b' c') (R4 k'' a'' b'' c'') W → Calls Tryd.prog 11 #[F4 k'' a'' b'' c''] W fun e w' => e = .returned (.bool (shortB a'' b'' c'')) ∧ Tx3 w (R4 k a b c) (R4 k' a' b' c') (R4 k'' a'' b'' c'') w' := fun {W} h => tx_of h (short_any k'' a'' b'' c'' W)
  clear hv
  rcases h with h1 | ⟨h1, h2⟩ | ⟨h1, h2, h3⟩
  · rw [h1] at s1
    clear h1 s2 s3
    go_enter Tryd.func6, Tryd.ntmps6
    go_wp2_with (first
      | (go_at_call 10; (with_reducible refine (cA (by assumption)).mono ?_); rintro e w1 ⟨rfl, hS1⟩; obtain ⟨p0, p1, p2, p3, p4, p5, p6, p7, p8, p9, p10, p11, _⟩ := Tx3.all hS1; clear hS; have hS := hS1; clear hS1)
      | (go_at_call 11; (with_reducible refine (s1 hS).mono ?_); rintro e w2 ⟨rfl, hS2⟩; obtain ⟨p0, p1, p2, p3, p4, p5, p6, p7, p8, p9, p10, p11, _⟩ := Tx3.all hS2; clear hS; have hS := hS2; clear hS2))
    go_ret
    exact ⟨rfl, hS.1⟩
  · rw [h1] at s1
    rw [h2] at s2
    clear h1 h2 s3
    go_enter Tryd.func6, Tryd.ntmps6
    go_wp2_with (first
      | (go_at_call 10; (with_reducible refine (cA (by assumption)).mono ?_); rintro e w1 ⟨rfl, hS1⟩; obtain ⟨p0, p1, p2, p3, p4, p5, p6, p7, p8, p9, p10, p11, _⟩ := Tx3.all hS1; clear hS; have hS := hS1; clear hS1)
      | (go_at_call 11; (with_reducible refine (s1 hS).mono ?_); rintro e w2 ⟨rfl, hS2⟩; obtain ⟨p0, p1, p2, p3, p4, p5, p6, p7, p8, p9, p10, p11, _⟩ := Tx3.all hS2; clear hS; have hS := hS2; clear hS2)
      | (go_at_call 11; (with_reducible refine (s2 hS).mono ?_); rintro e w2 ⟨rfl, hS2⟩; obtain ⟨p0, p1, p2, p3, p4, p5, p6, p7, p8, p9, p10, p11, _⟩ := Tx3.all hS2; clear hS; have hS := hS2; clear hS2))
    go_ret
    exact ⟨rfl, hS.1⟩
  · rw [h1] at s1
    rw [h2] at s2
    rw [h3] at s3
    clear h1 h2 h3
    go_enter Tryd.func6, Tryd.ntmps6
    go_wp2_with (first
      | (go_at_call 10; (with_reducible refine (cA (by assumption)).mono ?_); rintro e w1 ⟨rfl, hS1⟩; obtain ⟨p0, p1, p2, p3, p4, p5, p6, p7, p8, p9, p10, p11, _⟩ := Tx3.all hS1; clear hS; have hS := hS1; clear hS1)
      | (go_at_call 11; (with_reducible refine (s1 hS).mono ?_); rintro e w2 ⟨rfl, hS2⟩; obtain ⟨p0, p1, p2, p3, p4, p5, p6, p7, p8, p9, p10, p11, _⟩ := Tx3.all hS2; clear hS; have hS := hS2; clear hS2)
      | (go_at_call 11; (with_reducible refine (s2 hS).mono ?_); rintro e w2 ⟨rfl, hS2⟩; obtain ⟨p0, p1, p2, p3, p4, p5, p6, p7, p8, p9, p10, p11, _⟩ := Tx3.all hS2; clear hS; have hS := hS2; clear hS2)
      | (go_at_call 11; (with_reducible refine (s3 hS).mono ?_); rintro e w2 ⟨rfl, hS2⟩; obtain ⟨p0, p1, p2, p3, p4, p5, p6, p7, p8, p9, p10, p11, _⟩ := Tx3.all hS2; clear hS; have hS := hS2; clear hS2))
    go_ret
    exact ⟨rfl, hS.1⟩
end Go.Proofs.YtfgjddljgpbgeaaDoor
