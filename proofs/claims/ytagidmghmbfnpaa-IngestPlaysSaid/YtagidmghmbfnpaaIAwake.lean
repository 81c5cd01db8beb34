/-
  The laws' 'awake'.
-/
import Derived.Test.YtagidmghmbfnpaaITick
namespace Go.Proofs.Ytagidmghmbfnpaa
open Go.RowKit
set_option linter.unusedVariables false
set_option linter.unusedSimpArgs false
set_option maxRecDepth 100000

theorem aw1 : (Bs.first 3 5).push 0 10 = (⟨3, 5, 0, false, 10, true, 1, 0, false⟩, 0) := by rfl
theorem aw2 : (⟨3, 5, 0, false, 10, true, 1, 0, false⟩ : Bs).push 1 7 = (⟨3, 5, 0, false, 10, true, 2, 0, false⟩, 0) := by rfl
theorem aw3 : (⟨3, 5, 0, false, 10, true, 2, 0, false⟩ : Bs).push 2 6 = (⟨3, 5, 0, false, 10, true, 2, 1, false⟩, 7) := by rfl
theorem aw_ok (n late : Int) (h0 : 0 ≤ n) (h1 : n ≤ 100000) (h2 : 0 ≤ late) (h3 : late ≤ 100000) : (⟨3, 5, 0, false, 10, true, n, late, false⟩ : Bs).ok := ⟨show (0 : Int) ≤ 3 by decide, show (3 : Int) ≤ 1152921504606846976 by decide, show (-1152921504606846976 : Int) ≤ 10 by decide, show (10 : Int) ≤ 1152921504606846976 by decide, h0, h1, h2, h3⟩
set_option maxHeartbeats 4000000 in
theorem iawake_ok (W : World) : Calls Try.prog 4 #[] W fun e w' => e = .returned (.bool true) ∧ Below W.heap.size W w' := by
  have cN := inew_ok 3 5 (by decide) (by decide) (by decide) (by decide) W
  have cP1 : ∀ {d : Nat} {v : Value} {w : World}, Bc W.heap.size d (Bs.first 3 5) v [] w → Below W.heap.size W w → Calls Try.prog 7 #[.pointer (some ⟨d, 0, none⟩), .int .i64 10, .agg #[.int .i64 0, .int .i64 0, .int .i64 0]] w fun e w' => e = .returned (.int .i64 0) ∧ ∃ v' l', Bc W.heap.size d ⟨3, 5, 0, false, 10, true, 1, 0, false⟩ v' l' w' ∧ Below W.heap.size W w' ∧ l'.length = 1 ∧ Hp l' l'.length := fun {d v w} h hb => by
    refine (ipush_any h hb.size (by simp) Hp.nil (Bs.first_ok (by decide) (by decide)) 10 0 0 0).mono ?_
    rintro e w' ⟨h1, v', l', h2, h3, h4, h5⟩
    simp only [List.length_nil, aw1] at h1 h2 h5
    exact ⟨h1, v', l', h2, h3.below h hb, by have := h5.length_eq; simpa using this, h4⟩
  have cP2 : ∀ {d : Nat} {v : Value} {l : List It} {w : World}, Bc W.heap.size d ⟨3, 5, 0, false, 10, true, 1, 0, false⟩ v l w → Below W.heap.size W w → l.length = 1 → Hp l l.length → Calls Try.prog 7 #[.pointer (some ⟨d, 0, none⟩), .int .i64 7, .agg #[.int .i64 0, .int .i64 0, .int .i64 0]] w fun e w' => e = .returned (.int .i64 0) ∧ ∃ v' l', Bc W.heap.size d ⟨3, 5, 0, false, 10, true, 2, 0, false⟩ v' l' w' ∧ Below W.heap.size W w' ∧ l'.length = 2 ∧ Hp l' l'.length := fun {d v l w} h hb hl hp => by
    refine (ipush_any h hb.size (by omega) hp (aw_ok 1 0 (by decide) (by decide) (by decide) (by decide)) 7 0 0 0).mono ?_
    rintro e w' ⟨h1, v', l', h2, h3, h4, h5⟩
    rw [hl] at h1 h2 h5
    simp only [aw2] at h1 h2 h5
    exact ⟨h1, v', l', h2, h3.below h hb, by have := h5.length_eq; simp at this; omega, h4⟩
  have cP3 : ∀ {d : Nat} {v : Value} {l : List It} {w : World}, Bc W.heap.size d ⟨3, 5, 0, false, 10, true, 2, 0, false⟩ v l w → Below W.heap.size W w → l.length = 2 → Hp l l.length → Calls Try.prog 7 #[.pointer (some ⟨d, 0, none⟩), .int .i64 6, .agg #[.int .i64 0, .int .i64 0, .int .i64 0]] w fun e w' => e = .returned (.int .i64 7) ∧ ∃ v' l', Bc W.heap.size d ⟨3, 5, 0, false, 10, true, 2, 1, false⟩ v' l' w' ∧ Below W.heap.size W w' ∧ l'.length = 2 ∧ Hp l' l'.length := fun {d v l w} h hb hl hp => by
    refine (ipush_any h hb.size (by omega) hp (aw_ok 2 0 (by decide) (by decide) (by decide) (by decide)) 6 0 0 0).mono ?_
    rintro e w' ⟨h1, v', l', h2, h3, h4, h5⟩
    rw [hl] at h1 h2 h5
    simp only [aw3] at h1 h2 h5
    exact ⟨h1, v', l', h2, h3.below h hb, by have := h5.length_eq; simp at this; omega, h4⟩
  have cL : ∀ {d : Nat} {s : Bs} {v : Value} {l : List It} {w : World}, Bc W.heap.size d s v l w → l.length = 2 → Calls Try.prog 15 #[.pointer (some ⟨d, 0, none⟩)] w fun e w' => e = .returned (.int .i64 2) ∧ w = w' := fun {d s v l w} h hl => by
    have := ilen_any h (by omega)
    rw [hl] at this
    exact this
  go_enter Try.func4, Try.ntmps4
  go_wp2_with (first
    | (go_at_call 5; (with_reducible refine cN.mono ?_); rintro e w1 ⟨d, rfl, hB1, hb1⟩)
    | (go_at_call 7; (with_reducible refine (cP1 hB1 hb1).mono ?_); rintro e w2 ⟨rfl, v2, l2, hB2, hb2, hl2, hp2⟩; have HL2 := Lib.hid hl2; clear hl2)
    | (go_at_call 7; (with_reducible refine (cP2 hB2 hb2 HL2.out hp2).mono ?_); rintro e w3 ⟨rfl, v3, l3, hB3, hb3, hl3, hp3⟩; have HL3 := Lib.hid hl3; clear hl3)
    | (go_at_call 7; (with_reducible refine (cP3 hB3 hb3 HL3.out hp3).mono ?_); rintro e w4 ⟨rfl, v4, l4, hB4, hb4, hl4, hp4⟩; have HL4 := Lib.hid hl4; clear hl4)
    | (go_at_call 15; (with_reducible refine (cL hB4 HL4.out).mono ?_); rintro e w5 ⟨rfl, rfl⟩))
  go_ret
  exact ⟨rfl, hb4⟩
end Go.Proofs.Ytagidmghmbfnpaa
