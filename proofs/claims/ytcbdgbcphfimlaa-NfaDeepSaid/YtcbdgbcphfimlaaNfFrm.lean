/-
  formed, of paths of one part within another.
-/
import Derived.Test.YtcbdgbcphfimlaaNfFit
import Derived.Shelf.Abstract
import Derived.Deep.RegionHeld3
namespace Go.Proofs.Ytcbdgbcphfimlaa
open Go.RowKit
set_option linter.unusedVariables false
set_option linter.unusedSimpArgs false
set_option maxRecDepth 100000

set_option maxHeartbeats 8000000 in
theorem idx0 (W : World) : Calls Try.prog 73 #[.slice none 0 0, .func (.func 62) #[] #[]] W fun e w' => e = .returned (.int .i64 (-1)) ∧ Below W.heap.size W w' := by
  go_enter Try.func73, Try.ntmps73
  go_wp2
  go_loopg [5, 8] 0 (fun g s5 s8 wr => g = 0 ∧ s8 = .int .i64 0 ∧ W = wr)
  case atStart => exact ⟨rfl, rfl, rfl⟩
  case round =>
    obtain ⟨hg, rfl, rfl⟩ := hrel
    subst hg
    go_wp2
    go_ret
    exact ⟨rfl, Below.refl _ _⟩
def IxRel (W : World) (g : Nat) (s8 : Value) (wr : World) : Prop :=
  (g = 1 ∧ s8 = .int .i64 0 ∧ W = wr) ∨ (g = 0 ∧ s8 = .int .i64 1 ∧ Below W.heap.size W wr)
theorem cf_f (args : Array Value) (w : World) : (callFunc 62 args).run Try.prog w = .ok (.enter 62 args) w := by
  first | rfl | kernel_rfl
set_option maxHeartbeats 8000000 in
theorem idx1 {b : Nat} {q : Pa} {W : World} (hF : Fb W b 28 q.cs) (hsh : q.s = .slice none 0 0 ∨ ∃ b : Nat, q.s = .slice (some ⟨b, 0, none⟩) 1 1)
    (hc : Calls Try.prog 62 #[.agg #[.int .i64 q.kd, .int .i64 q.n, q.s]] W fun e w' => e = .returned (.bool false) ∧ Below W.heap.size W w') :
    Calls Try.prog 73 #[.slice (some ⟨b, 0, none⟩) 1 1, .func (.func 62) #[] #[]] W fun e w' => e = .returned (.int .i64 (-1)) ∧ Below W.heap.size W w' := by
  have x0 := hF.cell 0
  have x1 := hF.cell 1
  have x2 := hF.cell 2
  have eg := cf_f
  unfold Pa.cs at x0 x1 x2
  clear hF
  rcases hsh with e | ⟨b2, e⟩
  all_goals
    rw [e] at x2 hc
    clear e
    go_enter Try.func73, Try.ntmps73
    go_wp2
    go_loopg [5, 8] 1 (fun g s5 s8 wr => IxRel W g s8 wr)
    case atStart => exact .inl ⟨rfl, rfl, rfl⟩
    case round =>
      rcases hrel with ⟨hg, rfl, rfl⟩ | ⟨hg, rfl, hB⟩
      · subst hg
        go_wp2_with (go_at_fn 62; refine hc.mono ?_; rintro e w5 ⟨rfl, hb5⟩; have HB5 := Lib.hid hb5; clear hb5)
        go_roundg 0
        case measure => exact Nat.lt_succ_self _
        case rel => exact .inr ⟨rfl, rfl, HB5.out⟩
      · subst hg
        have HB := Lib.hid hB
        clear hB
        go_wp2
        go_ret
        exact ⟨rfl, HB.out⟩
set_option maxHeartbeats 8000000 in
theorem con_any {v : Value} {W : World} (hv : v = .slice none 0 0 ∨ ∃ b : Nat, v = .slice (some ⟨b, 0, none⟩) 1 1)
    (hc : Calls Try.prog 73 #[v, .func (.func 62) #[] #[]] W fun e w' => e = .returned (.int .i64 (-1)) ∧ Below W.heap.size W w') :
    Calls Try.prog 57 #[v, .func (.func 62) #[] #[]] W fun e w' => e = .returned (.bool false) ∧ Below W.heap.size W w' := by
  rcases hv with rfl | ⟨b, rfl⟩
  all_goals
    go_enter Try.func57, Try.ntmps57
    go_wp2_with (go_at_call 73; (with_reducible refine hc.mono ?_); rintro e w5 ⟨rfl, hb5⟩; have HB5 := Lib.hid hb5; clear hb5)
    go_ret
    exact ⟨rfl, HB5.out⟩
set_option maxHeartbeats 8000000 in
theorem formF {kd n : Int} {s : Value} {W : World} (hv : s = .slice none 0 0 ∨ ∃ b : Nat, s = .slice (some ⟨b, 0, none⟩) 1 1)
    (hc : ∀ w, Below W.heap.size W w → Calls Try.prog 41 #[.agg #[.int .i64 kd, .int .i64 n, s]] w fun e w' => e = .returned (.bool true) ∧ Below w.heap.size w w') :
    Calls Try.prog 62 #[.agg #[.int .i64 kd, .int .i64 n, s]] W fun e w' => e = .returned (.bool false) ∧ Below W.heap.size W w' := by
  obtain ⟨W2, hW2⟩ : ∃ W2, W2 = W.alloc (.cells #[.int .i64 kd, .int .i64 n, s] 28) := ⟨_, rfl⟩
  have hF : Fb W2 W.heap.size 28 #[.int .i64 kd, .int .i64 n, s] := by rw [hW2]; exact Fb.new W _ _
  have hB2 : Below W.heap.size W W2 := by rw [hW2]; exact (Below.refl _ _).alloc (Nat.le_refl _) _
  have HB := Lib.hid hB2
  have q0 := hF.cell 0
  have q1 := hF.cell 1
  have q2 := hF.cell 2
  have hC := hc W2 hB2
  clear hF hB2 hc
  rcases hv with rfl | ⟨b, rfl⟩
  all_goals
    subst hW2
    go_enter Try.func62, Try.ntmps62
    go_wp2_with (go_at_call 41; (with_reducible refine hC.mono ?_); rintro e w5 ⟨rfl, hb5⟩; have HB5 := Lib.hid hb5; clear hb5)
    go_ret
    exact ⟨rfl, HB.out.trans (HB5.out.mono HB.out.size)⟩
set_option maxHeartbeats 8000000 in
theorem form_step {kd n : Int} {s : Value} {W : World} (hv : s = .slice none 0 0 ∨ ∃ b : Nat, s = .slice (some ⟨b, 0, none⟩) 1 1)
    (hf : ∀ w, Calls Try.prog 61 #[.agg #[.int .i64 kd, .int .i64 n, s]] w fun e w' => e = .returned (.bool true) ∧ Below w.heap.size w w')
    (hc : ∀ w, Below W.heap.size W w → Calls Try.prog 57 #[s, .func (.func 62) #[] #[]] w fun e w' => e = .returned (.bool false) ∧ Below w.heap.size w w') :
    Calls Try.prog 41 #[.agg #[.int .i64 kd, .int .i64 n, s]] W fun e w' => e = .returned (.bool true) ∧ Below W.heap.size W w' := by
  obtain ⟨W2, hW2⟩ : ∃ W2, W2 = W.alloc (.cells #[.int .i64 kd, .int .i64 n, s] 28) := ⟨_, rfl⟩
  have hF : Fb W2 W.heap.size 28 #[.int .i64 kd, .int .i64 n, s] := by rw [hW2]; exact Fb.new W _ _
  have hB2 : Below W.heap.size W W2 := by rw [hW2]; exact (Below.refl _ _).alloc (Nat.le_refl _) _
  have HB := Lib.hid hB2
  have HFF := Lib.hid hF
  have HC := Lib.hid hc
  have q0 := hF.cell 0
  have q1 := hF.cell 1
  have q2 := hF.cell 2
  have hC := hf W2
  clear hF hB2 hc hf
  rcases hv with rfl | ⟨b, rfl⟩
  all_goals
    subst hW2
    go_enter Try.func41, Try.ntmps41
    go_wp2_with (first
      | (go_at_call 61; (with_reducible refine hC.mono ?_); rintro e w5 ⟨rfl, hb5⟩; have r2 := (HFF.out.below hb5).cell 2; have hK := HC.out w5 (HB.out.trans (hb5.mono HB.out.size)); have HB5 := Lib.hid hb5; clear hb5)
      | (go_at_call 57; (with_reducible refine hK.mono ?_); rintro e w6 ⟨rfl, hb6⟩; have HB6 := Lib.hid hb6; clear hb6))
    go_ret
    exact ⟨rfl, HB.out.trans ((HB5.out.trans (HB6.out.mono HB5.out.size)).mono HB.out.size)⟩
theorem formed_any {N : Int} (hN : 0 ≤ N) : ∀ (ks : List Int) {W : World} {q : Pa}, Kd ks → Chn W N ks q →
    Calls Try.prog 41 #[.agg #[.int .i64 q.kd, .int .i64 q.n, q.s]] W fun e w' => e = .returned (.bool true) ∧ Below W.heap.size W w'
  | [], W, q, hk, h => by
    obtain ⟨h1, h2, h3⟩ := h
    rw [h1, h2, h3]
    exact form_step (.inl rfl) (fun w => fits0 N hN w) (fun w hw => con_any (.inl rfl) (idx0 w))
  | k :: ks, W, p, hk, h => by
    obtain ⟨h1, h2, b, q, h3, hF, hC⟩ := h
    rw [h1, h2, h3]
    have hsh : q.s = .slice none 0 0 ∨ ∃ b : Nat, q.s = .slice (some ⟨b, 0, none⟩) 1 1 := by
      cases ks with
      | nil => exact .inl hC.2.2
      | cons k ks => obtain ⟨_, _, b, _, e, _⟩ := hC; exact .inr ⟨b, e⟩
    exact form_step (.inr ⟨b, rfl⟩) (fun w => fits1 k 0 (hk k (.head _)) b w) (fun w hw => con_any (.inr ⟨b, rfl⟩) (idx1 (hF.below hw) hsh (formF hsh fun w2 hw2 => formed_any hN ks (fun k hk' => hk k (.tail _ hk')) (hC.below (hw.trans (hw2.mono hw.size))))))
end Go.Proofs.Ytcbdgbcphfimlaa
