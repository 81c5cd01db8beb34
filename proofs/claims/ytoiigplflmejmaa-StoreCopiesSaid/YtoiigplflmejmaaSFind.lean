/-
  A LIST's find: of an empty list, and of one with one key that is asked for.
-/
import Derived.Test.YtoiigplflmejmaaSLess
import Derived.Shelf.Abstract
namespace Go.Proofs.Ytoiigplflmejmaa
open Go.RowKit
set_option linter.unusedVariables false
set_option linter.unusedSimpArgs false
set_option maxRecDepth 100000

theorem lx_same (a b c : Int) : lx a b c a b c = false := by unfold lx; simp
theorem lsB_same (o a b c : Int) : lsB o a b c a b c = false := by unfold lsB; simp [lx_same]
/-- sort.Search of nothing. -/
theorem search0 (f : Value) (W : World) : Calls Try.prog 43 #[.int .i64 0, f] W fun e w' => e = .returned (.int .i64 0) ∧ W = w' := by
  go_enter Try.func43, Try.ntmps43
  go_wp2
  go_loopg [5, 6] 0 (fun g s5 s6 wr => s5 = .int .i64 0 ∧ s6 = .int .i64 0 ∧ wr = W)
  case atStart => exact ⟨rfl, rfl, rfl⟩
  case round =>
    obtain ⟨rfl, rfl, rfl⟩ := hrel
    go_wp2
    go_ret
    exact ⟨rfl, rfl⟩
set_option maxHeartbeats 4000000 in
/-- sort.Search of one place that fulfils. -/
theorem search1 (g : Nat) (cb : Array Value) (W : World) (eg : ∀ args w, (callFunc g args).run Try.prog w = .ok (.enter g args) w) (hf : Calls Try.prog g (#[.int .i64 0] ++ cb) W fun e w' => e = .returned (.bool true) ∧ Below W.heap.size W w') :
    Calls Try.prog 43 #[.int .i64 1, .func (.func g) #[] cb] W fun e w' => e = .returned (.int .i64 0) ∧ Below W.heap.size W w' := by
  have HF := Lib.hid hf
  clear hf
  go_enter Try.func43, Try.ntmps43
  go_wp2
  go_loopg [5, 6] 1 (fun g s5 s6 wr => s5 = .int .i64 0 ∧ ((g = 1 ∧ s6 = .int .i64 1 ∧ wr = W) ∨ (g = 0 ∧ s6 = .int .i64 0 ∧ Below W.heap.size W wr)))
  case atStart => exact ⟨rfl, .inl ⟨rfl, rfl, rfl⟩⟩
  case round =>
    obtain ⟨rfl, ⟨hg, rfl, rfl⟩ | ⟨hg, rfl, hB⟩⟩ := hrel
    · subst hg
      have hc := HF.out
      go_wp2_with (go_at_fn g; refine hc.mono ?_; rintro e w' ⟨rfl, hB⟩)
      go_roundg 0
      case measure => exact Nat.lt_succ_self _
      case rel => exact ⟨rfl, .inr ⟨rfl, rfl, hB⟩⟩
    · subst hg
      have HB := Lib.hid hB
      clear hB
      go_wp2
      go_ret
      exact ⟨rfl, HB.out⟩
set_option maxHeartbeats 4000000 in
/-- find in an empty list. -/
theorem sfind_none {A0 : Option Addr} {c0 : Nat} {W : World} {d o : Nat} {n a b c : Int} (h0 : W.cell? ⟨d, o, none⟩ = some (.int .i64 n)) (h1 : W.cell? ⟨d, o + 1, none⟩ = some (.slice A0 0 c0)) (hd : d < W.heap.size) :
    Calls Try.prog 35 #[.pointer (some ⟨d, o, none⟩), .agg #[.int .i64 a, .int .i64 b, .int .i64 c]] W fun e w' => e = .returned (.tuple #[.int .i64 0, .int .i64 0]) ∧ Below W.heap.size W w' := by
  have cS := fun f W => search0 f W
  have HB := Lib.hid (show Below W.heap.size W ((W.alloc (.cells #[.pointer (some ⟨d, o, none⟩)] 67)).alloc (.cells #[.int .i64 a, .int .i64 b, .int .i64 c] 37)) from ((Below.refl _ _).alloc (Nat.le_refl _) _).alloc (by simp) _)
  have n1 : ¬ W.heap.size = d := by omega
  have n2 : ¬ W.heap.size + 1 = d := by omega
  have n3 : ¬ d = W.heap.size := by omega
  have n4 : ¬ d = W.heap.size + 1 := by omega
  go_enter Try.func35, Try.ntmps35
  go_wp2_with (go_at_call 43; (with_reducible refine (cS _ _).mono ?_); rintro e w1 ⟨rfl, rfl⟩)
  go_ret2
  exact ⟨rfl, HB.out⟩
end Go.Proofs.Ytoiigplflmejmaa
