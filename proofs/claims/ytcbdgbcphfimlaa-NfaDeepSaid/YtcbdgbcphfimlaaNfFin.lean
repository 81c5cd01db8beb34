/-
  Final: of a set of one state, or of none.
-/
import Derived.Test.YtcbdgbcphfimlaaNfOrd
import Derived.Shelf.Abstract
namespace Go.Proofs.Ytcbdgbcphfimlaa
open Go.RowKit
set_option linter.unusedVariables false
set_option linter.unusedSimpArgs false
set_option maxRecDepth 100000

theorem cf_F (args : Array Value) (w : World) : (callFunc 44 args).run Try.prog w = .ok (.enter 44 args) w := by
  first | rfl | kernel_rfl
set_option maxHeartbeats 8000000 in
theorem finF_any {W : World} {p d g c i : Nat} {b : Bool} (hi : i < 2) (hp : W.cell? ⟨p, 0, none⟩ = some (.pointer (some ⟨d, 0, none⟩))) (ha : W.cell? ⟨d, 0, none⟩ = some (.slice (some ⟨g, 0, none⟩) 2 c)) (hf : W.cell? ⟨g, i * 2 + 1, none⟩ = some (.bool b)) :
    Calls Try.prog 44 #[.int .i64 (i : Int), .pointer (some ⟨p, 0, none⟩)] W fun e w' => e = .returned (.bool b) ∧ w' = W := by
  have cH := has_any (i := i) ha hi
  have z0 : (0 : Int) ≤ (i : Int) := by omega
  have z1 : (i : Int) < 2 := by omega
  clear hi
  go_enter Try.func44, Try.ntmps44
  go_wp2_with (go_at_call 45; (with_reducible refine cH.mono ?_); rintro e w1 ⟨rfl, rfl⟩)
  go_ret
  exact ⟨rfl, rfl⟩
def IxB (W : World) (r : Int) (g : Nat) (s8 : Value) (wr : World) : Prop := (g = 1 ∧ s8 = .int .i64 0 ∧ W = wr) ∨ (g = 0 ∧ s8 = .int .i64 1 ∧ r = -1 ∧ W = wr)
set_option maxHeartbeats 8000000 in
theorem idxI1 {W : World} {p gs cs i : Nat} {b : Bool} (hs : W.cell? ⟨gs, 0, none⟩ = some (.int .i64 (i : Int)))
    (hc : Calls Try.prog 44 #[.int .i64 (i : Int), .pointer (some ⟨p, 0, none⟩)] W fun e w' => e = .returned (.bool b) ∧ w' = W) :
    Calls Try.prog 66 #[.slice (some ⟨gs, 0, none⟩) 1 cs, .func (.func 44) #[] #[.pointer (some ⟨p, 0, none⟩)]] W fun e w' => e = .returned (.int .i64 (if b = true then 0 else -1)) ∧ w' = W := by
  have eg := cf_F
  cases b with
  | true =>
    rw [if_pos rfl]
    go_enter Try.func66, Try.ntmps66
    go_wp2
    go_loopg [5, 8] 1 (fun g s5 s8 wr => g = 1 ∧ s8 = .int .i64 0 ∧ W = wr)
    case atStart => exact ⟨rfl, rfl, rfl⟩
    case round =>
      obtain ⟨hg, rfl, rfl⟩ := hrel
      subst hg
      go_wp2_with (go_at_fn 44; refine hc.mono ?_; rintro e w5 ⟨rfl, rfl⟩)
      go_ret
      exact ⟨rfl, rfl⟩
  | false =>
    rw [if_neg (by simp)]
    go_enter Try.func66, Try.ntmps66
    go_wp2
    go_loopg [5, 8] 1 (fun g s5 s8 wr => IxB W (-1) g s8 wr)
    case atStart => exact .inl ⟨rfl, rfl, rfl⟩
    case round =>
      rcases hrel with ⟨hg, rfl, rfl⟩ | ⟨hg, rfl, _, rfl⟩
      · subst hg
        go_wp2_with (go_at_fn 44; refine hc.mono ?_; rintro e w5 ⟨rfl, rfl⟩)
        go_roundg 0
        case measure => exact Nat.lt_succ_self _
        case rel => exact .inr ⟨rfl, rfl, rfl, rfl⟩
      · subst hg
        go_wp2
        go_ret
        exact ⟨rfl, rfl⟩
set_option maxHeartbeats 8000000 in
theorem idxI0 {W : World} {cb : Array Value} : Calls Try.prog 66 #[.slice none 0 0, .func (.func 44) #[] cb] W fun e w' => e = .returned (.int .i64 (-1)) ∧ w' = W := by
  go_enter Try.func66, Try.ntmps66
  go_wp2
  go_loopg [5, 8] 0 (fun g s5 s8 wr => g = 0 ∧ s8 = .int .i64 0 ∧ W = wr)
  case atStart => exact ⟨rfl, rfl, rfl⟩
  case round =>
    obtain ⟨hg, rfl, rfl⟩ := hrel
    subst hg
    go_wp2
    go_ret
    exact ⟨rfl, rfl⟩
set_option maxHeartbeats 8000000 in
theorem conI_any {W : World} {v : Value} {cb : Array Value} {r : Int} (hv : v = .slice none 0 0 ∨ ∃ gs cs : Nat, v = .slice (some ⟨gs, 0, none⟩) 1 cs)
    (hc : Calls Try.prog 66 #[v, .func (.func 44) #[] cb] W fun e w' => e = .returned (.int .i64 r) ∧ w' = W) :
    Calls Try.prog 43 #[v, .func (.func 44) #[] cb] W fun e w' => e = .returned (.bool (decide (r ≥ 0))) ∧ w' = W := by
  rcases hv with rfl | ⟨gs, cs, rfl⟩
  all_goals
    go_enter Try.func43, Try.ntmps43
    go_wp2_with (go_at_call 66; (with_reducible refine hc.mono ?_); rintro e w5 ⟨rfl, rfl⟩)
    go_ret
    exact ⟨rfl, rfl⟩
set_option maxHeartbeats 8000000 in
theorem fin_of {W : World} {d : Nat} {v : Value} {b : Bool} (hv : v = .slice none 0 0 ∨ ∃ gs cs : Nat, v = .slice (some ⟨gs, 0, none⟩) 1 cs)
    (hc : Calls Try.prog 43 #[v, .func (.func 44) #[] #[.pointer (some ⟨W.heap.size, 0, none⟩)]] (W.alloc (.cells #[.pointer (some ⟨d, 0, none⟩)] 32)) fun e w' => e = .returned (.bool b) ∧ w' = W.alloc (.cells #[.pointer (some ⟨d, 0, none⟩)] 32)) :
    Calls Try.prog 26 #[.pointer (some ⟨d, 0, none⟩), v] W fun e w' => e = .returned (.bool b) ∧ Below W.heap.size W w' := by
  have HB := Lib.hid (show Below W.heap.size W (W.alloc (.cells #[.pointer (some ⟨d, 0, none⟩)] 32)) from (Below.refl _ _).alloc (Nat.le_refl _) _)
  rcases hv with rfl | ⟨gs, cs, rfl⟩
  all_goals
    go_enter Try.func26, Try.ntmps26
    go_wp2_with (go_at_call 43; (with_reducible refine hc.mono ?_); rintro e w5 ⟨rfl, rfl⟩)
    go_ret
    exact ⟨rfl, HB.out⟩
theorem final0 {W : World} {d : Nat} : Calls Try.prog 26 #[.pointer (some ⟨d, 0, none⟩), .slice none 0 0] W fun e w' => e = .returned (.bool false) ∧ Below W.heap.size W w' :=
  fin_of (.inl rfl) ((conI_any (.inl rfl) idxI0).mono fun e w' ⟨h1, h2⟩ => ⟨by rw [h1]; rfl, h2⟩)
theorem final1 {W : World} {d g c gs cs i : Nat} {b : Bool} (hi : i < 2) (hs : W.cell? ⟨gs, 0, none⟩ = some (.int .i64 (i : Int))) (ha : W.cell? ⟨d, 0, none⟩ = some (.slice (some ⟨g, 0, none⟩) 2 c)) (hf : W.cell? ⟨g, i * 2 + 1, none⟩ = some (.bool b)) :
    Calls Try.prog 26 #[.pointer (some ⟨d, 0, none⟩), .slice (some ⟨gs, 0, none⟩) 1 cs] W fun e w' => e = .returned (.bool b) ∧ Below W.heap.size W w' := by
  have hb : Below W.heap.size W (W.alloc (.cells #[.pointer (some ⟨d, 0, none⟩)] 32)) := (Below.refl _ _).alloc (Nat.le_refl _) _
  refine fin_of (.inr ⟨gs, cs, rfl⟩) ((conI_any (.inr ⟨gs, cs, rfl⟩) (idxI1 (cell_below hs hb) (finF_any hi ((Fb.new W 32 #[.pointer (some ⟨d, 0, none⟩)]).cell 0) (cell_below ha hb) (cell_below hf hb)))).mono fun e w' ⟨h1, h2⟩ => ⟨?_, h2⟩)
  rw [h1]
  cases b <;> rfl
end Go.Proofs.Ytcbdgbcphfimlaa
