/-
  THE HEAP's METHODS: which function a call through the interface comes to; Len, Less.
-/
import Derived.Test.YtagidmghmbfnpaaIBase
import Derived.BigRegion
import Derived.BigQuiet
import Derived.Deep.QuietTactic
namespace Go.Proofs.Ytagidmghmbfnpaa
open Go.RowKit
set_option linter.unusedVariables false
set_option linter.unusedSimpArgs false
set_option maxRecDepth 100000

abbrev wi (d : Nat) : Value := .iface 61 (.pointer (some ⟨d, 6, none⟩))
theorem na_len (a : Addr) (w : World) : (nilAhead 193 61 (.pointer (some a)) "Len").run Try.prog w = .ok (some false) w := by kernel_rfl
theorem na_less (a : Addr) (w : World) : (nilAhead 193 61 (.pointer (some a)) "Less").run Try.prog w = .ok (some false) w := by kernel_rfl
theorem na_swap (a : Addr) (w : World) : (nilAhead 193 61 (.pointer (some a)) "Swap").run Try.prog w = .ok (some false) w := by kernel_rfl
theorem na_push (a : Addr) (w : World) : (nilAhead 193 61 (.pointer (some a)) "Push").run Try.prog w = .ok (some false) w := by kernel_rfl
theorem na_pop (a : Addr) (w : World) : (nilAhead 193 61 (.pointer (some a)) "Pop").run Try.prog w = .ok (some false) w := by kernel_rfl
theorem me_push (a : Addr) (w : World) : (method 193 61 (.pointer (some a)) "Push").run Try.prog w = .ok (50, .pointer (some a)) w := by kernel_rfl
theorem me_pop (a : Addr) (w : World) : (method 193 61 (.pointer (some a)) "Pop").run Try.prog w = .ok (49, .pointer (some a)) w := by kernel_rfl
theorem lw_any {d : Nat} {v : Value} {w : World} (h : w.cell? ⟨d, 6, none⟩ = some v) : (loadVar 52 ⟨d, 6, none⟩).run Try.prog w = .ok v w := by
  have hu := Try.underlying52
  go_simp
theorem wrap_chk (t : TypeId) (a : Addr) (x y : ByteArray) (w : World) : (Builtin.ssaWrapNilChk_ #[t] t #[.pointer (some a), .string x, .string y]).run Try.prog w = .ok (.pointer (some a)) w := rfl
theorem me_value {F : FuncId} {name : String} {n : Nat} (hi : ((Try.prog.info? 61).bind fun i => (i.methods.find? (·.name == name)).map fun m => (m.path, m.func)) = some (#[], some (F, false))) {d : Nat} {v : Value} {w : World} (h : w.cell? ⟨d, 6, none⟩ = some v) :
    (method (n + 1) 61 (.pointer (some ⟨d, 6, none⟩)) name).run Try.prog w = .ok (F, v) w := by
  have hl := lw_any h
  have hu := Try.underlying61
  cases h1 : Try.prog.info? 61 with
  | none => rw [h1] at hi; cases hi
  | some i =>
    rw [h1] at hi
    have hi : (i.methods.find? (·.name == name)).map (fun m => (m.path, m.func)) = some (#[], some (F, false)) := hi
    cases h2 : i.methods.find? (·.name == name) with
    | none => rw [h2] at hi; cases hi
    | some m =>
      rw [h2] at hi
      have hi : some (m.path, m.func) = some (#[], some (F, false)) := hi
      injection hi with hi
      injection hi with h3 h4
      rw [method]
      simp [typeInfo, h1, h2, h3, h4, follow, receiverAt, run_underlying hu, Place.get, wrap_chk, strVal, asAddr, hl, Result.andThen]
theorem me_len {d : Nat} {v : Value} {w : World} (h : w.cell? ⟨d, 6, none⟩ = some v) : (method 193 61 (.pointer (some ⟨d, 6, none⟩)) "Len").run Try.prog w = .ok (46, v) w := me_value (by kernel_rfl) h
theorem me_less {d : Nat} {v : Value} {w : World} (h : w.cell? ⟨d, 6, none⟩ = some v) : (method 193 61 (.pointer (some ⟨d, 6, none⟩)) "Less").run Try.prog w = .ok (47, v) w := me_value (by kernel_rfl) h
theorem me_swap {d : Nat} {v : Value} {w : World} (h : w.cell? ⟨d, 6, none⟩ = some v) : (method 193 61 (.pointer (some ⟨d, 6, none⟩)) "Swap").run Try.prog w = .ok (48, v) w := me_value (by kernel_rfl) h
theorem iwlen_any (A : Option Addr) (n c : Nat) (hn : n ≤ 100000) (w : World) : Calls Try.prog 46 #[.slice A n c] w fun e w' => e = .returned (.int .i64 n) ∧ w = w' := by
  go_enter Try.func46, Try.ntmps46
  go_wp2
  go_ret
  exact ⟨rfl, rfl⟩
theorem iwless_any {B g n c : Nat} {l : List It} {w : World} (h : ItR B w (.slice (some ⟨g, 0, none⟩) n c) l) (hn : n ≤ 100000) (hl : l.length = n) (i j : Nat) (hi : i < n) (hj : j < n) :
    Calls Try.prog 47 #[.slice (some ⟨g, 0, none⟩) n c, .int .i64 i, .int .i64 j] w fun e w' => e = .returned (.bool (ltI (itAt l i) (itAt l j))) ∧ ∃ q, w' = w.drewN q := by
  obtain ⟨a0, a1, a2, a3, a4⟩ := h.at (itAt_lt (l := l) (i := i) (by omega))
  obtain ⟨b0, b1, b2, b3, b4⟩ := h.at (itAt_lt (l := l) (i := j) (by omega))
  have i1 : (0 : Int) ≤ (i : Int) := by omega
  have i2 : (i : Int) < (n : Int) := by omega
  have j1 : (0 : Int) ≤ (j : Int) := by omega
  have j2 : (j : Int) < (n : Int) := by omega
  generalize itAt l i = x at *
  generalize itAt l j = y at *
  obtain ⟨xt, xs, xa, xb, xc⟩ := x
  obtain ⟨yt, ys, ya, yb, yc⟩ := y
  unfold ltI
  dsimp only at *
  clear h hl hi hj a2 a3 a4 b2 b3 b4
  by_cases e : xt = yt
  · rw [if_pos e]
    have e1 : (xt != yt) = false := by rw [e]; simp
    clear e
    go_enter Try.func47, Try.ntmps47
    go_wp2
    go_quiet (fail)
    go_wp2
    go_quiet (fail)
    go_wp2
    go_ret
    exact ⟨rfl, by rw [World.drewN_drewN]; exact ⟨_, rfl⟩⟩
  · rw [if_neg e]
    have e1 : (xt != yt) = true := by rw [bne_iff_ne]; exact e
    clear e
    go_enter Try.func47, Try.ntmps47
    go_wp2
    go_quiet (fail)
    go_wp2
    go_quiet (fail)
    go_wp2
    go_ret
    exact ⟨rfl, by rw [World.drewN_drewN]; exact ⟨_, rfl⟩⟩
end Go.Proofs.Ytagidmghmbfnpaa
