/-
  StoreAgrees's own closure: is it the key? it is counted.
-/
import Derived.Test.YtoiigplflmejmaaSLeast
namespace Go.Proofs.Ytoiigplflmejmaa
open Go.RowKit
set_option linter.unusedVariables false
set_option linter.unusedSimpArgs false
set_option maxRecDepth 100000

/-- What the count's box may turn, and new blocks. -/
structure Cn (gn : Nat) (y : Int) (W W' : World) : Prop where
  os : W'.os = W.os
  tape : W'.tape = W.tape
  output : W'.output = W.output
  size : W.heap.size ≤ W'.heap.size
  block : ∀ q, q < W.heap.size → q ≠ gn → W'.heap[q]? = W.heap[q]?
  cn : Fb W' gn 3 #[.int .i64 y]
def cnt1 (x k : Kt) (n : Int) : Int := if x = k then n + 1 else n
set_option maxHeartbeats 4000000 in
theorem syield_any {W : World} {gk gn : Nat} {n : Int} (x k : Kt) (hk : Fb W gk 31 #[.int .i64 k.a, .int .i64 k.b, .int .i64 k.c]) (hn : Fb W gn 3 #[.int .i64 n]) (h0 : 0 ≤ n) (h1 : n ≤ 100000) :
    Calls Try.prog 22 #[.agg #[.int .i64 x.a, .int .i64 x.b, .int .i64 x.c], .pointer (some ⟨gk, 0, none⟩), .pointer (some ⟨gn, 0, none⟩)] W fun e w' => e = .returned (.bool true) ∧ Cn gn (cnt1 x k n) W w' := by
  have hE := eqKey2 x k
  have k0 := hk.cell 0
  have k1 := hk.cell 1
  have k2 := hk.cell 2
  have lk := hk.lt
  have n0 := hn.cell 0
  have nf := hn.free 0
  have ln := hn.lt
  have hb : Below W.heap.size W (W.alloc (.cells #[.int .i64 x.a, .int .i64 x.b, .int .i64 x.c] 37)) := (Below.refl _ _).alloc (Nat.le_refl _) _
  have hn2 := hn.below hb
  by_cases hx : x = k
  · have HF : Hid (Cn gn (cnt1 x k n) W ((W.setCell ⟨gn, 0, none⟩ (.int .i64 (n + 1))).alloc (.cells #[.int .i64 x.a, .int .i64 x.b, .int .i64 x.c] 37))) := Lib.hid (by
      have e : cnt1 x k n = n + 1 := by unfold cnt1; rw [if_pos hx]
      rw [e]
      exact ⟨rfl, rfl, rfl, by simp [World.setCell], fun q hq hne => (Below.heap_alloc _ _ _ (by simpa [World.setCell] using hq)).trans (Below.heap_setCell _ _ _ _ hne), (hn.set 0 _).alloc _⟩)
    rw [decide_eq_true hx] at hE
    have hw : wrap64 (n + 1) = n + 1 := IntWalk.wrap64_in _ ⟨by omega, by omega⟩
    have hw2 : IntKind.i64.wrap (n + 1) = n + 1 := IntWalk.i64_in _ (by omega)
    have f0 : (W.alloc (.cells #[.int .i64 x.a, .int .i64 x.b, .int .i64 x.c] 37)).frozen? ⟨gn, 0, none⟩ = false := hn2.free 0
    clear hk hn hb hn2 hx
    generalize x.a = xa at *
    generalize x.b = xb at *
    generalize x.c = xc at *
    generalize k.a = ka at *
    generalize k.b = kb at *
    generalize k.c = kc at *
    go_enter Try.func22, Try.ntmps22
    go_wp2
    go_ret
    exact ⟨rfl, HF.out⟩
  · have HF : Hid (Cn gn (cnt1 x k n) W (W.alloc (.cells #[.int .i64 x.a, .int .i64 x.b, .int .i64 x.c] 37))) := Lib.hid (by
      have e : cnt1 x k n = n := by unfold cnt1; rw [if_neg hx]
      rw [e]
      exact ⟨hb.os, hb.tape, hb.output, hb.size, fun q hq _ => hb.block q hq, hn2⟩)
    rw [decide_eq_false hx] at hE
    clear hk hn hb hn2 hx
    generalize x.a = xa at *
    generalize x.b = xb at *
    generalize x.c = xc at *
    generalize k.a = ka at *
    generalize k.b = kb at *
    generalize k.c = kc at *
    go_enter Try.func22, Try.ntmps22
    go_wp2
    go_ret
    exact ⟨rfl, HF.out⟩
end Go.Proofs.Ytoiigplflmejmaa
