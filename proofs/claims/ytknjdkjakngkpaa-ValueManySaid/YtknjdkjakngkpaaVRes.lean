/-
  WHAT THE LAWS OVER BIG NUMBERS SHARE.
-/
import Derived.Test.YtknjdkjakngkpaaVTwo
import Derived.Test.YtknjdkjakngkpaaVMul
import Derived.Test.YtknjdkjakngkpaaVNeg
import Derived.Test.YtknjdkjakngkpaaVIs
namespace Go.Proofs.Ytknjdkjakngkpaa
open Go.RowKit
set_option linter.unusedVariables false

/-- What a call answers of a number. -/
def Res (z n e : Int) : Prop := (fit z ∧ n = z ∧ e = 0) ∨ (¬ fit z ∧ n = 0 ∧ e = 9)
theorem res_of (z : Int) : ∃ n e, Res z n e := by
  by_cases h : fit z
  · exact ⟨z, 0, .inl ⟨h, rfl, rfl⟩⟩
  · exact ⟨0, 9, .inr ⟨h, rfl, rfl⟩⟩
theorem len_two {z : Int} (h : z.natAbs ≤ 100000000000000000000000000000000000000000) : (digs z.natAbs).length ≤ 1000 := Nat.le_trans (digs_len (k := 42) (by omega)) (by decide)
theorem is_ok {z n e : Int} (h : Res z n e) (hl : (digs z.natAbs).length ≤ 1000) (v : Value) (w : World) (hv : BigV w v z) : Calls Try.prog 20 #[.int .i64 n, .int .i64 e, v] w fun e w' => e = .returned (.bool true) ∧ Below w.heap.size w w' := by
  rcases h with ⟨h, rfl, rfl⟩ | ⟨h, rfl, rfl⟩
  · exact is_fit _ h v w hv
  · exact is_over z hl h v w hv
theorem add_res {w : World} {a b n e : Int} (ha : fit a) (hb : fit b) (h : Res (a + b) n e) (W : World) (hW : Below w.heap.size w W) :
    Calls Try.prog 17 #[.slice (some ⟨W.heap.size, 0, none⟩) 2 2] (W.alloc (pairObj a b)) fun x w' => x = .returned (two n e) ∧ Below w.heap.size w w' := by
  rcases h with ⟨h, rfl, rfl⟩ | ⟨h, rfl, rfl⟩
  · exact add_yes a b _ ha hb h rfl W hW
  · exact add_no a b ha hb h W hW
theorem mul_res {w : World} {a b n e : Int} (ha : fit a) (hb : fit b) (h : Res (a * b) n e) (W : World) (hW : Below w.heap.size w W) :
    Calls Try.prog 19 #[.slice (some ⟨W.heap.size, 0, none⟩) 2 2] (W.alloc (pairObj a b)) fun x w' => x = .returned (two n e) ∧ Below w.heap.size w w' := by
  rcases h with ⟨h, rfl, rfl⟩ | ⟨h, rfl, rfl⟩
  · exact mul_yes a b _ ha hb h rfl W hW
  · exact mul_no a b ha hb h W hW
theorem sub_res {a b n e : Int} (ha : fit a) (hb : fit b) (h : Res (a - b) n e) (W : World) : Calls Try.prog 18 #[.int .i64 a, .int .i64 b] W fun x w' => x = .returned (two n e) ∧ W = w' := by
  rcases h with ⟨h, rfl, rfl⟩ | ⟨h, rfl, rfl⟩
  · exact sub_yes a b ha hb h W
  · exact sub_no a b ha hb h W
/-- A number's value, laid open. -/
abbrev bigv (z : Int) (A : Option Addr) (c : Nat) : Value := .agg #[.bool (decide (z < 0)), .slice A (digs z.natAbs).length c]
def BgP (S : World → Prop) (z : Int) (e : Ending) (w' : World) : Prop := ∃ A c, e = .returned (bigv z A c) ∧ BigV w' (bigv z A c) z ∧ S w'
theorem bg_open {S : World → Prop} {f : FuncId} {args : Array Value} {W : World} {z : Int} (hS : ∀ w', Below W.heap.size W w' → S w') (h : Calls Try.prog f args W (BgPost W z)) : Calls Try.prog f args W (BgP S z) :=
  h.mono fun e w' ⟨v, he, ⟨A, c, hv, h1, h2⟩, hb⟩ => ⟨A, c, by rw [he, hv], BigV.mk h1 h2, hS w' hb⟩
/-- Behind a world: what it held stands. -/
def Aft (w w3 : World) (W : World) : Prop := Below w.heap.size w W ∧ Below w3.heap.size w3 W
theorem Aft.drew {w w3 W : World} (h : Aft w w3 W) : Aft w w3 W.drew := ⟨Below.drew h.1, Below.drew h.2⟩
theorem Aft.below {w w3 W w2 : World} (h : Aft w w3 W) (hb : Below W.heap.size W w2) : Aft w w3 w2 := ⟨h.1.trans (hb.mono h.1.size), h.2.trans (hb.mono h.2.size)⟩
theorem BigV.box {w3 W w : World} {v : Value} {z : Int} (h : BigV w3 v z) (hS : Aft w w3 W) : BigV W v z := h.below hS.2
theorem add_aft {w w3 : World} {a b n e : Int} (ha : fit a) (hb : fit b) (h : Res (a + b) n e) (W : World) (N : Nat) (hW : Aft w w3 W) (hN : W.heap.size = N) :
    Calls Try.prog 17 #[.slice (some ⟨N, 0, none⟩) 2 2] (W.alloc (pairObj a b)) fun x w' => x = .returned (two n e) ∧ Aft w w3 w' := by
  subst hN
  exact (add_res (w := W) ha hb h W (Below.refl _ _)).mono fun _ _ ⟨x, y⟩ => ⟨x, hW.below y⟩
theorem mul_aft {w w3 : World} {a b n e : Int} (ha : fit a) (hb : fit b) (h : Res (a * b) n e) (W : World) (N : Nat) (hW : Aft w w3 W) (hN : W.heap.size = N) :
    Calls Try.prog 19 #[.slice (some ⟨N, 0, none⟩) 2 2] (W.alloc (pairObj a b)) fun x w' => x = .returned (two n e) ∧ Aft w w3 w' := by
  subst hN
  exact (mul_res (w := W) ha hb h W (Below.refl _ _)).mono fun _ _ ⟨x, y⟩ => ⟨x, hW.below y⟩
/-- A call over numbers behind a world. -/
theorem bg_aft {w w3 : World} {f : FuncId} {args : Array Value} {z : Int} {W : World} (hS : Aft w w3 W) (h : Calls Try.prog f args W (BgPost W z)) : Calls Try.prog f args W (BgP (Aft w w3) z) := bg_open (fun _ hb => hS.below hb) h
theorem is_aft {w w3 : World} {z n e : Int} (h : Res z n e) (hl : (digs z.natAbs).length ≤ 1000) {v : Value} {W : World} (hv : BigV W v z) (hS : Aft w w3 W) : Calls Try.prog 20 #[.int .i64 n, .int .i64 e, v] W fun x w' => x = .returned (.bool true) ∧ Aft w w3 w' :=
  (is_ok h hl v W hv).mono fun _ _ ⟨x, y⟩ => ⟨x, hS.below y⟩
end Go.Proofs.Ytknjdkjakngkpaa
