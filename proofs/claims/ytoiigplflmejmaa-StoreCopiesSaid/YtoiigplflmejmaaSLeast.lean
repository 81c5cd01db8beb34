/-
  Pattern.least, Store.Len, Store.Scan and list.from (closures made).
-/
import Derived.Test.YtoiigplflmejmaaSGenY
namespace Go.Proofs.Ytoiigplflmejmaa
open Go.RowKit
set_option linter.unusedVariables false
set_option linter.unusedSimpArgs false
set_option maxRecDepth 100000

set_option maxHeartbeats 4000000 in
theorem sleast_any (p0 p1 p2 : Int) (W : World) : Calls Try.prog 33 #[.agg #[.int .i64 p0, .int .i64 p1, .int .i64 p2]] W fun e w' => e = .returned (.agg #[.int .i64 (max p0 0), .int .i64 (max p1 0), .int .i64 (max p2 0)]) ∧ Below W.heap.size W w' := by
  have hmx : ∀ (x : Int) (ts : Array TypeId) (ty : TypeId) w, (Builtin.max_ ts ty #[.int .i64 x, .int .i64 0]).run Try.prog w = .ok (.int .i64 (max x 0)) w := fun x ts ty w => by
    rw [run_max_int2]
    congr 2
    split <;> omega
  have m0 := hmx p0
  have m1 := hmx p1
  have m2 := hmx p2
  clear hmx
  generalize max p0 0 = q0 at *
  generalize max p1 0 = q1 at *
  generalize max p2 0 = q2 at *
  go_enter Try.func33, Try.ntmps33
  go_wp2
  exact bodyPost_ret (v := .agg #[.int .i64 q0, .int .i64 q1, .int .i64 q2]) (by simp [results, Try.results33, go_sem]) rfl ⟨rfl, ((Below.refl _ _).alloc (Nat.le_refl _) _).alloc (by simp) _⟩
theorem slen_sx {B d : Nat} {room many : Int} {m0 m1 m2 : List Kt} {W : World} (h : Sx B d room many m0 m1 m2 W) : Calls Try.prog 17 #[.pointer (some ⟨d, 0, none⟩)] W fun e w' => e = .returned (.int .i64 many) ∧ w' = W := by
  obtain ⟨_, _, _, _, _, _, _, _, _, q⟩ := h
  have c1 := q.fb.cell 1
  clear q
  go_enter Try.func17, Try.ntmps17
  go_wp2
  go_ret
  exact ⟨rfl, rfl⟩
theorem sscan_any (v : Value) (p0 p1 p2 : Int) (d : Nat) (W : World) : Calls Try.prog 21 #[.pointer (some ⟨d, 0, none⟩), .agg #[.int .i64 p0, .int .i64 p1, .int .i64 p2]] W fun e w' => e = .returned (.func (.func 31) #[] #[.pointer (some ⟨W.heap.size, 0, none⟩), .pointer (some ⟨W.heap.size + 1, 0, none⟩)]) ∧ w' = (W.alloc (.cells #[.pointer (some ⟨d, 0, none⟩)] 24)).alloc (.cells #[.int .i64 p0, .int .i64 p1, .int .i64 p2] 48) := by
  go_enter Try.func21, Try.ntmps21
  go_wp2
  go_ret
  exact ⟨rfl, rfl⟩
theorem slfrom_any (a b c : Int) (d o : Nat) (W : World) : Calls Try.prog 32 #[.pointer (some ⟨d, o, none⟩), .agg #[.int .i64 a, .int .i64 b, .int .i64 c]] W fun e w' => e = .returned (.func (.func 42) #[] #[.pointer (some ⟨W.heap.size, 0, none⟩), .pointer (some ⟨W.heap.size + 1, 0, none⟩)]) ∧ w' = (W.alloc (.cells #[.pointer (some ⟨d, o, none⟩)] 67)).alloc (.cells #[.int .i64 a, .int .i64 b, .int .i64 c] 37) := by
  go_enter Try.func32, Try.ntmps32
  go_wp2
  go_ret
  exact ⟨rfl, rfl⟩
end Go.Proofs.Ytoiigplflmejmaa
