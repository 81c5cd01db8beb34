/-
  bag.New, Bag.Len.
-/
import Derived.Test.YtncnoilldlnpoaaBgAddW
namespace Go.Proofs.Ytncnoilldlnpoaa
open Go.RowKit
set_option linter.unusedVariables false
set_option linter.unusedSimpArgs false
set_option maxRecDepth 100000

def newW (W : World) (room : Int) : World := (W.alloc (.map #[] 0)).alloc (.cells #[.int .i64 room, .int .i64 0, .map (some W.heap.size), .slice none 0 0] 48)
theorem mkMapO (w : World) : (Instr.makeMap 45 none).run Try.prog w = .ok (.map (some w.heap.size)) (w.alloc (.map #[] 0)) := by
  first | rfl | kernel_rfl | simp [Instr.makeMap]
theorem gnew_any (W : World) {room : Int} (h0 : 1 ≤ room) (h1 : room ≤ 100000) : Calls Try.prog 7 #[.int .i64 room] W fun e w' => e = .returned (.tuple #[.pointer (some ⟨W.heap.size + 1, 0, none⟩), .int .i64 0]) ∧ w' = newW W room := by
  have hmk := mkMapO W
  have d0 : decide (room < 1) = false := decide_eq_false (by omega)
  have d1 : decide (100000 < room) = false := decide_eq_false (by omega)
  have n0 : ¬ room < 1 := by omega
  have n1 : ¬ 100000 < room := by omega
  unfold newW
  go_enter Try.func7, Try.ntmps7
  go_wp2
  go_ret2
  exact ⟨rfl, rfl⟩
theorem new_below (W : World) (room : Int) : Below W.heap.size W (newW W room) := by
  unfold newW
  exact ((Below.refl _ _).alloc (Nat.le_refl _) _).alloc (by simp) _
theorem new_bk {B : Nat} {W : World} {room : Int} (hB : B ≤ W.heap.size) : Bk B (W.heap.size + 1) room (.slice none 0 0) W.heap.size [] [] (newW W room) ∧ TsR B (newW W room) (.slice none 0 0) [] := by
  have hf : Fb (newW W room) (W.heap.size + 1) 48 #[.int .i64 room, .int .i64 0, .map (some W.heap.size), .slice none 0 0] := by
    unfold newW
    have := Fb.new (W.alloc (.map #[] 0)) 48 #[.int .i64 room, .int .i64 0, .map (some W.heap.size), .slice none 0 0]
    rw [World.size_alloc] at this
    exact this
  have hm : Mq iE mE (newW W room) W.heap.size [] := (Mq.new W).of (Below.heap_alloc _ _ _ (by simp))
  have hs : (newW W room).heap.size = W.heap.size + 2 := by simp [newW]
  have hfp : ∀ q, Fp (W.heap.size + 1) W.heap.size (.slice none 0 0) [] q → q = W.heap.size + 1 ∨ q = W.heap.size := fun q hq => by
    rcases hq with e | e | e | ⟨z, hz, _⟩
    · exact .inl e
    · exact .inr e
    · cases e
    · cases hz
  refine ⟨⟨hf, ⟨[], hm, List.Perm.refl _⟩, fun z hz => (by cases hz), .inl ⟨rfl, rfl⟩, List.Pairwise.nil, List.nodup_nil, fun z hz => (by cases hz), fun q hq => (by rcases hfp q hq with e | e <;> omega), fun q hq => (by rcases hfp q hq with e | e <;> omega), fun e => (by cases e), fun z hz => (by cases hz), fun z hz => (by cases hz), fun z hz => (by cases hz), fun z hz => (by cases hz), fun x hx => (by cases hx)⟩, ⟨rfl, .inl ⟨rfl, rfl⟩⟩⟩
theorem glen_any {B d am : Nat} {room : Int} {v : Value} {D : List Tz} {M : List (Int × Ky)} {W : World} (h : Bk B d room v am D M W) :
    Calls Try.prog 11 #[.pointer (some ⟨d, 0, none⟩)] W fun e w' => e = .returned (.int .i64 (M.length : Int)) ∧ w' = W := by
  have c1 : W.cell? ⟨d, 1, none⟩ = some (.int .i64 (M.length : Int)) := h.st.cell 1
  clear h
  go_enter Try.func11, Try.ntmps11
  go_wp2
  go_ret
  exact ⟨rfl, rfl⟩
end Go.Proofs.Ytncnoilldlnpoaa
