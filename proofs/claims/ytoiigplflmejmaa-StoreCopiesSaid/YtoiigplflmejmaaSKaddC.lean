/-
  THE DOCUMENT's STORE: Add in general, and how it goes with the program's.
-/
import Derived.Test.YtoiigplflmejmaaSKaddB
namespace Go.Proofs.Ytoiigplflmejmaa
open Go.RowKit
set_option linter.unusedVariables false
set_option linter.unusedSimpArgs false
set_option maxRecDepth 100000

theorem kadd_any {B : Nat} {W : World} {v : Value} {L : List Kt} (hL : KtD B W v L) (hB : B ≤ W.heap.size) (hl : L.length ≤ 1000) (room : Int) (k : Kt) :
    Calls Try.prog 10 #[.agg #[.int .i64 room, v], .agg #[.int .i64 k.a, .int .i64 k.b, .int .i64 k.c]] W (KaddP B W room (addD room L k)) := by
  unfold addD
  by_cases h1 : k.a < 0 ∨ k.b < 0 ∨ k.c < 0
  · rw [if_pos h1]; exact kadd_neg hL room k h1
  · rw [if_neg h1]
    have hn : nnK k := by unfold nnK; omega
    by_cases h2 : k ∈ L
    · rw [if_pos h2]; exact kadd_no hL hl room k hn 5 (.inl ⟨h2, rfl⟩)
    · rw [if_neg h2]
      by_cases h3 : room ≤ (L.length : Int)
      · rw [if_pos h3]; exact kadd_no hL hl room k hn 6 (.inr ⟨h2, h3, rfl⟩)
      · rw [if_neg h3]; exact kadd_ok hL hB hl room k.a k.b k.c hn h2 h3
/-- The program's and the document's Add go together. -/
theorem add_both {room : Int} {m L : List Kt} (h : L.Perm m) (k : Kt) : (addD room L k).1.Perm (addR room m k).1 ∧ (addD room L k).2 = (addR room m k).2 := by
  unfold addD addR
  by_cases h1 : k.a < 0 ∨ k.b < 0 ∨ k.c < 0
  · rw [if_pos h1, if_pos h1]; exact ⟨h, rfl⟩
  · rw [if_neg h1, if_neg h1]
    by_cases h2 : k ∈ L
    · rw [if_pos h2, if_pos (h.mem_iff.1 h2)]; exact ⟨h, rfl⟩
    · rw [if_neg h2, if_neg (fun e => h2 (h.mem_iff.2 e)), h.length_eq]
      by_cases h3 : room ≤ (m.length : Int)
      · rw [if_pos h3, if_pos h3]; exact ⟨h, rfl⟩
      · rw [if_neg h3, if_neg h3]
        exact ⟨(List.perm_append_comm.trans (h.cons k)), rfl⟩
theorem addD_len {room : Int} {L : List Kt} {k : Kt} : (addD room L k).1.length ≤ L.length + 1 := by
  unfold addD; split
  · exact Nat.le_succ _
  · split
    · exact Nat.le_succ _
    · split
      · exact Nat.le_succ _
      · simp
end Go.Proofs.Ytoiigplflmejmaa
