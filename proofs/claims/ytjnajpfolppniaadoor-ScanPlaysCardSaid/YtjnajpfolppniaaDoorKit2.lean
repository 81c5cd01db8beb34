/-
  WHAT THE LAWS OVER A SCANNER SHARE: Run over all classes, the document's Text, a scanner made.
-/
import Derived.Test.YtjnajpfolppniaaDoorRunA
import Derived.Test.YtjnajpfolppniaaDoorText
namespace Go.Proofs.YtjnajpfolppniaaDoor
open Go.RowKit
set_option linter.unusedVariables false

theorem addr_add (g j : Nat) : (⟨g, 0, none⟩ : Addr).add j = ⟨g, j, none⟩ := by
  by_cases hj : j = 0
  · subst hj; simp [Addr.add]
  · simp [Addr.add, hj]
theorem Sc.mono {B B' : Nat} {w : World} {b : Nat} {v : Value} {sl : List Int} {k : Nat} (h : Sc B w b v sl k) (hB : B' ≤ B) : Sc B' w b v sl k := by
  refine ⟨h.blk, ⟨h.row.1, ?_⟩, Nat.le_trans hB h.ge⟩
  rcases h.row.2 with x | ⟨g, cap, cur, hv, hg, hh, rest⟩
  · exact .inl x
  · exact .inr ⟨g, cap, cur, hv, Nat.le_trans hB hg, hh, rest⟩
theorem Sc.below {B : Nat} {w w' : World} {b : Nat} {v : Value} {sl : List Int} {k : Nat} (h : Sc B w b v sl k) (hb : Below w.heap.size w w') : Sc B w' b v sl k := by
  refine ⟨(hb.block b (Array.getElem?_eq_some_iff.1 h.blk).1).trans h.blk, ⟨h.row.1, ?_⟩, h.ge⟩
  rcases h.row.2 with x | ⟨g, cap, cur, hv, hg, hh, rest⟩
  · exact .inl x
  · exact .inr ⟨g, cap, cur, hv, hg, (hb.block g (Array.getElem?_eq_some_iff.1 hh).1).trans hh, rest⟩
theorem TS.below {w : World} {b : Nat} {v vI : Value} {sl : List Int} {k : Nat} {W W' : World} (h : TS w b v vI sl k W) (hb : Below W.heap.size W W') : TS w b v vI sl k W' :=
  ⟨h.1.below hb, ints_below h.2.1 hb, h.2.2.trans (hb.mono h.2.2.size)⟩
theorem TS.alloc {w : World} {b : Nat} {v vI : Value} {sl : List Int} {k : Nat} {W : World} (h : TS w b v vI sl k W) (o : Obj) : TS w b v vI sl k (W.alloc o) := h.below ((Below.refl _ _).alloc (Nat.le_refl _) o)
theorem TS.drew {w : World} {b : Nat} {v vI : Value} {sl : List Int} {k : Nat} {W : World} (h : TS w b v vI sl k W) : TS w b v vI sl k W.drew := h.same ⟨rfl, rfl, rfl, rfl⟩
def six : List Int := [0, 1, 2, 3, 4, 5]
theorem cls_six (n : Int) (h : sgn n = true) : cls n ∈ six := by
  obtain ⟨h0, h1, h2⟩ := (sgn_iff n).1 h
  have : 0 ≤ cls n ∧ cls n ≤ 5 := by unfold cls; omega
  have h6 : cls n = 0 ∨ cls n = 1 ∨ cls n = 2 ∨ cls n = 3 ∨ cls n = 4 ∨ cls n = 5 := by omega
  unfold six
  rcases h6 with h | h | h | h | h | h <;> rw [h] <;> simp
theorem runN_six : ∀ l : List Int, AllS l → runN six l = l.length
  | [], _ => rfl
  | n :: l, h => by simp only [runN, if_pos (cls_six n h.head), runN_six l h.tail, List.length_cons]
abbrev sixObj : Obj := .cells #[.int .i64 0, .int .i64 1, .int .i64 2, .int .i64 3, .int .i64 4, .int .i64 5] 3 (0, 0)
section
variable {w : World} {b : Nat} {v vI : Value} {sl : List Int} {k : Nat}
theorem ts_run_at {W : World} (h : TS w b v vI sl k W) (hk : k ≤ sl.length) (hl : sl.length ≤ 4294967296) (hall : AllS sl) (g : Nat) (hg : W.heap[g]? = some sixObj) :
    Calls Tryd.prog 13 #[.pointer (some ⟨b, 0, none⟩), .slice (some ⟨g, 0, none⟩) 6 6] W fun e w' => e = .returned (.string (textOf (sl.drop k))) ∧ TS w b v vI sl sl.length w' := by
  have hgb : g ≠ b := by
    intro e
    rw [e, h.1.blk] at hg
    cases hg
  have hcs : ClsAt W g 0 six := by
    intro j x hx
    rw [Lib.cell_of_heap hg]
    unfold six at hx
    match j, hx with
    | 0, hx => simp at hx; subst hx; rfl
    | 1, hx => simp at hx; subst hx; rfl
    | 2, hx => simp at hx; subst hx; rfl
    | 3, hx => simp at hx; subst hx; rfl
    | 4, hx => simp at hx; subst hx; rfl
    | 5, hx => simp at hx; subst hx; rfl
    | j + 6, hx => simp at hx
  refine (run_any h.1 hk hl hall g 0 6 (Array.getElem?_eq_some_iff.1 hg).1 hgb hcs (by decide)).mono fun e w' ⟨h1, h2⟩ => ?_
  rw [runN_six _ (fun n hn => hall n (List.mem_of_mem_drop hn))] at h1 h2
  rw [List.take_length] at h1
  rw [List.length_drop, show k + (sl.length - k) = sl.length by omega] at h2
  exact ⟨h1, h.moves h2⟩
theorem ts_run (hk : k ≤ sl.length) (hl : sl.length ≤ 4294967296) (hall : AllS sl) (W : World) (h : TS w b v vI sl k W) :
    Calls Tryd.prog 13 #[.pointer (some ⟨b, 0, none⟩), .slice (some ⟨W.heap.size, 0, none⟩) 6 6] (W.alloc sixObj) fun e w' => e = .returned (.string (textOf (sl.drop k))) ∧ TS w b v vI sl sl.length w' :=
  ts_run_at (h.alloc _) hk hl hall W.heap.size (heap_alloc_new _ _)
theorem ts_run_drew (hk : k ≤ sl.length) (hl : sl.length ≤ 4294967296) (hall : AllS sl) (W : World) (h : TS w b v vI sl k W) :
    Calls Tryd.prog 13 #[.pointer (some ⟨b, 0, none⟩), .slice (some ⟨W.heap.size, 0, none⟩) 6 6] (W.alloc sixObj).drew fun e w' => e = .returned (.string (textOf (sl.drop k))) ∧ TS w b v vI sl sl.length w' :=
  ts_run_at (h.alloc _).drew hk hl hall W.heap.size (heap_alloc_new W sixObj)
/-- The document's Text of the signs from a place on. -/
theorem ts_text {g cap n : Nat} (hall : AllS sl) (hl : sl.length ≤ 1000000) (q : Nat) (ao : Option Addr) (c : Nat) (hao : q < sl.length → ao = some ⟨g, q, none⟩) (W : World) (h : TS w b v (.slice (some ⟨g, 0, none⟩) n cap) sl k W) :
    Calls Tryd.prog 8 #[.slice ao (sl.length - q) c] W fun e w' => e = .returned (.string (textOf (sl.drop q))) ∧ TS w b v (.slice (some ⟨g, 0, none⟩) n cap) sl k w' := by
  have hlt : g < W.heap.size := (World.ownsRow.lt h.2.1 g rfl).2
  have hcl : ∀ (j : Nat) (x : Int), (sl.drop q)[j]? = some x → W.cell? ⟨g, q + j, none⟩ = some (.int .i64 x) := by
    intro j x hx
    rw [List.getElem?_drop] at hx
    have := World.ownsRow.cells h.2.1 (g := g) rfl (q + j) (.int .i64 x) (by simp [intRow, hx])
    rw [addr_add] at this
    exact this
  have := text_any (sl.drop q) (fun n hn => hall n (List.mem_of_mem_drop hn)) (by simp; omega) ao g q c W (fun h0 => ⟨hao (by simp at h0; omega), hlt⟩) hcl
  rw [List.length_drop] at this
  exact this.mono fun e w' ⟨x, y⟩ => ⟨x, h.below y⟩
end
end Go.Proofs.YtjnajpfolppniaaDoor
