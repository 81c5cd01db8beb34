/-
  A key put in its place: parts of a row.
-/
import Derived.Test.YtoiigplflmejmaaSAppT
import Derived.Test.YtoiigplflmejmaaSKplain
namespace Go.Proofs.Ytoiigplflmejmaa
open Go.RowKit
set_option linter.unusedVariables false
set_option linter.unusedSimpArgs false
set_option maxRecDepth 100000

theorem insD_put {o : Int} {k x : Kt} : ∀ {l : List Kt} {t : Nat}, (∀ y ∈ l.take t, ltK o y k = true) → l[t]? = some x → ltK o x k = false → insD o k l = l.take t ++ k :: l.drop t
  | [], t, _, h, _ => by simp at h
  | y :: l, 0, _, h, h3 => by
    simp at h
    subst h
    show (if ltK o y k = true then y :: insD o k l else k :: y :: l) = _
    rw [h3, if_neg (by decide)]; rfl
  | y :: l, t + 1, h, h2, h3 => by
    have hy := h y (by rw [List.take_succ_cons]; exact .head _)
    show (if ltK o y k = true then y :: insD o k l else k :: y :: l) = _
    rw [hy, if_pos rfl, insD_put (fun z hz => h z (by rw [List.take_succ_cons]; exact .tail _ hz)) (by simpa using h2) h3]
    rfl
theorem tail_of {B : Nat} {W : World} {g n c : Nat} {out : List Kt} (h : KtD B W (.slice (some ⟨g, 0, none⟩) n c) out) (t : Nat) {w : World} (hb : Below W.heap.size W w) : TailAt w (some ⟨g, t * 3, none⟩) (out.drop t) := fun j u hj => by
  have hlt := (World.ownsRow.lt h g rfl).2
  rw [flat_dropK, List.getElem?_drop] at hj
  have := World.ownsRow.cells h (g := g) rfl (t * 3 + j) u hj
  rw [at_add] at this
  refine ⟨_, rfl, ?_⟩
  rw [at_add]
  rw [Nat.zero_add] at this
  exact (hb.cell (p := ⟨g, t * 3 + j, none⟩) hlt).trans this
theorem head_of {B : Nat} {W : World} {g n c : Nat} {out : List Kt} (h : KtD B W (.slice (some ⟨g, 0, none⟩) n c) out) (t : Nat) {w : World} (hb : Below W.heap.size W w) : TailAt w (some ⟨g, 0, none⟩) (out.take t) := fun j u hj => by
  have hlt := (World.ownsRow.lt h g rfl).2
  rw [flat_takeK, List.getElem?_take] at hj
  split at hj
  · have := World.ownsRow.cells h (g := g) rfl j u hj
    rw [at_add] at this
    refine ⟨_, rfl, ?_⟩
    rw [at_add]
    exact (hb.cell (p := ⟨g, 0 + j, none⟩) hlt).trans this
  · cases hj
end Go.Proofs.Ytoiigplflmejmaa
