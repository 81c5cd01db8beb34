/-
  BLOCKS IN MEMORY.
-/
import Derived.Test.YtcbdgbcphfimlaaProg
import Derived.WalkKit
import Derived.WalkLawsBesides
import Derived.Below
import Derived.IntWalk
import Derived.Lib.Hide
import Derived.Laws.Rows
import Derived.Laws.AppendOwn
import Derived.Outline
import Derived.Deep.LoopGhost
import Derived.BigQuiet
import Derived.Deep.QuietTactic
namespace Go.Proofs.Ytcbdgbcphfimlaa
open Go.RowKit
set_option linter.unusedVariables false
set_option linter.unusedSimpArgs false
set_option maxRecDepth 100000

def Fb (w : World) (g : Nat) (t : TypeId) (cs : Array Value) : Prop := w.heap[g]? = some (.cells cs t (0, 0))
theorem Fb.lt {w : World} {g : Nat} {t : TypeId} {cs : Array Value} (h : Fb w g t cs) : g < w.heap.size := (Array.getElem?_eq_some_iff.1 h).1
theorem Fb.cell {w : World} {g : Nat} {t : TypeId} {cs : Array Value} (h : Fb w g t cs) (i : Nat) : w.cell? ⟨g, i, none⟩ = cs[i]? := cell_of_row w g i cs t (0, 0) h
theorem Fb.new (w : World) (t : TypeId) (cs : Array Value) : Fb (w.alloc (.cells cs t)) w.heap.size t cs := heap_alloc_new w _
theorem Fb.alloc {w : World} {g : Nat} {t : TypeId} {cs : Array Value} (h : Fb w g t cs) (o : Obj) : Fb (w.alloc o) g t cs := (Below.heap_alloc w o g h.lt).trans h
theorem Fb.below {w w' : World} {g : Nat} {t : TypeId} {cs : Array Value} (h : Fb w g t cs) (hb : Below w.heap.size w w') : Fb w' g t cs := (hb.block g h.lt).trans h
theorem Fb.drew {w : World} {g : Nat} {t : TypeId} {cs : Array Value} (h : Fb w g t cs) : Fb w.drew g t cs := h
theorem Fb.free {w : World} {g : Nat} {t : TypeId} {cs : Array Value} (h : Fb w g t cs) (i : Nat) : w.frozen? ⟨g, i, none⟩ = false := Lib.frozen_of_heap h i
theorem Fb.set {w : World} {g : Nat} {t : TypeId} {cs : Array Value} (h : Fb w g t cs) (i : Nat) (x : Value) : Fb (w.setCell ⟨g, i, none⟩ x) g t (cs.setIfInBounds i x) := heap_setCell_same w g i _ _ _ h
theorem Fb.far {w : World} {g g' : Nat} {t : TypeId} {cs : Array Value} (h : Fb w g t cs) (i : Nat) (x : Value) (hne : g ≠ g') : Fb (w.setCell ⟨g', i, none⟩ x) g t cs := (Below.heap_setCell _ _ _ _ hne).trans h
theorem at_add (g o j : Nat) : (⟨g, o, none⟩ : Addr).add j = ⟨g, o + j, none⟩ := by
  by_cases h : j = 0
  · subst h; simp [Addr.add]
  · simp [Addr.add, h]
theorem below_drewP {B : Nat} {W0 W : World} (h : Below B W0 W) (q : Nat) : Below B W0 (W.drewN q) := ⟨h.os, h.tape, h.output, h.size, h.block⟩
/-- What was there, and some blocks. -/
def Hs (w : World) (l : List (Nat × TypeId × Array Value)) (W : World) : Prop := Below w.heap.size w W ∧ ∀ p ∈ l, Fb W p.1 p.2.1 p.2.2
section
variable {w W W' : World} {l : List (Nat × TypeId × Array Value)}
theorem Hs.b (h : Hs w l W) : Below w.heap.size w W := h.1
theorem Hs.below (h : Hs w l W) (hb : Below W.heap.size W W') : Hs w l W' := ⟨h.1.trans (hb.mono h.1.size), fun p hp => (h.2 p hp).below hb⟩
theorem Hs.drew (h : Hs w l W) : Hs w l W.drew := h.below (Below.refl _ _).drew
theorem Hs.drewN (h : Hs w l W) (q : Nat) : Hs w l (W.drewN q) := h.below ⟨rfl, rfl, rfl, Nat.le_refl _, fun _ _ => rfl⟩
theorem Hs.alloc (h : Hs w l W) (o : Obj) : Hs w l (W.alloc o) := h.below ((Below.refl _ _).alloc (Nat.le_refl _) o)
theorem Hs.add (h : Hs w l W) (t : TypeId) (cs : Array Value) : Hs w ((W.heap.size, t, cs) :: l) (W.alloc (.cells cs t)) := ⟨(h.alloc _).1, fun p hp => by
  rcases List.mem_cons.1 hp with rfl | hp
  · exact Fb.new W t cs
  · exact (h.alloc _).2 p hp⟩
theorem hs1 (w : World) (t : TypeId) (cs : Array Value) : Hs w [(w.heap.size, t, cs)] (w.alloc (.cells cs t)) := Hs.add (l := []) ⟨Below.refl _ _, fun p hp => by cases hp⟩ t cs
theorem hs2 (w : World) (t u : TypeId) (cs ds : Array Value) : Hs w [(w.heap.size + 1, u, ds), (w.heap.size, t, cs)] ((w.alloc (.cells cs t)).alloc (.cells ds u)) := by simpa using (hs1 w t cs).add u ds
theorem Hs.c1 (h : Hs w l W) {g : Nat} {t : TypeId} {a : Value} (hm : (g, t, #[a]) ∈ l) : W.cell? ⟨g, 0, none⟩ = some a := (h.2 _ hm).cell 0
theorem Hs.c2 (h : Hs w l W) {g : Nat} {t : TypeId} {a b : Value} (hm : (g, t, #[a, b]) ∈ l) : W.cell? ⟨g, 0, none⟩ = some a ∧ W.cell? ⟨g, 1, none⟩ = some b := ⟨(h.2 _ hm).cell 0, (h.2 _ hm).cell 1⟩
theorem Hs.c3 (h : Hs w l W) {g : Nat} {t : TypeId} {a b c : Value} (hm : (g, t, #[a, b, c]) ∈ l) : W.cell? ⟨g, 0, none⟩ = some a ∧ W.cell? ⟨g, 1, none⟩ = some b ∧ W.cell? ⟨g, 2, none⟩ = some c := ⟨(h.2 _ hm).cell 0, (h.2 _ hm).cell 1, (h.2 _ hm).cell 2⟩
theorem Hs.free (h : Hs w l W) {p : Nat × TypeId × Array Value} (hm : p ∈ l) (i : Nat) : W.frozen? ⟨p.1, i, none⟩ = false := (h.2 _ hm).free i
theorem Hs.lt (h : Hs w l W) {p : Nat × TypeId × Array Value} (hm : p ∈ l) : p.1 < W.heap.size := (h.2 _ hm).lt
/-- A store into the first block. -/
theorem Hs.put {g : Nat} {t : TypeId} {cs : Array Value} (h : Hs w ((g, t, cs) :: l) W) (hg : w.heap.size ≤ g) (hne : ∀ p ∈ l, p.1 ≠ g) (i : Nat) (x : Value) : Hs w ((g, t, cs.setIfInBounds i x) :: l) (W.setCell ⟨g, i, none⟩ x) := ⟨h.1.setCell hg _, fun p hp => by
  rcases List.mem_cons.1 hp with rfl | hp
  · exact (h.2 _ (.head _)).set i x
  · exact (h.2 p (.tail _ hp)).far i x (hne p hp)⟩
theorem Hs.cons (h : Hs w l W) {g : Nat} {t : TypeId} {cs : Array Value} (hf : Fb W g t cs) : Hs w ((g, t, cs) :: l) W := ⟨h.1, fun p hp => by
  rcases List.mem_cons.1 hp with rfl | hp
  · exact hf
  · exact h.2 p hp⟩
theorem upH {f : FuncId} {args : Array Value} {r : Ending} (hR : Hs w l W) (h : Calls Try.prog f args W fun e w' => e = r ∧ Below W.heap.size W w') : Calls Try.prog f args W fun e w' => e = r ∧ Hs w l w' :=
  h.mono fun e w' ⟨h1, h2⟩ => ⟨h1, hR.below h2⟩
end
theorem Hs.pick {w W : World} {l l' : List (Nat × TypeId × Array Value)} (h : Hs w l W) (hs : ∀ p ∈ l', p ∈ l) : Hs w l' W := ⟨h.1, fun p hp => h.2 p (hs p hp)⟩
theorem two_new {w W : World} {l : List (Nat × TypeId × Array Value)} (h : Hs w l W) (t : TypeId) (a b : Array Value) : Hs w ((W.heap.size, t, a) :: (W.heap.size + 1, t, b) :: l) (((W.alloc (.cells a t)).alloc (.cells b t)).drew) := by
  have h2 := (((h.add t a).add t b)).drew
  simp only [World.size_alloc] at h2
  refine h2.pick fun p hp => ?_
  simp only [List.mem_cons] at hp ⊢
  rcases hp with h | h | h
  · exact .inr (.inl h)
  · exact .inl h
  · exact .inr (.inr h)
end Go.Proofs.Ytcbdgbcphfimlaa
