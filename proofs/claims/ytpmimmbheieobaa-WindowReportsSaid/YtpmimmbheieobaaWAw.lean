/-
  awake; what the statements' walks share.
-/
import Derived.Test.YtpmimmbheieobaaWAt
namespace Go.Proofs.Ytpmimmbheieobaa
open Go.RowKit
set_option linter.unusedVariables false
set_option linter.unusedSimpArgs false
set_option maxRecDepth 100000

theorem sh0_ok : (⟨10, 5, 0⟩ : Sh).ok := by constructor <;> decide
theorem sh0_mny : (⟨10, 5, 0⟩ : Sh).mny 7 = (2 : Nat) := by decide
theorem sh0_fst : (⟨10, 5, 0⟩ : Sh).fst 7 = 0 := by decide
theorem NumR.c2 {B g : Nat} {W : World} (h : NumR B g 2 2 0 W) : W.cell? ⟨g, 0, none⟩ = some (.int .i64 0) ∧ W.cell? ⟨g, 1, none⟩ = some (.int .i64 1) := ⟨h.cell (k := 0) (by omega), h.cell (k := 1) (by omega)⟩
theorem wawake_ok (w : World) : Calls Try.prog 10 #[] w fun e w' => e = .returned (.bool true) ∧ Below w.heap.size w w' := by
  have cA := fun W => wat_ok sh0_ok 7 (by omega) (by omega) 2 sh0_mny (by omega) W
  rw [sh0_fst] at cA
  go_enter Try.func10, Try.ntmps10
  go_wp2_with (go_at_call 15; (with_reducible refine (cA _).mono ?_); rintro e w1 ⟨g, rfl, hN, hB⟩; obtain ⟨x0, x1⟩ := hN.c2)
  go_ret
  exact ⟨rfl, hB⟩
abbrev c3v (a b c : Int) : Array Value := #[.int .i64 a, .int .i64 b, .int .i64 c]
theorem fin2 {w w2 W : World} {cs : Array Value} {t : TypeId} (h2 : Below w.heap.size w w2) (hR : Rcv w2 cs t W) : Below w.heap.size w W := h2.trans (hR.b.mono h2.size)
/-- What was there, and some blocks. -/
def Hs (w : World) (l : List (Nat × TypeId × Array Value)) (W : World) : Prop := Below w.heap.size w W ∧ ∀ p ∈ l, Fb W p.1 p.2.1 p.2.2
section
variable {w W W' : World} {l : List (Nat × TypeId × Array Value)}
theorem Hs.b (h : Hs w l W) : Below w.heap.size w W := h.1
theorem Hs.below (h : Hs w l W) (hb : Below W.heap.size W W') : Hs w l W' := ⟨h.1.trans (hb.mono h.1.size), fun p hp => (h.2 p hp).below hb⟩
theorem Hs.drew (h : Hs w l W) : Hs w l W.drew := h.below (Below.refl _ _).drew
theorem Hs.drewN (h : Hs w l W) (q : Nat) : Hs w l (W.drewN q) := h.below ⟨rfl, rfl, rfl, Nat.le_refl _, fun _ _ => rfl⟩
theorem Hs.alloc (h : Hs w l W) (o : Obj) : Hs w l (W.alloc o) := h.below (bl1 W o)
theorem Hs.add (h : Hs w l W) (t : TypeId) (cs : Array Value) : Hs w ((W.heap.size, t, cs) :: l) (W.alloc (.cells cs t)) := ⟨(h.alloc _).1, fun p hp => by
  rcases List.mem_cons.1 hp with rfl | hp
  · exact Fb.new W t cs
  · exact (h.alloc _).2 p hp⟩
theorem hs1 (w : World) (t : TypeId) (cs : Array Value) : Hs w [(w.heap.size, t, cs)] (w.alloc (.cells cs t)) := Hs.add (l := []) ⟨Below.refl _ _, fun p hp => by cases hp⟩ t cs
theorem hs2 (w : World) (t u : TypeId) (cs ds : Array Value) : Hs w [(w.heap.size + 1, u, ds), (w.heap.size, t, cs)] ((w.alloc (.cells cs t)).alloc (.cells ds u)) := by simpa using (hs1 w t cs).add u ds
theorem Hs.c1 (h : Hs w l W) {g : Nat} {t : TypeId} {a : Value} (hm : (g, t, #[a]) ∈ l) : W.cell? ⟨g, 0, none⟩ = some a := (h.2 _ hm).cell 0
theorem Hs.c2 (h : Hs w l W) {g : Nat} {t : TypeId} {a b : Value} (hm : (g, t, #[a, b]) ∈ l) : W.cell? ⟨g, 0, none⟩ = some a ∧ W.cell? ⟨g, 1, none⟩ = some b := ⟨(h.2 _ hm).cell 0, (h.2 _ hm).cell 1⟩
theorem Hs.c3 (h : Hs w l W) {g : Nat} {t : TypeId} {a b c : Value} (hm : (g, t, #[a, b, c]) ∈ l) : W.cell? ⟨g, 0, none⟩ = some a ∧ W.cell? ⟨g, 1, none⟩ = some b ∧ W.cell? ⟨g, 2, none⟩ = some c := ⟨(h.2 _ hm).cell 0, (h.2 _ hm).cell 1, (h.2 _ hm).cell 2⟩
theorem Hs.free (h : Hs w l W) {p : Nat × TypeId × Array Value} (hm : p ∈ l) (i : Nat) : W.frozen? ⟨p.1, i, none⟩ = false := (h.2 _ hm).free i
theorem Hs.lt (h : Hs w l W) {p : Nat × TypeId × Array Value} (hm : p ∈ l) : p.1 < W.heap.size := (h.2 _ hm).lt
/-- A store into the first block. -/
theorem Hs.put {g : Nat} {t : TypeId} {cs : Array Value} (h : Hs w ((g, t, cs) :: l) W) (hg : w.heap.size ≤ g) (hne : ∀ p ∈ l, p.1 ≠ g) (i : Nat) (x : Value) : Hs w ((g, t, cs.setIfInBounds i x) :: l) (W.setCell ⟨g, i, none⟩ x) := ⟨h.1.setCell hg _, fun p hp => by
  rcases List.mem_cons.1 hp with rfl | hp
  · exact (h.2 _ (.head _)).set i x
  · exact (h.2 p (.tail _ hp)).far i x (hne p hp)⟩
theorem Hs.cons (h : Hs w l W) {g : Nat} {t : TypeId} {cs : Array Value} (hf : Fb W g t cs) : Hs w ((g, t, cs) :: l) W := ⟨h.1, fun p hp => by
  rcases List.mem_cons.1 hp with rfl | hp
  · exact hf
  · exact h.2 p hp⟩
theorem NumR.fb1 {B g : Nat} {f : Int} {W : World} (h : NumR B g 1 1 f W) : Fb W g 3 #[.int .i64 f] := by
  obtain ⟨⟨cs⟩, h1, h2, _, h3⟩ := h
  match cs, h2 with
  | [x], _ =>
    have := h3 0 (by omega)
    simp at this
    subst this
    exact h1
theorem NumR.fb0 {B g : Nat} {f : Int} {W : World} (h : NumR B g 0 0 f W) : True := trivial
theorem upH {f : FuncId} {args : Array Value} {r : Ending} (hR : Hs w l W) (h : Calls Try.prog f args W fun e w' => e = r ∧ Below W.heap.size W w') : Calls Try.prog f args W fun e w' => e = r ∧ Hs w l w' :=
  h.mono fun e w' ⟨h1, h2⟩ => ⟨h1, hR.below h2⟩
end
end Go.Proofs.Ytpmimmbheieobaa
