/-
  A STORE IN GENERAL: three lists of the same keys; Has.
-/
import Derived.Test.YtoiigplflmejmaaSGenE
import Derived.Test.YtoiigplflmejmaaSStH
namespace Go.Proofs.Ytoiigplflmejmaa
open Go.RowKit
set_option linter.unusedVariables false
set_option linter.unusedSimpArgs false
set_option maxRecDepth 100000

theorem Lx.ge {B : Nat} {W : World} {d o : Nat} {n : Int} {x : Value} {l : List Kt} {F : List Nat} (h : Lx B W d o n x l F) : ∀ q ∈ F, B ≤ q ∧ q < W.heap.size := fun q hq => by
  obtain ⟨_, _, h⟩ := h
  rcases h with ⟨_, _, rfl⟩ | ⟨gb, cb, v, g, _, hvg, rfl, hm, _, _, hge⟩
  · cases hq
  · simp at hq
    rcases hq with rfl | rfl
    · exact ⟨hge.1, hm.hb.lt⟩
    · exact World.ownsRow.lt hm.hr _ hvg
/-- What lies elsewhere may turn. -/
theorem Lx.keep {B : Nat} {W W' : World} {d o : Nat} {n : Int} {x : Value} {l : List Kt} {F : List Nat} (h : Lx B W d o n x l F) (h0 : W'.cell? ⟨d, o, none⟩ = W.cell? ⟨d, o, none⟩) (h1 : W'.cell? ⟨d, o + 1, none⟩ = W.cell? ⟨d, o + 1, none⟩) (hF : ∀ q ∈ F, W'.heap[q]? = W.heap[q]?) : Lx B W' d o n x l F := by
  obtain ⟨c0, c1, h⟩ := h
  refine ⟨h0.trans c0, h1.trans c1, ?_⟩
  rcases h with h | ⟨gb, cb, v, g, hx, hvg, rfl, hm, hp, hs, hge⟩
  · exact .inl h
  · refine .inr ⟨gb, cb, v, g, hx, hvg, rfl, ⟨h0.trans hm.h0, h1.trans hm.h1, hm.hb.keep (hF gb (by simp)), hm.hr.1, ?_⟩, hp, hs, hge⟩
    rcases id hm.hr.2 with hn | ⟨q, cap, cur, hv, hq, hg, rest⟩
    · exact .inl hn
    · have e : g = q := by rw [hv] at hvg; exact (Option.some.inj hvg).symm
      exact .inr ⟨q, cap, cur, hv, hq, (hF q (by rw [e]; simp)).trans hg, rest⟩
/-- A store: its lists hold these keys. -/
structure Sy (B : Nat) (d : Nat) (room many : Int) (m0 m1 m2 : List Kt) (x0 x1 x2 : Value) (l0 l1 l2 : List Kt) (F0 F1 F2 : List Nat) (W : World) : Prop where
  fb : Fb W d 60 (stc room many x0 x1 x2 1 2)
  hd : B ≤ d
  a0 : Lx B W d 2 0 x0 l0 F0
  a1 : Lx B W d 4 1 x1 l1 F1
  a2 : Lx B W d 6 2 x2 l2 F2
  p0 : l0.Perm m0
  p1 : l1.Perm m1
  p2 : l2.Perm m2
  d01 : ∀ q ∈ F0, q ∉ F1
  d02 : ∀ q ∈ F0, q ∉ F2
  d12 : ∀ q ∈ F1, q ∉ F2
def Sx (B : Nat) (d : Nat) (room many : Int) (m0 m1 m2 : List Kt) (W : World) : Prop := ∃ x0 x1 x2 l0 l1 l2 F0 F1 F2, Sy B d room many m0 m1 m2 x0 x1 x2 l0 l1 l2 F0 F1 F2 W
theorem Lx.below {B : Nat} {W W' : World} {d o : Nat} {n : Int} {x : Value} {l : List Kt} {F : List Nat} (h : Lx B W d o n x l F) (hd : d < W.heap.size) (hb : Below W.heap.size W W') : Lx B W' d o n x l F :=
  h.keep (hb.cell (p := ⟨d, o, none⟩) hd) (hb.cell (p := ⟨d, o + 1, none⟩) hd) (fun q hq => hb.block q (h.ge q hq).2)
section
variable {B d : Nat} {room many : Int} {m0 m1 m2 : List Kt}
theorem Sx.below {W W' : World} (h : Sx B d room many m0 m1 m2 W) (hb : Below W.heap.size W W') : Sx B d room many m0 m1 m2 W' := by
  obtain ⟨x0, x1, x2, l0, l1, l2, F0, F1, F2, h⟩ := h
  exact ⟨x0, x1, x2, l0, l1, l2, F0, F1, F2, h.fb.below hb, h.hd, h.a0.below h.fb.lt hb, h.a1.below h.fb.lt hb, h.a2.below h.fb.lt hb, h.p0, h.p1, h.p2, h.d01, h.d02, h.d12⟩
/-- Has. -/
theorem shas_sx {W : World} (h : Sx B d room many m0 m1 m2 W) (hl : m0.length ≤ 1000) (k : Kt) :
    Calls Try.prog 15 #[.pointer (some ⟨d, 0, none⟩), .agg #[.int .i64 k.a, .int .i64 k.b, .int .i64 k.c]] W fun e w' => e = .returned (.bool (decide (k ∈ m0))) ∧ Below W.heap.size W w' := by
  obtain ⟨x0, x1, x2, l0, l1, l2, F0, F1, F2, h⟩ := h
  have hmem : decide (k ∈ m0) = decide (k ∈ l0) := decide_eq_decide.2 h.p0.mem_iff.symm
  rw [hmem]
  obtain ⟨_, _, ha⟩ := h.a0
  rcases ha with ⟨rfl, ⟨A0, c0', rfl⟩, _⟩ | ⟨gb, cb, v, g, rfl, hvg, _, hm, hp, hs, hge⟩
  · have := shas_none k.a k.b k.c h.fb
    rw [show decide (k ∈ ([] : List Kt)) = false from decide_eq_false (by simp)]
    exact this
  · exact shas_any hm (by rw [h.p0.length_eq]; exact hl) hp hs k
end
end Go.Proofs.Ytoiigplflmejmaa
