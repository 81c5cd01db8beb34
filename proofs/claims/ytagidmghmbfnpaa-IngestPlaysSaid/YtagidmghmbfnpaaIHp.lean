/-
  THE HEAP's METHODS: Pop.
-/
import Derived.Test.YtagidmghmbfnpaaIDown
namespace Go.Proofs.Ytagidmghmbfnpaa
open Go.RowKit
set_option linter.unusedVariables false
set_option linter.unusedSimpArgs false
set_option maxRecDepth 100000

section
variable {B d : Nat} {s : Bs} {v : Value} {l : List It}
theorem ItR.take {W : World} {g n c : Nat} (h : ItR B W (.slice (some ⟨g, 0, none⟩) n c) l) (m : Nat) (hm : m ≤ l.length) : ItR B W (.slice (some ⟨g, 0, none⟩) m c) (l.take m) := by
  have hl : (l.take m).length = m := by rw [List.length_take]; omega
  have hf : ∀ (l : List It) (m : Nat), (l.take m).flatMap c5 = (l.flatMap c5).take (m * 5) := by
    intro l
    induction l with
    | nil => intro m; simp
    | cons x l ih =>
      intro m
      cases m with
      | zero => simp
      | succ m =>
        rw [List.take_succ_cons, List.flatMap_cons, List.flatMap_cons, ih m, show (m + 1) * 5 = m * 5 + 5 by omega]
        rfl
  refine ⟨by rw [hl, hf, List.length_take]; have := h.1; omega, ?_⟩
  rcases id h.2 with ⟨hv, h0⟩ | ⟨g', cap', cur, hv, hB, hg, hc, hx, hs, ht⟩
  · cases hv
  · injection hv with hv1 hv2 hv3
    injection hv1 with hv1
    injection hv1 with hv1
    subst hv1 hv3
    refine .inr ⟨g, c, cur, by rw [hl], hB, hg, by rw [hl]; omega, hx, hs, ?_⟩
    rw [hl, hf, ← ht, List.take_take]
    congr 1
    omega
theorem Bc.store6 {W : World} (h : Bc B d s v l W) (v' : Value) {l' : List It} (hr : ItR B W v' l') : Bc B d s v' l' (W.setCell ⟨d, 6, none⟩ v') := by
  refine ⟨?_, ?_, h.gd⟩
  · have := h.st.set 6 v'
    exact this
  · have hne : ∀ k, v'.ownBlock = some k → k ≠ d := fun k hk e => by
      obtain ⟨cur, hc⟩ := row_block hr hk
      have := h.st
      unfold Fb at this
      rw [← e, hc] at this
      injection this with this
      injection this with _ this
      exact buf_ne this.symm
    refine ⟨hr.1, ?_⟩
    rcases id hr.2 with hn | ⟨g, cap, cur, hv, hge, hg, rest⟩
    · exact .inl hn
    · exact .inr ⟨g, cap, cur, hv, hge, (Below.heap_setCell _ _ _ _ (hne g (by rw [hv]; rfl))).trans hg, rest⟩
theorem Tn.store6 {v1 v2 : Value} {W W' : World} (h : Tn d v v1 W W') (hf : ∀ k, v2.ownBlock = some k → v.ownBlock = some k ∨ W.heap.size ≤ k) (u : Value) (i : Nat) : Tn d v v2 W (W'.setCell ⟨d, i, none⟩ u) :=
  ⟨h.os, h.tape, h.output, by simpa [World.setCell] using h.size, hf, fun k h1 h2 h3 => (Below.heap_setCell _ _ _ _ h2).trans (h.block k h1 h2 h3)⟩
theorem Tn.alloc {v1 : Value} {W W' : World} (h : Tn d v v1 W W') (o : Obj) : Tn d v v1 W (W'.alloc o) :=
  ⟨h.os, h.tape, h.output, by have := h.size; simp; omega, h.far, fun k h1 h2 h3 => (Below.heap_alloc W' o k (Nat.lt_of_lt_of_le h1 h.size)).trans (h.block k h1 h2 h3)⟩
end
def PopPost (B d : Nat) (s : Bs) (v : Value) (W : World) (x : It) (v' : Value) (l' : List It) (e : Ending) (w' : World) : Prop := e = .returned (.iface 63 (itv x)) ∧ Bc B d s v' l' w' ∧ Tn d v v' W w'
set_option maxHeartbeats 4000000 in
theorem iwpop_any {W : World} {B d g c m n : Nat} {s : Bs} {l : List It} (h : Bc B d s (.slice (some ⟨g, 0, none⟩) n c) l W) (hn : n = m + 1) (hl : l.length = n) (hz : n ≤ 100000) :
    Calls Try.prog 49 #[.pointer (some ⟨d, 6, none⟩)] W (PopPost B d s (.slice (some ⟨g, 0, none⟩) n c) W (itAt l m) (.slice (some ⟨g, 0, none⟩) m c) (l.take m)) := by
  obtain ⟨a0, a1, a2, a3, a4⟩ := h.row.at (itAt_lt (l := l) (i := m) (by omega))
  obtain ⟨g', c', e, _, _, hc⟩ := h.row.full (by omega)
  injection e with e1 e2 e3
  subst e3
  have c6 := h.c6
  have f6 := h.free 6
  have hd := h.lt
  have r1 : (n : Int) - 1 = (m : Int) := by omega
  have b1 : (0 : Int) ≤ (m : Int) := by omega
  have b2 : (m : Int) < (n : Int) := by omega
  have b3 : (m : Int) ≤ (c : Int) := by omega
  have b4 : (m : Int) ≤ 100000 := by omega
  have HEND := Lib.hid (show ∀ o, Bc B d s (.slice (some ⟨g, 0, none⟩) m c) (l.take m) ((W.setCell ⟨d, 6, none⟩ (.slice (some ⟨g, 0, none⟩) m c)).alloc o) ∧ Tn d (.slice (some ⟨g, 0, none⟩) n c) (.slice (some ⟨g, 0, none⟩) m c) W ((W.setCell ⟨d, 6, none⟩ (.slice (some ⟨g, 0, none⟩) m c)).alloc o) from fun o =>
    ⟨(h.store6 _ (h.row.take m (by omega))).alloc o, (Tn.store6 (v := .slice (some ⟨g, 0, none⟩) n c) (v2 := .slice (some ⟨g, 0, none⟩) m c) (Tn.refl W) (fun k hk => .inl hk) _ _).alloc o⟩)
  generalize itAt l m = x at *
  obtain ⟨xt, xs, xa, xb, xc⟩ := x
  dsimp only at *
  clear h hn hl hz hc e1 e2
  go_enter Try.func49, Try.ntmps49
  go_wp2
  go_ret
  exact ⟨rfl, (HEND.out _).1, (HEND.out _).2⟩
end Go.Proofs.Ytagidmghmbfnpaa
