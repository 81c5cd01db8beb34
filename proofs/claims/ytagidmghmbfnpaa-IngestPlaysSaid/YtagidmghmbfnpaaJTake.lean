/-
  THE DOCUMENT's Take.
-/
import Derived.Test.YtagidmghmbfnpaaJSame
import Derived.Deep.RegionLawGrows
namespace Go.Proofs.Ytagidmghmbfnpaa
open Go.RowKit
set_option linter.unusedVariables false
set_option linter.unusedSimpArgs false
set_option maxRecDepth 100000

/-- Appended to a row: cells from anywhere. -/
theorem wpList_app_src {ops : Array Oper} {o : Oper} {a : Act} {w : World} {rest : List Oper} {Q : Exit → Act → World → Prop} (hgd : o.guard = none) (s x : Operand) (ho : o.op = .call { callee := .builtin .append, args := #[s, x], argTypes := #[29, 29] })
    {B : Nat} {v : Value} {l new : List It} (A' : Option Addr) (c' : Nat) (hs : a.eval s = v) (hx : a.eval x = .slice A' new.length c') (hv : JtR B w v l) (hz : l.length + new.length ≤ 100000) (hB : B ≤ w.heap.size)
    (hsrc : new = [] ∨ ∃ ad, A' = some ad ∧ ∀ j u, (new.flatMap c5)[j]? = some u → w.cell? (ad.add j) = some u)
    (h : ∀ v' w', JtR B w' v' (l ++ new) → w.grownBy w' v.ownBlock → (∀ k, v'.ownBlock = some k → v.ownBlock = some k ∨ w.heap.size ≤ k) → wpList Try.prog ops Q rest (a.put o.dst v') w') : wpList Try.prog ops Q (o :: rest) a w := by
  obtain ⟨iT, hT0, hT1, hT2, hT3⟩ := info_parts jitInfo
  have hlen : (new.flatMap c5).length = new.length * 5 := by
    clear hsrc hx hz h
    induction new with
    | nil => rfl
    | cons y new ih => rw [List.flatMap_cons, List.length_append, ih, c5_len, List.length_cons]; omega
  rcases hsrc with rfl | ⟨ad, rfl, hc⟩
  · refine wpList_plain hgd fun _ hK => ?_
    obtain ⟨A, c, rfl, hcc⟩ := row_shape hv
    unfold Oper.wp execOp
    simp only [ho, resolve, invoke, builtin, Sem.run_bind, Sem.run_pure, Result.andThen_ok, List.map_toArray, List.map_cons, List.map_nil, hs, hx, List.length_nil, app_zero Try.underlying29 hT0 A A' l.length c c' hcc]
    exact hK _ _ (h _ _ (by rw [List.append_nil]; exact hv) ⟨rfl, rfl, rfl, Nat.le_refl _, fun _ _ _ => rfl⟩ fun k hk => .inl hk)
  · by_cases hn : new = []
    · subst hn
      refine wpList_plain hgd fun _ hK => ?_
      obtain ⟨A, c, rfl, hcc⟩ := row_shape hv
      unfold Oper.wp execOp
      simp only [ho, resolve, invoke, builtin, Sem.run_bind, Sem.run_pure, Result.andThen_ok, List.map_toArray, List.map_cons, List.map_nil, hs, hx, List.length_nil, app_zero Try.underlying29 hT0 A (some ad) l.length c c' hcc]
      exact hK _ _ (h _ _ (by rw [List.append_nil]; exact hv) ⟨rfl, rfl, rfl, Nat.le_refl _, fun _ _ _ => rfl⟩ fun k hk => .inl hk)
    · have hpos : 0 < new.length := List.length_pos_iff.2 hn
      refine wpList_append_lies _ hgd s x 29 ho B 59 iT (.agg #[.int .i64 0, .int .i64 0, .int .i64 0, .int .i64 0, .int .i64 0]) 5 40 Try.underlying29 hT0 hT1 hT2 hT3 rfl (by decide) v l.length (l.flatMap c5) hs hv ad new.length c' (new.flatMap c5) hx hlen hc (c5_one _) hpos (by unfold maxLen; omega) (by omega) hB _ rfl ?_
      intro g6 c6 w6 hown hgrow hloc hlt
      refine h _ _ ?_ hgrow fun k hk => ?_
      · unfold JtR
        rw [List.length_append, List.flatMap_append]
        exact hown
      · have e : some g6 = some k := hk
        injection e with e
        subst e
        rcases hloc with y | y
        · exact .inl y
        · right; omega
theorem one_item (W : World) (x : It) : JtR W.heap.size (W.alloc (.cells #[.int .i64 x.t, .int .i64 x.s, .int .i64 x.a, .int .i64 x.b, .int .i64 x.c] 59)) (.slice (some ⟨W.heap.size, 0, none⟩) 1 1) [x] := ⟨by simp [c5], .inr ⟨W.heap.size, 1, _, rfl, Nat.le_refl _, heap_alloc_new W _, Nat.le_refl _, by decide, rfl, rfl⟩⟩
/-- Is an item taken? -/
def pT (all : Bool) (M : Int) (K : Bool) (x : It) : Bool := all || (K && decide (x.t < M))
structure Jk (W W1 : World) (b2 b4 : Nat) (cs : Array Value) (l1 l2 : List It) (s8 s9 : Value) (wr : World) : Prop where
  x : Jx W b2 b4 cs wr
  b : Below W1.heap.size W1 wr
  o : JtR W1.heap.size wr s8 l1
  f : JtR W1.heap.size wr s9 l2
  ap : ∀ k, s9.ownBlock = some k → s8.ownBlock ≠ some k
  xw : W.heap.size ≤ W1.heap.size
theorem Jk.below {W W1 : World} {b2 b4 : Nat} {cs : Array Value} {l1 l2 : List It} {s8 s9 : Value} {wr w' : World} (h : Jk W W1 b2 b4 cs l1 l2 s8 s9 wr) (hb : Below wr.heap.size wr w') : Jk W W1 b2 b4 cs l1 l2 s8 s9 w' := ⟨h.x.below hb, h.b.trans (hb.mono h.b.size), row_below h.o hb, row_below h.f hb, h.ap, h.xw⟩
theorem Jk.left {W W1 : World} {b2 b4 : Nat} {cs : Array Value} {l1 l2 : List It} {s8 s9 : Value} {wr w0 w' : World} (h : Jk W W1 b2 b4 cs l1 l2 s8 s9 wr) (hb : Below wr.heap.size wr w0) {v' : Value} {l2' : List It} (hr : JtR W1.heap.size w' v' l2') (hg : w0.grownBy w' s9.ownBlock) (hf : ∀ k, v'.ownBlock = some k → s9.ownBlock = some k ∨ w0.heap.size ≤ k) : Jk W W1 b2 b4 cs l1 l2' s8 v' w' := by
  have h0 := h.below hb
  have hge := fun k hk => (World.ownsRow.lt h0.f k hk).1
  have hne := h0.x.row h0.f jit_ne
  obtain ⟨c4, y1, y2⟩ := h0.x.x4
  refine ⟨⟨h0.x.b.grown hg h0.x.b.size (fun k hk => ?_), ?_, ⟨c4, ?_, y2⟩, h0.x.n2, h0.x.n4, h0.x.ne⟩, h0.b.grown hg h0.b.size hge, ?_, hr, fun k hk e => ?_, h.xw⟩
  · exact Nat.le_trans h.xw (hge k hk)
  · exact (hg.block b2 h0.x.x2.lt (fun e => (hne b2 e.symm).1 rfl)).trans h0.x.x2
  · exact (hg.block b4 y1.lt (fun e => (hne b4 e.symm).2 rfl)).trans y1
  · refine World.ownsRow.kept h0.o hg ?_
    cases hv : s8.ownBlock with
    | none => exact .inl rfl
    | some k => exact .inr fun e => h0.ap k e.symm hv
  · rcases hf k hk with y | y
    · exact h0.ap k y e
    · have := (World.ownsRow.lt h0.o k e).2
      omega
end Go.Proofs.Ytagidmghmbfnpaa
