/-
  append of a part of a row (an address with an offset) to a row.
-/
import Derived.Test.YtoiigplflmejmaaSKaddB
import Derived.Deep.RegionLawGrows
namespace Go.Proofs.Ytoiigplflmejmaa
open Go.RowKit
set_option linter.unusedVariables false
set_option linter.unusedSimpArgs false
set_option maxRecDepth 100000

theorem wp_app_at {o : Oper} {a : Act} {K : Act → World → Prop} {Q : Exit → Act → World → Prop} {w : World} (s x : Operand) (t : TypeId)
    (ho : o.op = .call { callee := .builtin .append, args := #[s, x], argTypes := #[t, t] })
    (e : TypeId) (i : TypeInfo) (z : Value) (size bytes : Nat) (ht : Try.prog.underlying t = some (.slice e)) (hi : Try.prog.info? e = some i) (hz : i.zero = some z)
    (hsize : i.size = size) (hby : i.bytes = bytes) (hzs : z.cells.size = size) (hsz : 0 < size) (hb9 : bytes ≤ 100)
    {B n m c' : Nat} {v : Value} {A' : Option Addr} {xs news : List Value} (hs : a.eval s = v) (hx : a.eval x = .slice A' m c') (hv : w.ownsRow B e size v n xs) (hlen : news.length = m * size)
    (hcell : ∀ j u, news[j]? = some u → ∃ ad, A' = some ad ∧ w.cell? (ad.add j) = some u) (h1 : ∀ u ∈ news, u.oneCell' = true)
    (hnm : n + m ≤ 100000) (hB : B ≤ w.heap.size)
    (h : ∀ v' w', w'.ownsRow B e size v' (n + m) (xs ++ news) → w.grownBy w' v.ownBlock → (∀ k, v'.ownBlock = some k → v.ownBlock = some k ∨ w.heap.size ≤ k) → K (a.put o.dst v') w') : o.wp Try.prog a w K Q := by
  by_cases hm : m = 0
  · subst hm
    obtain ⟨A, c, rfl, hc⟩ := row_shape hv
    have hn : news = [] := List.length_eq_zero_iff.1 (by rw [hlen]; omega)
    subst hn
    unfold Oper.wp execOp
    simp only [ho, resolve, invoke, builtin, Sem.run_bind, Sem.run_pure, Result.andThen_ok, List.map_toArray, List.map_cons, List.map_nil, hs, hx, app_zero ht hi A A' n c c' hc]
    exact h _ _ (by rw [List.append_nil]; exact hv) ⟨rfl, rfl, rfl, Nat.le_refl _, fun _ _ _ => rfl⟩ fun k hk => .inl hk
  · have hpos : 0 < news.length := by rw [hlen]; exact Nat.mul_pos (Nat.pos_of_ne_zero hm) hsz
    obtain ⟨ad, hA, _⟩ := hcell 0 news[0] (List.getElem?_eq_getElem hpos)
    subst hA
    have hcells : ∀ j u, news[j]? = some u → w.cell? (ad.add j) = some u := fun j u hj => by
      obtain ⟨ad', e1, e2⟩ := hcell j u hj
      injection e1 with e1
      subst e1
      exact e2
    have hbb : (n + m) * bytes ≤ 100000 * 100 := Nat.mul_le_mul hnm hb9
    refine wp_append_lies w s x t ho B e i z size bytes ht hi hz hsize hby hzs hsz v n xs hs hv ad m c' news hx hlen hcells h1 (by omega) (by unfold maxLen; omega) (by omega) hB _ rfl ?_
    intro g6 c6 w6 hown hgrow hloc hlt
    refine h _ _ hown hgrow fun k hk => ?_
    have e : some g6 = some k := hk
    injection e with e
    subst e
    rcases hloc with y | y
    · exact .inl y
    · right; omega
/-- Keys from a place on, as they lie. -/
def TailAt (w : World) (A : Option Addr) (l : List Kt) : Prop := ∀ j u, (l.flatMap ktc)[j]? = some u → ∃ ad, A = some ad ∧ w.cell? (ad.add j) = some u
theorem TailAt.below {W w : World} {A : Option Addr} {l : List Kt} (h : TailAt W A l) (hlt : ∀ ad, A = some ad → ad.block < W.heap.size) (hb : Below W.heap.size W w) : TailAt w A l := fun j u hj => by
  obtain ⟨ad, e, hc⟩ := h j u hj
  refine ⟨ad, e, ?_⟩
  have hl := hlt ad e
  exact (hb.cell (p := ad.add j) (by unfold Addr.add; first | exact hl | (split <;> exact hl))).trans hc
theorem wpList_app_tail {rest : List Oper} {opsA : Array Oper} {o : Oper} {a : Act} {w : World} {Q : Exit → Act → World → Prop} (hgd : o.guard = none) (s x : Operand) (ho : o.op = .call { callee := .builtin .append, args := #[s, x], argTypes := #[28, 28] })
    {B c' : Nat} {v : Value} {A' : Option Addr} {l new : List Kt} (hs : a.eval s = v) (hx : a.eval x = .slice A' new.length c') (hv : KtD B w v l) (hu : TailAt w A' new) (hz : l.length + new.length ≤ 100000) (hB : B ≤ w.heap.size)
    (h : ∀ v' w', KtD B w' v' (l ++ new) → w.grownBy w' v.ownBlock → (∀ k, v'.ownBlock = some k → v.ownBlock = some k ∨ w.heap.size ≤ k) → wpList Try.prog opsA Q rest (a.put o.dst v') w') : wpList Try.prog opsA Q (o :: rest) a w := by
  obtain ⟨iT, hT0, hT1, hT2, hT3⟩ := info_parts arrZ
  refine wpList_plain hgd fun _ hK => ?_
  refine wp_app_at s x 28 ho 31 iT (.agg #[.int .i64 0, .int .i64 0, .int .i64 0]) 3 24 Try.underlying28 hT0 hT1 hT2 hT3 rfl (by decide) (by decide) hs hx hv ?_ hu (ktc_one _) hz hB fun v' w' h1 h2 h3 => hK _ _ (h v' w' ?_ h2 h3)
  · clear hu hz h hx hv hs hB
    induction new with
    | nil => rfl
    | cons y l ih => rw [List.flatMap_cons, List.length_append, ih, ktc_len, List.length_cons]; omega
  · unfold KtD
    rw [List.length_append, List.flatMap_append]
    exact h1
theorem flat_len (l : List Kt) : (l.flatMap ktc).length = l.length * 3 := by
  induction l with
  | nil => rfl
  | cons y l ih => rw [List.flatMap_cons, List.length_append, ih, ktc_len, List.length_cons]; omega
/-- append to a part of a row that has no room left: a new row. -/
theorem step_app_head {ops : Array Oper} {o : Oper} {a : Act} {w : World} {K : Act → World → Prop} {Q : Exit → Act → World → Prop} {E : Prop} (hgd : o.guard = none) (s x : Operand) (ho : o.op = .call { callee := .builtin .append, args := #[s, x], argTypes := #[28, 28] })
    {N : Nat} {u : Value} {A : Option Addr} {l : List Kt} {y : Kt} (hs : a.eval s = .slice A l.length l.length) (hx : a.eval x = u) (hn : A = none → l = []) (hl : TailAt w A l) (hu : KtD N w u [y]) (hz : l.length ≤ 10000)
    (h : ∀ v' w', KtD w.heap.size w' v' (l ++ [y]) → w.grownBy w' none → K (a.put o.dst v') w') : if Region.wanted o (yielded ops a.tmps) = true then Oper.wp Try.prog o a w K Q else E := by
  obtain ⟨iT, hT0, hT1, hT2, hT3⟩ := info_parts arrZ
  rcases id hu.2 with ⟨_, h0⟩ | ⟨g, cap, cur, e', _⟩
  · cases h0
  · subst e'
    refine step_append_grows hgd s x 28 ho 31 iT (.agg #[.int .i64 0, .int .i64 0, .int .i64 0]) 3 24 Try.underlying28 hT0 hT1 hT2 hT3 rfl (by decide) A l.length l.length (l.flatMap ktc) hs (fun e => by rw [hn e]; exact ⟨rfl, rfl⟩) (flat_len l) (fun b hb j u hj => by
      obtain ⟨ad, e1, e2⟩ := hl j u hj
      rw [hb] at e1
      injection e1 with e1
      subst e1
      exact e2) ⟨g, 0, none⟩ 1 cap ([y].flatMap ktc) hx (flat_len [y]) (World.ownsRow.cells hu (g := g) rfl) (ktc_one [y]) (by omega) (by unfold maxLen; omega) (by omega) fun v' w' h1 h2 => h v' w' ?_ h2
    unfold KtD
    rw [List.length_append, List.flatMap_append]
    exact h1
end Go.Proofs.Ytoiigplflmejmaa
