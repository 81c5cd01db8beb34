/-
  APPEND OF A WHOLE ROW of integers, be it empty or not.
-/
import Derived.Test.YtpmimmbheieobaaWRep
import Derived.Deep.AppendLies
import Derived.Lib.SmallJoins
namespace Go.Proofs.Ytpmimmbheieobaa
open Go.RowKit
set_option linter.unusedVariables false
set_option linter.unusedSimpArgs false
set_option maxRecDepth 100000

theorem app_zero {t e : TypeId} {iT : TypeInfo} (ht : Try.prog.underlying t = some (.slice e)) (hT0 : Try.prog.info? e = some iT) (A A' : Option Addr) (n c c' : Nat) (hc : n ≤ c) (ty : TypeId) (w : World) : (Builtin.append_ #[t, t] ty #[.slice A n c, .slice A' 0 c']).run Try.prog w = .ok (.slice A n c) w := by
  cases A <;> cases A' <;> simp [Builtin.append_, run_underlying ht, sizeOf, typeInfo, hT0, Builtin.lenOf, Builtin.firstCells, loadCells, loadCellsFrom, storeCells, hc]
theorem row_shape {B : Nat} {W : World} {ty : TypeId} {z n : Nat} {v : Value} {xs : List Value} (h : W.ownsRow B ty z v n xs) : ∃ A c, v = .slice A n c ∧ n ≤ c := by
  rcases id h.2 with ⟨hv, hl⟩ | ⟨g, cap, cur, hv, _, _, hc, _⟩
  · exact ⟨none, 0, by rw [hv, hl], by omega⟩
  · exact ⟨_, cap, hv, hc⟩
theorem wp_app_any {o : Oper} {a : Act} {K : Act → World → Prop} {Q : Exit → Act → World → Prop} {w : World} (s x : Operand) (t : TypeId)
    (ho : o.op = .call { callee := .builtin .append, args := #[s, x], argTypes := #[t, t] })
    (e : TypeId) (i : TypeInfo) (z : Value) (size bytes : Nat) (ht : Try.prog.underlying t = some (.slice e)) (hi : Try.prog.info? e = some i) (hz : i.zero = some z)
    (hsize : i.size = size) (hby : i.bytes = bytes) (hzs : z.cells.size = size) (hsz : 0 < size) (hb9 : bytes ≤ 100)
    {B N n m : Nat} {v u : Value} {xs news : List Value} (hs : a.eval s = v) (hx : a.eval x = u) (hv : w.ownsRow B e size v n xs) (hu : w.ownsRow N e size u m news) (h1 : ∀ u ∈ news, u.oneCell' = true)
    (hnm : n + m ≤ 100000) (hB : B ≤ w.heap.size)
    (h : ∀ v' w', w'.ownsRow B e size v' (n + m) (xs ++ news) → w.grownBy w' v.ownBlock → (∀ k, v'.ownBlock = some k → v.ownBlock = some k ∨ w.heap.size ≤ k) → K (a.put o.dst v') w') : o.wp Try.prog a w K Q := by
  by_cases hm : m = 0
  · subst hm
    obtain ⟨A', c', rfl, _⟩ := row_shape hu
    obtain ⟨A, c, rfl, hc⟩ := row_shape hv
    have hn : news = [] := List.length_eq_zero_iff.1 (by rw [hu.1]; omega)
    subst hn
    unfold Oper.wp execOp
    simp only [ho, resolve, invoke, builtin, Sem.run_bind, Sem.run_pure, Result.andThen_ok, List.map_toArray, List.map_cons, List.map_nil, hs, hx, app_zero ht hi A A' n c c' hc]
    exact h _ _ (by rw [List.append_nil]; exact hv) ⟨rfl, rfl, rfl, Nat.le_refl _, fun _ _ _ => rfl⟩ fun k hk => .inl hk
  · obtain ⟨g, c, hu', _⟩ : ∃ g c, u = .slice (some ⟨g, 0, none⟩) m c ∧ True := by
      rcases id hu.2 with ⟨_, h0⟩ | ⟨g, cap, cur, e', _⟩
      · omega
      · exact ⟨g, cap, e', trivial⟩
    subst hu'
    have hbb : (n + m) * bytes ≤ 100000 * 100 := Nat.mul_le_mul hnm hb9
    refine wp_append_lies w s x t ho B e i z size bytes ht hi hz hsize hby hzs hsz v n xs hs hv ⟨g, 0, none⟩ m c news hx hu.1 (World.ownsRow.cells hu (g := g) rfl) h1 (by omega) (by unfold maxLen; omega) (by omega) hB _ rfl ?_
    intro g6 c6 w6 hown hgrow hloc hlt
    refine h _ _ hown hgrow fun k hk => ?_
    have e : some g6 = some k := hk
    injection e with e
    subst e
    rcases hloc with y | y
    · exact .inl y
    · right; omega
theorem jintInfo : (Try.prog.info? 3).map (fun i => (i.zero, i.size, i.bytes)) = some (some (.int .i64 0), 1, 8) := by kernel_rfl
theorem row_below {W W' : World} {B : Nat} {ty : TypeId} {z n : Nat} {u : Value} {xs : List Value} (hr : W.ownsRow B ty z u n xs) (hb : Below W.heap.size W W') : W'.ownsRow B ty z u n xs := by
  refine ⟨hr.1, ?_⟩
  rcases id hr.2 with hn | ⟨g, cap, cur, hv, hge, hg, rest⟩
  · exact .inl hn
  · exact .inr ⟨g, cap, cur, hv, hge, (hb.block g (Array.getElem?_eq_some_iff.1 hg).1).trans hg, rest⟩
theorem row_mono {W : World} {B B' : Nat} {ty : TypeId} {z n : Nat} {u : Value} {xs : List Value} (hr : W.ownsRow B ty z u n xs) (hB : B' ≤ B) : W.ownsRow B' ty z u n xs := by
  refine ⟨hr.1, ?_⟩
  rcases id hr.2 with hn | ⟨g, cap, cur, hv, hge, rest⟩
  · exact .inl hn
  · exact .inr ⟨g, cap, cur, hv, Nat.le_trans hB hge, rest⟩
/-- A row of integers. -/
def TmR (B : Nat) (W : World) (v : Value) (l : List Int) : Prop := W.ownsRow B 3 1 v l.length (l.map (Value.int .i64))
theorem TmR.shape {B : Nat} {W : World} {v : Value} {L : List Int} (h : TmR B W v L) : ∃ A c, v = .slice A L.length c := by
  obtain ⟨A, c, hv, _⟩ := row_shape h
  exact ⟨A, c, hv⟩
theorem TmR.at {B : Nat} {W : World} {v : Value} {L : List Int} (h : TmR B W v L) (hn : 0 < L.length) : ∃ g c, v = .slice (some ⟨g, 0, none⟩) L.length c ∧ ∀ (i : Nat) (x : Int), L[i]? = some x → W.cell? ⟨g, i, none⟩ = some (.int .i64 x) := by
  obtain ⟨g, cap, hv⟩ := Joins.ownsRow_form h hn
  subst hv
  refine ⟨g, cap, rfl, fun i x hx => ?_⟩
  have := World.ownsRow.cells h (g := g) rfl i (.int .i64 x) (by rw [List.getElem?_map, hx]; rfl)
  have e : (⟨g, 0, none⟩ : Addr).add i = ⟨g, i, none⟩ := by cases i <;> simp [Addr.add]
  rwa [e] at this
theorem ints_one (l : List Int) : ∀ u ∈ l.map (Value.int .i64), u.oneCell' = true := fun u hu => by
  obtain ⟨x, _, rfl⟩ := List.mem_map.1 hu
  rfl
section
variable {ops : Array Oper} {o : Oper} {a : Act} {w : World}
theorem wpList_app_ints {rest : List Oper} {Q : Exit → Act → World → Prop} (hgd : o.guard = none) (s x : Operand) (ho : o.op = .call { callee := .builtin .append, args := #[s, x], argTypes := #[29, 29] })
    {B N : Nat} {v u : Value} {l new : List Int} (hs : a.eval s = v) (hx : a.eval x = u) (hv : TmR B w v l) (hu : TmR N w u new) (hz : l.length + new.length ≤ 100000) (hB : B ≤ w.heap.size)
    (h : ∀ v' w', TmR B w' v' (l ++ new) → w.grownBy w' v.ownBlock → (∀ k, v'.ownBlock = some k → v.ownBlock = some k ∨ w.heap.size ≤ k) → wpList Try.prog ops Q rest (a.put o.dst v') w') : wpList Try.prog ops Q (o :: rest) a w := by
  obtain ⟨iT, hT0, hT1, hT2, hT3⟩ := info_parts jintInfo
  refine wpList_plain hgd fun _ hK => ?_
  refine wp_app_any s x 29 ho 3 iT (.int .i64 0) 1 8 Try.underlying29 hT0 hT1 hT2 hT3 rfl (by decide) (by decide) hs hx hv hu (ints_one _) hz hB fun v' w' h1 h2 h3 => hK _ _ (h v' w' ?_ h2 h3)
  unfold TmR
  rw [List.length_append, List.map_append]
  exact h1
end
end Go.Proofs.Ytpmimmbheieobaa
