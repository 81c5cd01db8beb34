/-
  APPEND OF A WHOLE ROW, BE IT EMPTY OR NOT; the document's buffer as a value and its rows.
-/
import Derived.Test.YtagidmghmbfnpaaIRisesM
import Derived.Deep.RegionHeld3
import Derived.Deep.RegionHeldLaw
namespace Go.Proofs.Ytagidmghmbfnpaa
open Go.RowKit
set_option linter.unusedVariables false
set_option linter.unusedSimpArgs false
set_option maxRecDepth 100000

theorem app_zero {t e : TypeId} {iT : TypeInfo} (ht : Try.prog.underlying t = some (.slice e)) (hT0 : Try.prog.info? e = some iT) (A A' : Option Addr) (n c c' : Nat) (hc : n ≤ c) (ty : TypeId) (w : World) : (Builtin.append_ #[t, t] ty #[.slice A n c, .slice A' 0 c']).run Try.prog w = .ok (.slice A n c) w := by
  cases A <;> cases A' <;> simp [Builtin.append_, run_underlying ht, sizeOf, typeInfo, hT0, Builtin.lenOf, Builtin.firstCells, loadCells, loadCellsFrom, storeCells, hc]
theorem row_shape {B : Nat} {W : World} {ty : TypeId} {z n : Nat} {v : Value} {xs : List Value} (h : W.ownsRow B ty z v n xs) : ∃ A c, v = .slice A n c ∧ n ≤ c := by
  rcases id h.2 with ⟨hv, hl⟩ | ⟨g, cap, cur, hv, _, _, hc, _⟩
  · exact ⟨none, 0, by rw [hv, hl], by omega⟩
  · exact ⟨_, cap, hv, hc⟩
theorem wp_app_any {o : Oper} {a : Act} {K : Act → World → Prop} {Q : Exit → Act → World → Prop} {w : World} (s x : Operand) (t : TypeId)
    (ho : o.op = .call { callee := .builtin .append, args := #[s, x], argTypes := #[t, t] })
    (e : TypeId) (i : TypeInfo) (z : Value) (size bytes : Nat) (ht : Try.prog.underlying t = some (.slice e)) (hi : Try.prog.info? e = some i) (hz : i.zero = some z)
    (hsize : i.size = size) (hby : i.bytes = bytes) (hzs : z.cells.size = size) (hsz : 0 < size) (hb9 : bytes ≤ 100)
    {B N n m : Nat} {v u : Value} {xs news : List Value} (hs : a.eval s = v) (hx : a.eval x = u) (hv : w.ownsRow B e size v n xs) (hu : w.ownsRow N e size u m news) (h1 : ∀ u ∈ news, u.oneCell' = true)
    (hnm : n + m ≤ 100000) (hB : B ≤ w.heap.size)
    (h : ∀ v' w', w'.ownsRow B e size v' (n + m) (xs ++ news) → w.grownBy w' v.ownBlock → (∀ k, v'.ownBlock = some k → v.ownBlock = some k ∨ w.heap.size ≤ k) → K (a.put o.dst v') w') : o.wp Try.prog a w K Q := by
  by_cases hm : m = 0
  · subst hm
    obtain ⟨A', c', rfl, _⟩ := row_shape hu
    obtain ⟨A, c, rfl, hc⟩ := row_shape hv
    have hn : news = [] := List.length_eq_zero_iff.1 (by rw [hu.1]; omega)
    subst hn
    unfold Oper.wp execOp
    simp only [ho, resolve, invoke, builtin, Sem.run_bind, Sem.run_pure, Result.andThen_ok, List.map_toArray, List.map_cons, List.map_nil, hs, hx, app_zero ht hi A A' n c c' hc]
    exact h _ _ (by rw [List.append_nil]; exact hv) ⟨rfl, rfl, rfl, Nat.le_refl _, fun _ _ _ => rfl⟩ fun k hk => .inl hk
  · obtain ⟨g, c, hu', _⟩ : ∃ g c, u = .slice (some ⟨g, 0, none⟩) m c ∧ True := by
      rcases id hu.2 with ⟨_, h0⟩ | ⟨g, cap, cur, e', _⟩
      · omega
      · exact ⟨g, cap, e', trivial⟩
    subst hu'
    have hbb : (n + m) * bytes ≤ 100000 * 100 := Nat.mul_le_mul hnm hb9
    refine wp_append_lies w s x t ho B e i z size bytes ht hi hz hsize hby hzs hsz v n xs hs hv ⟨g, 0, none⟩ m c news hx hu.1 (World.ownsRow.cells hu (g := g) rfl) h1 (by omega) (by unfold maxLen; omega) (by omega) hB _ rfl ?_
    intro g6 c6 w6 hown hgrow hloc hlt
    refine h _ _ hown hgrow fun k hk => ?_
    have e : some g6 = some k := hk
    injection e with e
    subst e
    rcases hloc with y | y
    · exact .inl y
    · right; omega
theorem jitInfo : (Try.prog.info? 59).map (fun i => (i.zero, i.size, i.bytes)) = some (some (.agg #[.int .i64 0, .int .i64 0, .int .i64 0, .int .i64 0, .int .i64 0]), 5, 40) := by kernel_rfl
theorem jintInfo : (Try.prog.info? 3).map (fun i => (i.zero, i.size, i.bytes)) = some (some (.int .i64 0), 1, 8) := by kernel_rfl
/-- The document's rows of items. -/
def JtR (B : Nat) (W : World) (v : Value) (l : List It) : Prop := W.ownsRow B 59 5 v l.length (l.flatMap c5)
theorem ints_one (l : List Int) : ∀ u ∈ l.map (Value.int .i64), u.oneCell' = true := fun u hu => by
  obtain ⟨x, _, rfl⟩ := List.mem_map.1 hu
  rfl
section
variable {ops : Array Oper} {o : Oper} {a : Act} {w : World}
theorem step_app_ints {K : Act → World → Prop} {Q : Exit → Act → World → Prop} {E : Prop} (hgd : o.guard = none) (s x : Operand) (ho : o.op = .call { callee := .builtin .append, args := #[s, x], argTypes := #[30, 30] })
    {B N : Nat} {v u : Value} {l new : List Int} (hs : a.eval s = v) (hx : a.eval x = u) (hv : TmR B w v l) (hu : TmR N w u new) (hz : l.length + new.length ≤ 100000) (hB : B ≤ w.heap.size)
    (h : ∀ v' w', TmR B w' v' (l ++ new) → w.grownBy w' v.ownBlock → (∀ k, v'.ownBlock = some k → v.ownBlock = some k ∨ w.heap.size ≤ k) → K (a.put o.dst v') w') : if Region.wanted o (yielded ops a.tmps) = true then Oper.wp Try.prog o a w K Q else E := by
  obtain ⟨iT, hT0, hT1, hT2, hT3⟩ := info_parts jintInfo
  have hw : Region.wanted o (yielded ops a.tmps) = true := by simp [Region.wanted, hgd]
  rw [if_pos hw]
  refine wp_app_any s x 30 ho 3 iT (.int .i64 0) 1 8 Try.underlying30 hT0 hT1 hT2 hT3 rfl (by decide) (by decide) hs hx hv hu (ints_one _) hz hB fun v' w' h1 h2 h3 => h v' w' ?_ h2 h3
  unfold TmR
  rw [List.length_append, List.map_append]
  exact h1
theorem wpList_app_ints {rest : List Oper} {Q : Exit → Act → World → Prop} (hgd : o.guard = none) (s x : Operand) (ho : o.op = .call { callee := .builtin .append, args := #[s, x], argTypes := #[30, 30] })
    {B N : Nat} {v u : Value} {l new : List Int} (hs : a.eval s = v) (hx : a.eval x = u) (hv : TmR B w v l) (hu : TmR N w u new) (hz : l.length + new.length ≤ 100000) (hB : B ≤ w.heap.size)
    (h : ∀ v' w', TmR B w' v' (l ++ new) → w.grownBy w' v.ownBlock → (∀ k, v'.ownBlock = some k → v.ownBlock = some k ∨ w.heap.size ≤ k) → wpList Try.prog ops Q rest (a.put o.dst v') w') : wpList Try.prog ops Q (o :: rest) a w := by
  obtain ⟨iT, hT0, hT1, hT2, hT3⟩ := info_parts jintInfo
  refine wpList_plain hgd fun _ hK => ?_
  refine wp_app_any s x 30 ho 3 iT (.int .i64 0) 1 8 Try.underlying30 hT0 hT1 hT2 hT3 rfl (by decide) (by decide) hs hx hv hu (ints_one _) hz hB fun v' w' h1 h2 h3 => hK _ _ (h v' w' ?_ h2 h3)
  unfold TmR
  rw [List.length_append, List.map_append]
  exact h1
theorem step_app_jt {K : Act → World → Prop} {Q : Exit → Act → World → Prop} {E : Prop} (hgd : o.guard = none) (s x : Operand) (ho : o.op = .call { callee := .builtin .append, args := #[s, x], argTypes := #[29, 29] })
    {B N : Nat} {v u : Value} {l new : List It} (hs : a.eval s = v) (hx : a.eval x = u) (hv : JtR B w v l) (hu : JtR N w u new) (hz : l.length + new.length ≤ 100000) (hB : B ≤ w.heap.size)
    (h : ∀ v' w', JtR B w' v' (l ++ new) → w.grownBy w' v.ownBlock → (∀ k, v'.ownBlock = some k → v.ownBlock = some k ∨ w.heap.size ≤ k) → K (a.put o.dst v') w') : if Region.wanted o (yielded ops a.tmps) = true then Oper.wp Try.prog o a w K Q else E := by
  obtain ⟨iT, hT0, hT1, hT2, hT3⟩ := info_parts jitInfo
  have hw : Region.wanted o (yielded ops a.tmps) = true := by simp [Region.wanted, hgd]
  rw [if_pos hw]
  refine wp_app_any s x 29 ho 59 iT (.agg #[.int .i64 0, .int .i64 0, .int .i64 0, .int .i64 0, .int .i64 0]) 5 40 Try.underlying29 hT0 hT1 hT2 hT3 rfl (by decide) (by decide) hs hx hv hu (c5_one _) hz hB fun v' w' h1 h2 h3 => h v' w' ?_ h2 h3
  unfold JtR
  rw [List.length_append, List.flatMap_append]
  exact h1
theorem wpList_app_jt {rest : List Oper} {Q : Exit → Act → World → Prop} (hgd : o.guard = none) (s x : Operand) (ho : o.op = .call { callee := .builtin .append, args := #[s, x], argTypes := #[29, 29] })
    {B N : Nat} {v u : Value} {l new : List It} (hs : a.eval s = v) (hx : a.eval x = u) (hv : JtR B w v l) (hu : JtR N w u new) (hz : l.length + new.length ≤ 100000) (hB : B ≤ w.heap.size)
    (h : ∀ v' w', JtR B w' v' (l ++ new) → w.grownBy w' v.ownBlock → (∀ k, v'.ownBlock = some k → v.ownBlock = some k ∨ w.heap.size ≤ k) → wpList Try.prog ops Q rest (a.put o.dst v') w') : wpList Try.prog ops Q (o :: rest) a w := by
  obtain ⟨iT, hT0, hT1, hT2, hT3⟩ := info_parts jitInfo
  refine wpList_plain hgd fun _ hK => ?_
  refine wp_app_any s x 29 ho 59 iT (.agg #[.int .i64 0, .int .i64 0, .int .i64 0, .int .i64 0, .int .i64 0]) 5 40 Try.underlying29 hT0 hT1 hT2 hT3 rfl (by decide) (by decide) hs hx hv hu (c5_one _) hz hB fun v' w' h1 h2 h3 => hK _ _ (h v' w' ?_ h2 h3)
  unfold JtR
  rw [List.length_append, List.flatMap_append]
  exact h1
end
/-- The document's buffer. -/
structure Mb where
  lat : Int
  room : Int
  wait : List It
  seen : List Int
  shown : List Int
  num : Int
  late : Int
  closed : Bool
def Mb.cells (m : Mb) (vw vs vh : Value) : Array Value := #[.int .i64 m.lat, .int .i64 m.room, vw, vs, vh, .int .i64 m.num, .int .i64 m.late, .bool m.closed]
structure Mm (B : Nat) (m : Mb) (vw vs vh : Value) (W : World) : Prop where
  rw : JtR B W vw m.wait
  rs : TmR B W vs m.seen
  rh : TmR B W vh m.shown
theorem Mm.below {B : Nat} {m : Mb} {vw vs vh : Value} {W W' : World} (h : Mm B m vw vs vh W) (hb : Below W.heap.size W W') : Mm B m vw vs vh W' := ⟨row_below h.rw hb, row_below h.rs hb, row_below h.rh hb⟩
theorem Mm.mono {B B' : Nat} {m : Mb} {vw vs vh : Value} {W : World} (h : Mm B m vw vs vh W) (hB : B' ≤ B) : Mm B' m vw vs vh W := ⟨row_mono h.rw hB, row_mono h.rs hB, row_mono h.rh hB⟩
theorem emp_new {B : Nat} (W : World) (ty : TypeId) (z : Nat) (hB : B ≤ W.heap.size) : (W.alloc (.cells #[] ty)).ownsRow B ty z (.slice (some ⟨W.heap.size, 0, none⟩) 0 0) 0 [] := World.ownsRow_made W #[] 0 hB (by decide) (by simp)
/-- The document's mark, over a list of times. -/
def mkM (lat : Int) (l : List Int) : Int × Bool := l.foldl (fun p x => if p.2 = false ∨ p.1 < x - lat then (x - lat, true) else p) (0, false)
theorem mkM_snoc (lat : Int) (l : List Int) (x : Int) : mkM lat (l ++ [x]) = if (mkM lat l).2 = false ∨ (mkM lat l).1 < x - lat then (x - lat, true) else mkM lat l := by unfold mkM; rw [List.foldl_append]; rfl
theorem mkM_step (lat : Int) {l : List Int} {i : Nat} {x : Int} (hx : l[i]? = some x) : mkM lat (l.take (i + 1)) = if (mkM lat (l.take i)).2 = false ∨ (mkM lat (l.take i)).1 < x - lat then (x - lat, true) else mkM lat (l.take i) := by
  rw [List.take_add_one, hx]
  exact mkM_snoc lat _ x
theorem rev_ind {P : List Int → Prop} (h0 : P []) (hs : ∀ l y, P l → P (l ++ [y])) : ∀ l, P l := fun l => by
  have h : ∀ k : List Int, P k.reverse := fun k => by
    induction k with
    | nil => exact h0
    | cons a k ih => rw [List.reverse_cons]; exact hs _ _ ih
  have := h l.reverse
  rwa [List.reverse_reverse] at this
theorem mkM_nil (lat : Int) : mkM lat [] = (0, false) := rfl
theorem mkM_bound (lat : Int) (h0 : 0 ≤ lat) (h1 : lat ≤ 1152921504606846976) : ∀ (l : List Int), (∀ x ∈ l, -1152921504606846976 ≤ x ∧ x ≤ 1152921504606846976) → -2305843009213693952 ≤ (mkM lat l).1 ∧ (mkM lat l).1 ≤ 1152921504606846976 := by
  refine rev_ind (fun _ => ?_) fun l y ih h => ?_
  · rw [mkM_nil]; exact ⟨by decide, by decide⟩
  · have hi := ih fun x hx => h x (List.mem_append_left _ hx)
    have hy := h y (List.mem_append_right _ (List.mem_singleton.2 rfl))
    rw [mkM_snoc]
    split
    · show -2305843009213693952 ≤ y - lat ∧ y - lat ≤ 1152921504606846976
      omega
    · exact hi
end Go.Proofs.Ytagidmghmbfnpaa
