/-
  BagParts: a while in two parts: what is counted of each.
-/
import Derived.Test.YtncnoilldlnpoaaBgAw
import Derived.Test.YtncnoilldlnpoaaBgSame
import Derived.Test.YtncnoilldlnpoaaBgArg
namespace Go.Proofs.Ytncnoilldlnpoaa
open Go.RowKit Go.Lib
set_option linter.unusedVariables false
set_option linter.unusedSimpArgs false
set_option maxRecDepth 100000

theorem app_zero {t e : TypeId} {iT : TypeInfo} (ht : Try.prog.underlying t = some (.slice e)) (hT0 : Try.prog.info? e = some iT) (A A' : Option Addr) (n c c' : Nat) (hc : n ≤ c) (ty : TypeId) (w : World) : (Builtin.append_ #[t, t] ty #[.slice A n c, .slice A' 0 c']).run Try.prog w = .ok (.slice A n c) w := by
  cases A <;> cases A' <;> simp [Builtin.append_, run_underlying ht, sizeOf, typeInfo, hT0, Builtin.lenOf, Builtin.firstCells, loadCells, loadCellsFrom, storeCells, hc]
theorem row_shape {B : Nat} {W : World} {ty : TypeId} {z n : Nat} {v : Value} {xs : List Value} (h : W.ownsRow B ty z v n xs) : ∃ A c, v = .slice A n c ∧ n ≤ c := by
  rcases id h.2 with ⟨hv, hl⟩ | ⟨g, cap, cur, hv, _, _, hc, _⟩
  · exact ⟨none, 0, by rw [hv, hl], by omega⟩
  · exact ⟨_, cap, hv, hc⟩
theorem wp_app_any {o : Oper} {a : Act} {K : Act → World → Prop} {Q : Exit → Act → World → Prop} {w : World} (s x : Operand) (t : TypeId)
    (ho : o.op = .call { callee := .builtin .append, args := #[s, x], argTypes := #[t, t] })
    (e : TypeId) (i : TypeInfo) (z : Value) (size bytes : Nat) (ht : Try.prog.underlying t = some (.slice e)) (hi : Try.prog.info? e = some i) (hz : i.zero = some z)
    (hsize : i.size = size) (hby : i.bytes = bytes) (hzs : z.cells.size = size) (hsz : 0 < size) (hb9 : bytes ≤ 100)
    {B N n m : Nat} {v u : Value} {xs news : List Value} (hs : a.eval s = v) (hx : a.eval x = u) (hv : w.ownsRow B e size v n xs) (hu : w.ownsRow N e size u m news) (h1 : ∀ u ∈ news, u.oneCell' = true)
    (hnm : n + m ≤ 100000) (hB : B ≤ w.heap.size)
    (h : ∀ v' w', w'.ownsRow B e size v' (n + m) (xs ++ news) → w.grownBy w' v.ownBlock → (∀ k, v'.ownBlock = some k → v.ownBlock = some k ∨ w.heap.size ≤ k) → K (a.put o.dst v') w') : o.wp Try.prog a w K Q := by
  by_cases hm : m = 0
  · subst hm
    obtain ⟨A', c', rfl, _⟩ := row_shape hu
    obtain ⟨A, c, rfl, hc⟩ := row_shape hv
    have hn : news = [] := List.length_eq_zero_iff.1 (by rw [hu.1]; omega)
    subst hn
    unfold Oper.wp execOp
    simp only [ho, resolve, invoke, builtin, Sem.run_bind, Sem.run_pure, Result.andThen_ok, List.map_toArray, List.map_cons, List.map_nil, hs, hx, app_zero ht hi A A' n c c' hc]
    exact h _ _ (by rw [List.append_nil]; exact hv) ⟨rfl, rfl, rfl, Nat.le_refl _, fun _ _ _ => rfl⟩ fun k hk => .inl hk
  · obtain ⟨g, c, hu', _⟩ : ∃ g c, u = .slice (some ⟨g, 0, none⟩) m c ∧ True := by
      rcases id hu.2 with ⟨_, h0⟩ | ⟨g, cap, cur, e', _⟩
      · omega
      · exact ⟨g, cap, e', trivial⟩
    subst hu'
    have hbb : (n + m) * bytes ≤ 100000 * 100 := Nat.mul_le_mul hnm hb9
    refine wp_append_lies w s x t ho B e i z size bytes ht hi hz hsize hby hzs hsz v n xs hs hv ⟨g, 0, none⟩ m c news hx hu.1 (World.ownsRow.cells hu (g := g) rfl) h1 (by omega) (by unfold maxLen; omega) (by omega) hB _ rfl ?_
    intro g6 c6 w6 hown hgrow hloc hlt
    refine h _ _ hown hgrow fun k hk => ?_
    have e : some g6 = some k := hk
    injection e with e
    subst e
    rcases hloc with y | y
    · exact .inl y
    · right; omega
theorem has_parts {a b c t : Int} (h1 : a ≤ b) (h2 : b ≤ c) : (hasB a c t = (hasB a b t || hasB b c t)) ∧ (hasB a b t && hasB b c t) = false := by
  unfold hasB
  generalize cl t = u
  constructor
  · rw [Bool.eq_iff_iff]
    simp only [Bool.or_eq_true, Bool.and_eq_true, decide_eq_true_eq]
    omega
  · rw [Bool.eq_false_iff]
    simp only [ne_eq, Bool.and_eq_true, decide_eq_true_eq]
    omega
theorem cw_parts {M : List (Int × Ky)} {a b c : Int} (h1 : a ≤ b) (h2 : b ≤ c) (k : Ky) : cw M a c k = cw M a b k + cw M b c k := by
  unfold cw
  induction M with
  | nil => rfl
  | cons x M ih =>
    simp only [List.countP_cons]
    obtain ⟨e1, e2⟩ := has_parts (t := x.1) h1 h2
    rw [e1]
    cases q1 : hasB a b x.1 <;> cases q2 : hasB b c x.1 <;> cases q3 : decide (x.2 = k) <;> simp_all <;> omega
theorem hs_parts {M : List (Int × Ky)} {a b c : Int} (h1 : a ≤ b) (h2 : b ≤ c) : M.countP (fun x => hasB a c x.1) = M.countP (fun x => hasB a b x.1) + M.countP (fun x => hasB b c x.1) := by
  induction M with
  | nil => rfl
  | cons x M ih =>
    simp only [List.countP_cons]
    obtain ⟨e1, e2⟩ := has_parts (t := x.1) h1 h2
    rw [e1]
    cases q1 : hasB a b x.1 <;> cases q2 : hasB b c x.1 <;> simp_all <;> omega
theorem count_keys (M : List (Int × Ky)) (f : Int → Bool) : ∀ K : List Ky, K.Nodup → (K.map fun k => M.countP fun x => f x.1 && decide (x.2 = k)).sum = M.countP fun x => f x.1 && decide (x.2 ∈ K)
  | [], _ => by simp
  | k :: K, h => by
    simp only [List.nodup_cons] at h
    rw [List.map_cons, List.sum_cons, count_keys M f K h.2]
    induction M with
    | nil => rfl
    | cons x M ih =>
      simp only [List.countP_cons]
      have : (if (f x.1 && decide (x.2 = k)) = true then 1 else 0) + (if (f x.1 && decide (x.2 ∈ K)) = true then 1 else 0) = (if (f x.1 && decide (x.2 ∈ k :: K)) = true then 1 else 0) := by
        by_cases e1 : x.2 = k
        · have : x.2 ∉ K := by rw [e1]; exact h.1
          cases f x.1 <;> simp [e1, h.1]
        · cases f x.1 <;> simp [e1]
      omega
theorem sum_content {M : List (Int × Ky)} {a b : Int} {L : List (Ky × Nat)} (h : IsC L (cw M a b)) : sumN L = M.countP fun x => hasB a b x.1 := by
  have e1 : sumN L = ((L.map (·.1)).map fun k => M.countP fun x => hasB a b x.1 && decide (x.2 = k)).sum := by
    unfold sumN
    rw [List.map_map]
    congr 1
    refine List.map_congr_left fun p hp => ?_
    have := ((mem_cnt h.nd h.ps p).1 hp).2
    rw [h.cn] at this
    exact this.symm
  rw [e1, count_keys M _ _ h.nd]
  refine List.countP_congr fun x hx => ?_
  simp only [Bool.and_eq_true, decide_eq_true_eq]
  constructor
  · exact fun e => e.1
  · intro e
    refine ⟨e, ?_⟩
    have hpos : 0 < cw M a b x.2 := by
      unfold cw
      rw [List.countP_pos_iff]
      exact ⟨x, hx, by simp [e]⟩
    rw [← h.cn] at hpos
    have hm : (x.2, cntK L x.2) ∈ L := (mem_cnt h.nd h.ps (x.2, cntK L x.2)).2 ⟨hpos, rfl⟩
    exact List.mem_map.2 ⟨_, hm, rfl⟩
theorem cntL_app (A B : List (Ky × Nat)) (k : Ky) : cntL (A ++ B) k = cntL A k + cntL B k := by
  unfold cntL
  rw [List.filter_append, List.map_append, List.sum_append]
theorem sumN_app (A B : List (Ky × Nat)) : sumN (A ++ B) = sumN A + sumN B := by
  unfold sumN
  rw [List.map_append, List.sum_append]
theorem parts_at {M : List (Int × Ky)} {a b c : Int} {L P Q : List (Ky × Nat)} (h1 : a ≤ b) (h2 : b ≤ c) (hL : IsC L (cw M a c)) (hP : IsC P (cw M a b)) (hQ : IsC Q (cw M b c)) :
    (∀ p ∈ L, cntL (P ++ Q) p.1 = p.2) ∧ sumN L = sumN (P ++ Q) ∧ sumN L ≤ M.length := by
  refine ⟨fun p hp => ?_, ?_, ?_⟩
  · rw [cntL_app, cntL_K hP.nd, cntL_K hQ.nd, hP.cn, hQ.cn, ← cw_parts h1 h2, ← hL.cn]
    exact ((mem_cnt hL.nd hL.ps p).1 hp).2
  · rw [sumN_app, sum_content hL, sum_content hP, sum_content hQ]
    exact hs_parts h1 h2
  · rw [sum_content hL]
    exact List.countP_le_length
theorem keyEql (x y : Ky) (w : World) : (binOp .eql 39 (kE x) (kE y)).run Try.prog w = .ok (.bool (decide (x = y))) w := by
  have hk : (Op.equalIn 10000 39 (kE x) (kE y)).run Try.prog w = .ok (decide (x = y)) w := keyEq x y w
  unfold kE at *
  generalize decide (x = y) = r at *
  go_simp
/-- A row of entries, as it lies. -/
theorem row_en {B : Nat} {w : World} {v : Value} {l : List (Ky × Nat)} (h : w.ownsRow B 41 4 v l.length (l.flatMap entC)) : ∃ A c, v = .slice A l.length c ∧ ∀ (j : Nat) (x : Ky × Nat), l[j]? = some x → ∃ g, A = some ⟨g, 0, none⟩ ∧ ∀ u, u < 4 → w.cell? ⟨g, j * 4 + u, none⟩ = (entC x)[u]? := by
  rcases id h.2 with ⟨e, h0⟩ | ⟨g, cap, cur, e, hge, hg, hnc, hcm, hcz, hct⟩
  · refine ⟨none, 0, by rw [e, h0], fun j x hj => ?_⟩
    have := (List.getElem?_eq_some_iff.1 hj).1
    omega
  · refine ⟨some ⟨g, 0, none⟩, cap, e, fun j x hj => ⟨g, rfl, fun u hu => ?_⟩⟩
    have hjl := (List.getElem?_eq_some_iff.1 hj).1
    have h1 := flat_at l j u x hj hu
    rw [← hct, List.getElem?_take_of_lt (by omega)] at h1
    rw [cell_of_row w g _ _ _ _ hg, ← h1]
    simp
end Go.Proofs.Ytncnoilldlnpoaa
