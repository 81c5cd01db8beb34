/-
  slices.Insert of one key into a row of keys: all ways.
-/
import Derived.Test.YtoiigplflmejmaaSInsG
import Derived.Deep.AppendLies
import Derived.Deep.RegionHeld3
import Derived.Deep.RegionHeldLaw
namespace Go.Proofs.Ytoiigplflmejmaa
open Go.RowKit Go.Lib
set_option linter.unusedVariables false
set_option linter.unusedSimpArgs false
set_option maxRecDepth 100000

theorem app_zero {t e : TypeId} {iT : TypeInfo} (ht : Try.prog.underlying t = some (.slice e)) (hT0 : Try.prog.info? e = some iT) (A A' : Option Addr) (n c c' : Nat) (hc : n ≤ c) (ty : TypeId) (w : World) : (Builtin.append_ #[t, t] ty #[.slice A n c, .slice A' 0 c']).run Try.prog w = .ok (.slice A n c) w := by
  cases A <;> cases A' <;> simp [Builtin.append_, run_underlying ht, sizeOf, typeInfo, hT0, Builtin.lenOf, Builtin.firstCells, loadCells, loadCellsFrom, storeCells, hc]
theorem row_shape {B : Nat} {W : World} {ty : TypeId} {z n : Nat} {v : Value} {xs : List Value} (h : W.ownsRow B ty z v n xs) : ∃ A c, v = .slice A n c ∧ n ≤ c := by
  rcases id h.2 with ⟨hv, hl⟩ | ⟨g, cap, cur, hv, _, _, hc, _⟩
  · exact ⟨none, 0, by rw [hv, hl], by omega⟩
  · exact ⟨_, cap, hv, hc⟩
theorem wp_app_any {o : Oper} {a : Act} {K : Act → World → Prop} {Q : Exit → Act → World → Prop} {w : World} (s x : Operand) (t : TypeId)
    (ho : o.op = .call { callee := .builtin .append, args := #[s, x], argTypes := #[t, t] })
    (e : TypeId) (i : TypeInfo) (z : Value) (size bytes : Nat) (ht : Try.prog.underlying t = some (.slice e)) (hi : Try.prog.info? e = some i) (hz : i.zero = some z)
    (hsize : i.size = size) (hby : i.bytes = bytes) (hzs : z.cells.size = size) (hsz : 0 < size) (hb9 : bytes ≤ 100)
    {B N n m : Nat} {v u : Value} {xs news : List Value} (hs : a.eval s = v) (hx : a.eval x = u) (hv : w.ownsRow B e size v n xs) (hu : w.ownsRow N e size u m news) (h1 : ∀ u ∈ news, u.oneCell' = true)
    (hnm : n + m ≤ 100000) (hB : B ≤ w.heap.size)
    (h : ∀ v' w', w'.ownsRow B e size v' (n + m) (xs ++ news) → w.grownBy w' v.ownBlock → (∀ k, v'.ownBlock = some k → v.ownBlock = some k ∨ w.heap.size ≤ k) → K (a.put o.dst v') w') : o.wp Try.prog a w K Q := by
  by_cases hm : m = 0
  · subst hm
    obtain ⟨A', c', rfl, _⟩ := row_shape hu
    obtain ⟨A, c, rfl, hc⟩ := row_shape hv
    have hn : news = [] := List.length_eq_zero_iff.1 (by rw [hu.1]; omega)
    subst hn
    unfold Oper.wp execOp
    simp only [ho, resolve, invoke, builtin, Sem.run_bind, Sem.run_pure, Result.andThen_ok, List.map_toArray, List.map_cons, List.map_nil, hs, hx, app_zero ht hi A A' n c c' hc]
    exact h _ _ (by rw [List.append_nil]; exact hv) ⟨rfl, rfl, rfl, Nat.le_refl _, fun _ _ _ => rfl⟩ fun k hk => .inl hk
  · obtain ⟨g, c, hu', _⟩ : ∃ g c, u = .slice (some ⟨g, 0, none⟩) m c ∧ True := by
      rcases id hu.2 with ⟨_, h0⟩ | ⟨g, cap, cur, e', _⟩
      · omega
      · exact ⟨g, cap, e', trivial⟩
    subst hu'
    have hbb : (n + m) * bytes ≤ 100000 * 100 := Nat.mul_le_mul hnm hb9
    refine wp_append_lies w s x t ho B e i z size bytes ht hi hz hsize hby hzs hsz v n xs hs hv ⟨g, 0, none⟩ m c news hx hu.1 (World.ownsRow.cells hu (g := g) rfl) h1 (by omega) (by unfold maxLen; omega) (by omega) hB _ rfl ?_
    intro g6 c6 w6 hown hgrow hloc hlt
    refine h _ _ hown hgrow fun k hk => ?_
    have e : some g6 = some k := hk
    injection e with e
    subst e
    rcases hloc with y | y
    · exact .inl y
    · right; omega
/-- A key. -/
structure Kt where
  a : Int
  b : Int
  c : Int
def ktc (x : Kt) : List Value := [.int .i64 x.a, .int .i64 x.b, .int .i64 x.c]
theorem ktc_len (x : Kt) : (ktc x).length = 3 := rfl
theorem ktc_one (l : List Kt) : ∀ u ∈ l.flatMap ktc, u.oneCell' = true := fun u hu => by
  obtain ⟨x, _, hx⟩ := List.mem_flatMap.1 hu
  unfold ktc at hx
  simp at hx
  rcases hx with rfl | rfl | rfl <;> rfl
/-- A row of keys. -/
def KtR (B : Nat) (W : World) (v : Value) (l : List Kt) : Prop := W.ownsRow B 37 3 v l.length (l.flatMap ktc)
theorem flat_dropK : ∀ (l : List Kt) (m : Nat), (l.drop m).flatMap ktc = (l.flatMap ktc).drop (m * 3) := by
  intro l
  induction l with
  | nil => intro m; simp
  | cons x l ih =>
    intro m
    cases m with
    | zero => simp
    | succ m =>
      rw [List.drop_succ_cons, List.flatMap_cons, ih m, show (m + 1) * 3 = m * 3 + 3 by omega]
      rfl
theorem flat_takeK : ∀ (l : List Kt) (m : Nat), (l.take m).flatMap ktc = (l.flatMap ktc).take (m * 3) := by
  intro l
  induction l with
  | nil => intro m; simp
  | cons x l ih =>
    intro m
    cases m with
    | zero => simp
    | succ m =>
      rw [List.take_succ_cons, List.flatMap_cons, List.flatMap_cons, ih m, show (m + 1) * 3 = m * 3 + 3 by omega]
      rfl
theorem flat_insK (l : List Kt) (i : Nat) (x : Kt) : (l.take i ++ x :: l.drop i).flatMap ktc = (l.flatMap ktc).take (i * 3) ++ [.int .i64 x.a, .int .i64 x.b, .int .i64 x.c] ++ (l.flatMap ktc).drop (i * 3) := by
  rw [List.flatMap_append, List.flatMap_cons, flat_takeK, flat_dropK, List.append_assoc]
  rfl
theorem len_insK (l : List Kt) (i : Nat) (x : Kt) (hi : i ≤ l.length) : (l.take i ++ x :: l.drop i).length = l.length + 1 := by
  simp
  omega
def InsPost (B : Nat) (v : Value) (l : List Kt) (W : World) (i : Nat) (x : Kt) (e : Ending) (w' : World) : Prop := ∃ v', e = .returned v' ∧ KtR B w' v' (l.take i ++ x :: l.drop i) ∧ W.grownBy w' v.ownBlock ∧ ∀ k, v'.ownBlock = some k → v.ownBlock = some k ∨ W.heap.size ≤ k
set_option maxHeartbeats 8000000 in
theorem kins_end {B : Nat} {W : World} {v : Value} {l : List Kt} {vb vc : Nat} {x : Kt} (h : KtR B W v l) (hl : l.length ≤ 50000) (hB : B ≤ W.heap.size) (hu : KtR 0 W (.slice (some ⟨vb, 0, none⟩) 1 vc) [x]) :
    Calls Try.prog 36 #[v, .int .i64 l.length, .slice (some ⟨vb, 0, none⟩) 1 vc] W (InsPost B v l W l.length x) := by
  obtain ⟨A, c, rfl, hcc⟩ := row_shape h
  by_cases hcl : c = l.length
  · subst hcl
    obtain ⟨iT, hT0, hT1, hT2, hT3⟩ := info_parts keyZ
    have hE : ∀ v' w', w'.ownsRow B 37 3 v' (l.length + 1) (l.flatMap ktc ++ [x].flatMap ktc) → W.grownBy w' (Value.ownBlock (.slice A l.length l.length)) → (∀ k, v'.ownBlock = some k → Value.ownBlock (.slice A l.length l.length) = some k ∨ W.heap.size ≤ k) → InsPost B (.slice A l.length l.length) l W l.length x (.returned v') w' := fun v' w' h1 h2 h3 => by
      refine ⟨v', rfl, ?_, h2, h3⟩
      unfold KtR
      rw [List.take_length, List.drop_length, List.length_append, List.flatMap_append]
      exact h1
    have HE := Lib.hid hE
    have HR := Lib.hid h
    have HU := Lib.hid hu
    have HB := Lib.hid hB
    have HL := Lib.hid (show l.length + 1 ≤ 100000 by omega)
    have hz0 : (0 : Int) ≤ (l.length : Int) := by omega
    clear h hE hu hB hl
    go_enter Try.func36, Try.ntmps36
    go_wp2_with (at_builtin; refine wpList_plain rfl fun _ hK => ?_; refine wp_app_any (.tmp 23) (.tmp 24) 70 rfl 37 iT (.agg #[.int .i64 0, .int .i64 0, .int .i64 0]) 3 24 Try.underlying70 hT0 hT1 hT2 hT3 rfl (by decide) (by decide) rfl rfl HR.out HU.out (ktc_one _) HL.out HB.out ?_; intro v7 w7 hr7 hg7 hf7; refine hK _ _ ?_; have HZ := Lib.hid (HE.out v7 w7 hr7 hg7 hf7); clear hr7 hg7 hf7 hK)
    go_ret
    exact HZ.out
  · have hcl2 : ¬ c = l.length := hcl
    obtain ⟨iT, hT0, hT1, hT2, hT3⟩ := info_parts keyZ
    have hE : ∀ v' w', w'.ownsRow B 37 3 v' (l.length + 1) (l.flatMap ktc ++ [x].flatMap ktc) → W.grownBy w' (Value.ownBlock (.slice A l.length c)) → (∀ k, v'.ownBlock = some k → Value.ownBlock (.slice A l.length c) = some k ∨ W.heap.size ≤ k) → InsPost B (.slice A l.length c) l W l.length x (.returned v') w' := fun v' w' h1 h2 h3 => by
      refine ⟨v', rfl, ?_, h2, h3⟩
      unfold KtR
      rw [List.take_length, List.drop_length, List.length_append, List.flatMap_append]
      exact h1
    have HE := Lib.hid hE
    have HR := Lib.hid h
    have HU := Lib.hid hu
    have HB := Lib.hid hB
    have HL := Lib.hid (show l.length + 1 ≤ 100000 by omega)
    have hz0 : (0 : Int) ≤ (l.length : Int) := by omega
    clear h hE hu hB hl
    go_enter Try.func36, Try.ntmps36
    go_wp2_with (at_builtin; refine wpList_plain rfl fun _ hK => ?_; refine wp_app_any (.tmp 23) (.tmp 24) 70 rfl 37 iT (.agg #[.int .i64 0, .int .i64 0, .int .i64 0]) 3 24 Try.underlying70 hT0 hT1 hT2 hT3 rfl (by decide) (by decide) rfl rfl HR.out HU.out (ktc_one _) HL.out HB.out ?_; intro v7 w7 hr7 hg7 hf7; refine hK _ _ ?_; have HZ := Lib.hid (HE.out v7 w7 hr7 hg7 hf7); clear hr7 hg7 hf7 hK)
    go_ret
    exact HZ.out
theorem kins_any {B : Nat} {W : World} {v : Value} {l : List Kt} {vb vc i : Nat} {x : Kt} (h : KtR B W v l) (hl : l.length ≤ 50000) (hB : B ≤ W.heap.size) (hi : i ≤ l.length) (hu : Fb W vb 37 #[.int .i64 x.a, .int .i64 x.b, .int .i64 x.c]) (hne : v.ownBlock ≠ some vb) (hvc : vc = 1) :
    Calls Try.prog 36 #[v, .int .i64 i, .slice (some ⟨vb, 0, none⟩) 1 vc] W (InsPost B v l W i x) := by
  subst hvc
  by_cases he : i = l.length
  · subst he
    refine kins_end h hl hB ⟨by simp [ktc], .inr ⟨vb, 1, _, rfl, Nat.zero_le _, hu, Nat.le_refl _, by decide, rfl, by simp [ktc]⟩⟩
  · have hil : i < l.length := by omega
    rcases id h.2 with ⟨_, h0⟩ | ⟨g, cap, cur, hv, hge, hg, hnc, hcm, hcz, hct⟩
    · omega
    · subst hv
      have hgl : g < W.heap.size := (Array.getElem?_eq_some_iff.1 hg).1
      have hgn : vb ≠ g := fun e => hne (by rw [e]; rfl)
      have hone : ∀ v ∈ cur.toList.take (l.length * 3), v.oneCell' = true := by rw [hct]; exact ktc_one _
      by_cases hr : l.length + 1 ≤ cap
      · refine (kins_shift (L := cur.toList) (by simpa using hg) (by simpa using hcz) hil hr hcm hu hgn hone).mono ?_
        rintro e w' ⟨h1, h2, L2, h3, h4, h5⟩
        refine ⟨_, h1, ?_, h2, fun k hk => .inl hk⟩
        have hlen := len_insK l i x hi
        rw [hct] at h5
        refine ⟨by rw [flat_insK, hlen]; simp [h.1]; omega, .inr ⟨g, cap, L2.toArray, by rw [hlen], hge, h3, by omega, hcm, by simp [h4, hcz], ?_⟩⟩
        rw [hlen, flat_insK]
        simpa using h5
      · obtain rfl : cap = l.length := by omega
        have hLf : cur.toList = l.flatMap ktc := by
          rw [← hct]
          exact (List.take_of_length_le (by simp [hcz])).symm
        refine (kins_grow (L := cur.toList) (by simpa using hg) (by simpa using hcz) hil (by omega) hu (by rw [hLf]; exact ktc_one _)).mono ?_
        rintro e w' ⟨G, h1, h2, hG1, hG2, L2, h3, h4, h5⟩
        have hlen := len_insK l i x hi
        rw [hLf] at h5
        refine ⟨_, h1, ?_, ⟨h2.os, h2.tape, h2.output, h2.size, fun k hk _ => h2.block k hk (by simp)⟩, fun k hk => .inr ?_⟩
        · refine ⟨by rw [flat_insK, hlen]; simp [h.1]; omega, .inr ⟨W.heap.size, G, L2.toArray, by rw [hlen], hB, h3, by omega, hG2, by simp [h4], ?_⟩⟩
          rw [hlen, flat_insK]
          simpa using h5
        · have e' : some W.heap.size = some k := hk
          injection e' with e'
          omega
end Go.Proofs.Ytoiigplflmejmaa
