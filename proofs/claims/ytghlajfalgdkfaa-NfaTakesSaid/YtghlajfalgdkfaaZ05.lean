/-
  MERGED (a claim has at most 60 files): NgInsA, NfBs.
-/
import Derived.Test.YtghlajfalgdkfaaZ04
import Derived.Test.YtghlajfalgdkfaaZ02
import Derived.Deep.AppendLies
import Derived.Deep.RegionHeld3
import Derived.Deep.RegionHeldLaw
import Derived.Deep.RegionWith
import Derived.Shelf.Abstract
/-
  slices.Insert of one move into a row of moves: all ways.
-/
namespace Go.Proofs.Ytghlajfalgdkfaa
open Go.RowKit Go.Lib
set_option linter.unusedVariables false
set_option linter.unusedSimpArgs false
set_option maxRecDepth 100000

theorem app_zero {t e : TypeId} {iT : TypeInfo} (ht : Try.prog.underlying t = some (.slice e)) (hT0 : Try.prog.info? e = some iT) (A A' : Option Addr) (n c c' : Nat) (hc : n ≤ c) (ty : TypeId) (w : World) : (Builtin.append_ #[t, t] ty #[.slice A n c, .slice A' 0 c']).run Try.prog w = .ok (.slice A n c) w := by
  cases A <;> cases A' <;> simp [Builtin.append_, run_underlying ht, sizeOf, typeInfo, hT0, Builtin.lenOf, Builtin.firstCells, loadCells, loadCellsFrom, storeCells, hc]
theorem row_shape {B : Nat} {W : World} {ty : TypeId} {z n : Nat} {v : Value} {xs : List Value} (h : W.ownsRow B ty z v n xs) : ∃ A c, v = .slice A n c ∧ n ≤ c := by
  rcases id h.2 with ⟨hv, hl⟩ | ⟨g, cap, cur, hv, _, _, hc, _⟩
  · exact ⟨none, 0, by rw [hv, hl], by omega⟩
  · exact ⟨_, cap, hv, hc⟩
theorem wp_app_any {o : Oper} {a : Act} {K : Act → World → Prop} {Q : Exit → Act → World → Prop} {w : World} (s x : Operand) (t : TypeId)
    (ho : o.op = .call { callee := .builtin .append, args := #[s, x], argTypes := #[t, t] })
    (e : TypeId) (i : TypeInfo) (z : Value) (size bytes : Nat) (ht : Try.prog.underlying t = some (.slice e)) (hi : Try.prog.info? e = some i) (hz : i.zero = some z)
    (hsize : i.size = size) (hby : i.bytes = bytes) (hzs : z.cells.size = size) (hsz : 0 < size) (hb9 : bytes ≤ 100)
    {B N n m : Nat} {v u : Value} {xs news : List Value} (hs : a.eval s = v) (hx : a.eval x = u) (hv : w.ownsRow B e size v n xs) (hu : w.ownsRow N e size u m news) (h1 : ∀ u ∈ news, u.oneCell' = true)
    (hnm : n + m ≤ 100000) (hB : B ≤ w.heap.size)
    (h : ∀ v' w', w'.ownsRow B e size v' (n + m) (xs ++ news) → w.grownBy w' v.ownBlock → (∀ k, v'.ownBlock = some k → v.ownBlock = some k ∨ w.heap.size ≤ k) → K (a.put o.dst v') w') : o.wp Try.prog a w K Q := by
  by_cases hm : m = 0
  · subst hm
    obtain ⟨A', c', rfl, _⟩ := row_shape hu
    obtain ⟨A, c, rfl, hc⟩ := row_shape hv
    have hn : news = [] := List.length_eq_zero_iff.1 (by rw [hu.1]; omega)
    subst hn
    unfold Oper.wp execOp
    simp only [ho, resolve, invoke, builtin, Sem.run_bind, Sem.run_pure, Result.andThen_ok, List.map_toArray, List.map_cons, List.map_nil, hs, hx, app_zero ht hi A A' n c c' hc]
    exact h _ _ (by rw [List.append_nil]; exact hv) ⟨rfl, rfl, rfl, Nat.le_refl _, fun _ _ _ => rfl⟩ fun k hk => .inl hk
  · obtain ⟨g, c, hu', _⟩ : ∃ g c, u = .slice (some ⟨g, 0, none⟩) m c ∧ True := by
      rcases id hu.2 with ⟨_, h0⟩ | ⟨g, cap, cur, e', _⟩
      · omega
      · exact ⟨g, cap, e', trivial⟩
    subst hu'
    have hbb : (n + m) * bytes ≤ 100000 * 100 := Nat.mul_le_mul hnm hb9
    refine wp_append_lies w s x t ho B e i z size bytes ht hi hz hsize hby hzs hsz v n xs hs hv ⟨g, 0, none⟩ m c news hx hu.1 (World.ownsRow.cells hu (g := g) rfl) h1 (by omega) (by unfold maxLen; omega) (by omega) hB _ rfl ?_
    intro g6 c6 w6 hown hgrow hloc hlt
    refine h _ _ hown hgrow fun k hk => ?_
    have e : some g6 = some k := hk
    injection e with e
    subst e
    rcases hloc with y | y
    · exact .inl y
    · right; omega
/-- A key. -/
def mvc (x : Mo) : List Value := [.int .i64 x.1.1, .bool x.1.2, .int .i64 (x.2 : Int)]
theorem mvc_len (x : Mo) : (mvc x).length = 3 := rfl
theorem ktc_one (l : List Mo) : ∀ u ∈ l.flatMap mvc, u.oneCell' = true := fun u hu => by
  obtain ⟨x, _, hx⟩ := List.mem_flatMap.1 hu
  unfold mvc at hx
  simp at hx
  rcases hx with rfl | rfl | rfl <;> rfl
/-- A row of moves. -/
def MvR (B : Nat) (W : World) (v : Value) (l : List Mo) : Prop := W.ownsRow B 84 3 v l.length (l.flatMap mvc)
theorem flat_dropK : ∀ (l : List Mo) (m : Nat), (l.drop m).flatMap mvc = (l.flatMap mvc).drop (m * 3) := by
  intro l
  induction l with
  | nil => intro m; simp
  | cons x l ih =>
    intro m
    cases m with
    | zero => simp
    | succ m =>
      rw [List.drop_succ_cons, List.flatMap_cons, ih m, show (m + 1) * 3 = m * 3 + 3 by omega]
      rfl
theorem flat_takeK : ∀ (l : List Mo) (m : Nat), (l.take m).flatMap mvc = (l.flatMap mvc).take (m * 3) := by
  intro l
  induction l with
  | nil => intro m; simp
  | cons x l ih =>
    intro m
    cases m with
    | zero => simp
    | succ m =>
      rw [List.take_succ_cons, List.flatMap_cons, List.flatMap_cons, ih m, show (m + 1) * 3 = m * 3 + 3 by omega]
      rfl
theorem flat_insK (l : List Mo) (i : Nat) (x : Mo) : (l.take i ++ x :: l.drop i).flatMap mvc = (l.flatMap mvc).take (i * 3) ++ [.int .i64 x.1.1, .bool x.1.2, .int .i64 (x.2 : Int)] ++ (l.flatMap mvc).drop (i * 3) := by
  rw [List.flatMap_append, List.flatMap_cons, flat_takeK, flat_dropK, List.append_assoc]
  rfl
theorem len_insK (l : List Mo) (i : Nat) (x : Mo) (hi : i ≤ l.length) : (l.take i ++ x :: l.drop i).length = l.length + 1 := by
  simp
  omega
def InsPost (B : Nat) (v : Value) (l : List Mo) (W : World) (i : Nat) (x : Mo) (e : Ending) (w' : World) : Prop := ∃ v', e = .returned v' ∧ MvR B w' v' (l.take i ++ x :: l.drop i) ∧ W.grownBy w' v.ownBlock ∧ ∀ k, v'.ownBlock = some k → v.ownBlock = some k ∨ W.heap.size ≤ k
set_option maxHeartbeats 8000000 in
theorem kins_end {B : Nat} {W : World} {v : Value} {l : List Mo} {vb vc : Nat} {x : Mo} (h : MvR B W v l) (hl : l.length ≤ 50000) (hB : B ≤ W.heap.size) (hu : MvR 0 W (.slice (some ⟨vb, 0, none⟩) 1 vc) [x]) :
    Calls Try.prog 55 #[v, .int .i64 l.length, .slice (some ⟨vb, 0, none⟩) 1 vc] W (InsPost B v l W l.length x) := by
  obtain ⟨A, c, rfl, hcc⟩ := row_shape h
  by_cases hcl : c = l.length
  · subst hcl
    obtain ⟨iT, hT0, hT1, hT2, hT3⟩ := info_parts keyZ
    dsimp only at hT1 hT2 hT3
    have hE : ∀ v' w', w'.ownsRow B 84 3 v' (l.length + 1) (l.flatMap mvc ++ [x].flatMap mvc) → W.grownBy w' (Value.ownBlock (.slice A l.length l.length)) → (∀ k, v'.ownBlock = some k → Value.ownBlock (.slice A l.length l.length) = some k ∨ W.heap.size ≤ k) → InsPost B (.slice A l.length l.length) l W l.length x (.returned v') w' := fun v' w' h1 h2 h3 => by
      refine ⟨v', rfl, ?_, h2, h3⟩
      unfold MvR
      rw [List.take_length, List.drop_length, List.length_append, List.flatMap_append]
      exact h1
    have HE := Lib.hid hE
    have HR := Lib.hid h
    have HU := Lib.hid hu
    have HB := Lib.hid hB
    have HL := Lib.hid (show l.length + 1 ≤ 100000 by omega)
    have hz0 : (0 : Int) ≤ (l.length : Int) := by omega
    clear h hE hu hB hl
    go_enter Try.func55, Try.ntmps55
    go_wp2_with (at_builtin; refine wpList_plain rfl fun _ hK => ?_; refine wp_app_any (.tmp 23) (.tmp 24) 67 rfl 84 iT (.agg #[.int .i64 0, .bool false, .int .i64 0]) 3 24 Try.underlying67 hT0 hT1 hT2 hT3 rfl (by decide) (by decide) rfl rfl HR.out HU.out (ktc_one _) HL.out HB.out ?_; intro v7 w7 hr7 hg7 hf7; refine hK _ _ ?_; have HZ := Lib.hid (HE.out v7 w7 hr7 hg7 hf7); clear hr7 hg7 hf7 hK)
    go_ret
    exact HZ.out
  · have hcl2 : ¬ c = l.length := hcl
    obtain ⟨iT, hT0, hT1, hT2, hT3⟩ := info_parts keyZ
    dsimp only at hT1 hT2 hT3
    have hE : ∀ v' w', w'.ownsRow B 84 3 v' (l.length + 1) (l.flatMap mvc ++ [x].flatMap mvc) → W.grownBy w' (Value.ownBlock (.slice A l.length c)) → (∀ k, v'.ownBlock = some k → Value.ownBlock (.slice A l.length c) = some k ∨ W.heap.size ≤ k) → InsPost B (.slice A l.length c) l W l.length x (.returned v') w' := fun v' w' h1 h2 h3 => by
      refine ⟨v', rfl, ?_, h2, h3⟩
      unfold MvR
      rw [List.take_length, List.drop_length, List.length_append, List.flatMap_append]
      exact h1
    have HE := Lib.hid hE
    have HR := Lib.hid h
    have HU := Lib.hid hu
    have HB := Lib.hid hB
    have HL := Lib.hid (show l.length + 1 ≤ 100000 by omega)
    have hz0 : (0 : Int) ≤ (l.length : Int) := by omega
    clear h hE hu hB hl
    go_enter Try.func55, Try.ntmps55
    go_wp2_with (at_builtin; refine wpList_plain rfl fun _ hK => ?_; refine wp_app_any (.tmp 23) (.tmp 24) 67 rfl 84 iT (.agg #[.int .i64 0, .bool false, .int .i64 0]) 3 24 Try.underlying67 hT0 hT1 hT2 hT3 rfl (by decide) (by decide) rfl rfl HR.out HU.out (ktc_one _) HL.out HB.out ?_; intro v7 w7 hr7 hg7 hf7; refine hK _ _ ?_; have HZ := Lib.hid (HE.out v7 w7 hr7 hg7 hf7); clear hr7 hg7 hf7 hK)
    go_ret
    exact HZ.out
theorem kins_any {B : Nat} {W : World} {v : Value} {l : List Mo} {vb vc i : Nat} {x : Mo} (h : MvR B W v l) (hl : l.length ≤ 50000) (hB : B ≤ W.heap.size) (hi : i ≤ l.length) (hu : Fb W vb 84 #[.int .i64 x.1.1, .bool x.1.2, .int .i64 (x.2 : Int)]) (hne : v.ownBlock ≠ some vb) (hvc : vc = 1) :
    Calls Try.prog 55 #[v, .int .i64 i, .slice (some ⟨vb, 0, none⟩) 1 vc] W (InsPost B v l W i x) := by
  subst hvc
  by_cases he : i = l.length
  · subst he
    refine kins_end h hl hB ⟨by simp [mvc], .inr ⟨vb, 1, _, rfl, Nat.zero_le _, hu, Nat.le_refl _, by decide, rfl, by simp [mvc]⟩⟩
  · have hil : i < l.length := by omega
    rcases id h.2 with ⟨_, h0⟩ | ⟨g, cap, cur, hv, hge, hg, hnc, hcm, hcz, hct⟩
    · omega
    · subst hv
      have hgl : g < W.heap.size := (Array.getElem?_eq_some_iff.1 hg).1
      have hgn : vb ≠ g := fun e => hne (by rw [e]; rfl)
      have hone : ∀ v ∈ cur.toList.take (l.length * 3), v.oneCell' = true := by rw [hct]; exact ktc_one _
      by_cases hr : l.length + 1 ≤ cap
      · refine (kins_shift (L := cur.toList) (by simpa using hg) (by simpa using hcz) hil hr hcm hu hgn hone).mono ?_
        rintro e w' ⟨h1, h2, L2, h3, h4, h5⟩
        refine ⟨_, h1, ?_, h2, fun k hk => .inl hk⟩
        have hlen := len_insK l i x hi
        rw [hct] at h5
        refine ⟨by rw [flat_insK, hlen]; simp [h.1]; omega, .inr ⟨g, cap, L2.toArray, by rw [hlen], hge, h3, by omega, hcm, by simp [h4, hcz], ?_⟩⟩
        rw [hlen, flat_insK]
        simpa using h5
      · obtain rfl : cap = l.length := by omega
        have hLf : cur.toList = l.flatMap mvc := by
          rw [← hct]
          exact (List.take_of_length_le (by simp [hcz])).symm
        refine (kins_grow (L := cur.toList) (by simpa using hg) (by simpa using hcz) hil (by omega) hu (by rw [hLf]; exact ktc_one _)).mono ?_
        rintro e w' ⟨G, h1, h2, hG1, hG2, L2, h3, h4, h5⟩
        have hlen := len_insK l i x hi
        rw [hLf] at h5
        refine ⟨_, h1, ?_, ⟨h2.os, h2.tape, h2.output, h2.size, fun k hk _ => h2.block k hk (by simp)⟩, fun k hk => .inr ?_⟩
        · refine ⟨by rw [flat_insK, hlen]; simp [h.1]; omega, .inr ⟨W.heap.size, G, L2.toArray, by rw [hlen], hB, h3, by omega, hG2, by simp [h4], ?_⟩⟩
          rw [hlen, flat_insK]
          simpa using h5
        · have e' : some W.heap.size = some k := hk
          injection e' with e'
          omega
end Go.Proofs.Ytghlajfalgdkfaa

/-
  BinarySearchFunc of a move, among none, and where it is alone.
-/
namespace Go.Proofs.Ytghlajfalgdkfaa
open Go.RowKit
set_option linter.unusedVariables false
set_option linter.unusedSimpArgs false
set_option maxRecDepth 100000

set_option maxHeartbeats 4000000 in
theorem cmpI_eq (a : Int) (W : World) : Calls Try.prog 68 #[.int .i64 a, .int .i64 a] W fun e w' => e = .returned (.int .i64 0) ∧ w' = W := by
  go_enter Try.func68, Try.ntmps68
  go_wp2
  go_ret
  exact ⟨rfl, rfl⟩
set_option maxHeartbeats 4000000 in
theorem or00 {W : World} {g : Nat} (h0 : W.cell? ⟨g, 0, none⟩ = some (.int .i64 0)) (h1 : W.cell? ⟨g, 1, none⟩ = some (.int .i64 0)) : Calls Try.prog 69 #[.slice (some ⟨g, 0, none⟩) 2 2] W fun e w' => e = .returned (.int .i64 0) ∧ w' = W := by
  go_enter Try.func69, Try.ntmps69
  go_wp2
  go_loopg [8] 2 (fun g s8 wr => W = wr ∧ ((g = 2 ∧ s8 = .int .i64 0) ∨ (g = 1 ∧ s8 = .int .i64 1) ∨ (g = 0 ∧ s8 = .int .i64 2)))
  case atStart => exact ⟨rfl, .inl ⟨rfl, rfl⟩⟩
  case round =>
    obtain ⟨rfl, hr⟩ := hrel
    rcases hr with ⟨hg, rfl⟩ | ⟨hg, rfl⟩ | ⟨hg, rfl⟩
    · subst hg
      go_wp2
      go_roundg 1
      case measure => exact Nat.lt_succ_self _
      case rel => exact ⟨rfl, .inr (.inl ⟨rfl, rfl⟩)⟩
    · subst hg
      go_wp2
      go_roundg 0
      case measure => exact Nat.lt_succ_self _
      case rel => exact ⟨rfl, .inr (.inr ⟨rfl, rfl⟩)⟩
    · subst hg
      go_wp2
      go_ret
      exact ⟨rfl, rfl⟩
theorem order_eq (a : Int) (W : World) : Calls Try.prog 47 #[.agg #[.int .i64 a, .bool false], .agg #[.int .i64 a, .bool false]] W fun e w' => e = .returned (.int .i64 0) ∧ Below W.heap.size W w' := by
  refine (order_any a a W).mono fun e w' ⟨h1, h2⟩ => ⟨?_, h2⟩
  rw [h1]
  unfold cmp3
  rw [if_neg (by omega), if_neg (by omega)]
set_option maxHeartbeats 16000000 in
theorem before_eq (N t : Int) (W : World) : Calls Try.prog 54 #[.agg #[.int .i64 N, .bool false, .int .i64 t], .agg #[.int .i64 N, .bool false, .int .i64 t]] W fun e w' => e = .returned (.int .i64 0) ∧ Below W.heap.size W w' := by
  obtain ⟨W1, hW1⟩ : ∃ W1, W1 = (W.alloc (.cells #[.int .i64 N, .bool false, .int .i64 t] 84)).alloc (.cells #[.int .i64 N, .bool false, .int .i64 t] 84) := ⟨_, rfl⟩
  have hb : Below W.heap.size W W1 := by rw [hW1]; exact ((Below.refl _ _).alloc (Nat.le_refl _) _).alloc (by simp) _
  have hA : Fb W1 W.heap.size 84 #[.int .i64 N, .bool false, .int .i64 t] := by rw [hW1]; exact (Fb.new W _ _).alloc _
  have hC : Fb W1 (W.heap.size + 1) 84 #[.int .i64 N, .bool false, .int .i64 t] := by
    have := Fb.new (W.alloc (.cells #[.int .i64 N, .bool false, .int .i64 t] 84)) 84 #[.int .i64 N, .bool false, .int .i64 t]
    rw [World.size_alloc] at this
    rw [hW1]; exact this
  have HB := Lib.hid hb
  have HA := Lib.hid hA
  have HC := Lib.hid hC
  have a0 := hA.cell 0
  have a1 := hA.cell 1
  have a2 := hA.cell 2
  have c0 := hC.cell 0
  have c1 := hC.cell 1
  have c2 := hC.cell 2
  have cO := order_eq N W1.drew
  have cC := fun W => cmpI_eq t W
  clear hb hA hC
  go_enter Try.func54, Try.ntmps54
  go_wp2
  rw [← hW1]
  clear hW1
  go_region_held3 (fun w => w.cell? ⟨W.heap.size, 0, none⟩ = some (.int .i64 N) ∧ w.cell? ⟨W.heap.size, 1, none⟩ = some (.bool false) ∧ w.cell? ⟨W.heap.size, 2, none⟩ = some (.int .i64 t) ∧ w.cell? ⟨W.heap.size + 1, 0, none⟩ = some (.int .i64 N) ∧ w.cell? ⟨W.heap.size + 1, 1, none⟩ = some (.bool false) ∧ w.cell? ⟨W.heap.size + 1, 2, none⟩ = some (.int .i64 t))
    (first | exact ⟨a0, a1, a2, c0, c1, c2⟩ | exact ⟨cell_below a0 hB, cell_below a1 hB, cell_below a2 hB, cell_below c0 hB, cell_below c1 hB, cell_below c2 hB⟩ | exact ⟨cell_below a0 (hB.alloc hB.size _), cell_below a1 (hB.alloc hB.size _), cell_below a2 (hB.alloc hB.size _), cell_below c0 (hB.alloc hB.size _), cell_below c1 (hB.alloc hB.size _), cell_below c2 (hB.alloc hB.size _)⟩)
    (first
      | (go_at_call 69; (with_reducible refine (or00 ((Fb.new _ 3 #[.int .i64 0, .int .i64 0]).cell 0) ((Fb.new _ 3 #[.int .i64 0, .int .i64 0]).cell 1)).mono ?_); rintro e w2 ⟨rfl, rfl⟩)
      | (go_at_call 68; (with_reducible refine (cC _).mono ?_); rintro e w1 ⟨rfl, rfl⟩)
      | (go_at_call 47; (with_reducible refine (order_eq N _).mono ?_); rintro e w1 ⟨rfl, hB0⟩; have hB := (Below.drew (Below.refl W1.heap.size W1)).trans hB0)
      | fail)
  all_goals
    have HB5 := Lib.hid (HB.out.trans ((hB.alloc hB.size (.cells #[.int .i64 0, .int .i64 0] 3)).mono HB.out.size))
    clear hB
    go_wp2
    go_ret
    exact ⟨rfl, HB5.out⟩
end Go.Proofs.Ytghlajfalgdkfaa
