/-
  THE STORE BESIDE THE DOCUMENT's: both, and a pattern's box, in memory; a row of integers.
-/
import Derived.Test.YtoiigplflmejmaaSAgE
import Derived.Test.YtoiigplflmejmaaSCount
import Derived.Test.YtoiigplflmejmaaSKaddC
import Derived.Test.YtoiigplflmejmaaSSumP
import Derived.Deep.AppendLies
import Derived.Lib.SmallJoins
namespace Go.Proofs.Ytoiigplflmejmaa
open Go.RowKit
set_option linter.unusedVariables false
set_option linter.unusedSimpArgs false
set_option maxRecDepth 100000

theorem row_heapB {B : Nat} {W W' : World} {ty : TypeId} {z n : Nat} {u : Value} {xs : List Value} (hr : W.ownsRow B ty z u n xs) (hk : ∀ (g : Nat) (cur : Array Value), B ≤ g → W.heap[g]? = some (.cells cur ty (0, 0)) → W'.heap[g]? = some (.cells cur ty (0, 0))) : W'.ownsRow B ty z u n xs := by
  refine ⟨hr.1, ?_⟩
  rcases id hr.2 with hn | ⟨g, cap, cur, hv, hge, hg, rest⟩
  · exact .inl hn
  · exact .inr ⟨g, cap, cur, hv, hge, hk g cur hge hg, rest⟩
theorem Sx.far {B d gn : Nat} {t : TypeId} {cs : Array Value} {room many : Int} {m0 m1 m2 : List Kt} {W W' : World} (h : Sx B d room many m0 m1 m2 W) (hn : Fb W gn t cs) (h1 : t ≠ 60) (h2 : t ≠ 70) (h3 : t ≠ 37) (hb : ∀ q, q < W.heap.size → q ≠ gn → W'.heap[q]? = W.heap[q]?) : Sx B d room many m0 m1 m2 W' := by
  obtain ⟨x0, x1, x2, l0, l1, l2, F0, F1, F2, s⟩ := h
  have hd : d ≠ gn := fb_ty_ne s.fb hn (fun e => h1 e.symm)
  have hl : ∀ {o : Nat} {nn : Int} {x : Value} {l : List Kt} {F : List Nat}, Lx B W d o nn x l F → Lx B W' d o nn x l F := fun {o nn x l F} hx =>
    hx.keep (World.cell?_of_block (w := W) (hb d s.fb.lt hd)) (World.cell?_of_block (w := W) (hb d s.fb.lt hd)) (fun q hq => hb q (hx.ge q hq).2 (fun e => hx.far hn h2 h3 (e ▸ hq)))
  exact ⟨x0, x1, x2, l0, l1, l2, F0, F1, F2, (hb d s.fb.lt hd).trans s.fb, s.hd, hl s.a0, hl s.a1, hl s.a2, s.p0, s.p1, s.p2, s.d01, s.d02, s.d12⟩
/-- Both stores, and a pattern's box. -/
structure Su (w : World) (B d gp gm : Nat) (p : Kt) (m L : List Kt) (A : Option Addr) (c : Nat) (W : World) : Prop where
  b : Below w.heap.size w W
  sx : Sx B d 50 (m.length : Int) m m m W
  px : Fb W gp 31 #[.int .i64 p.a, .int .i64 p.b, .int .i64 p.c]
  mx : Fb W gm 30 #[.int .i64 50, .slice A L.length c]
  mr : KtD B W (.slice A L.length c) L
  hm : B ≤ gm
  hp : w.heap.size ≤ gp
  hB : gp < B
section
variable {w : World} {B d gp gm : Nat} {p : Kt} {m L : List Kt} {A : Option Addr} {c : Nat}
theorem Su.wB {W : World} (h : Su w B d gp gm p m L A c W) : w.heap.size ≤ B := Nat.le_trans h.hp (Nat.le_of_lt h.hB)
theorem Su.below {W W' : World} (h : Su w B d gp gm p m L A c W) (hb : Below W.heap.size W W') : Su w B d gp gm p m L A c W' := ⟨h.b.trans (hb.mono h.b.size), h.sx.below hb, h.px.below hb, h.mx.below hb, h.mr.below hb, h.hm, h.hp, h.hB⟩
theorem Su.alloc {W : World} (h : Su w B d gp gm p m L A c W) (o : Obj) : Su w B d gp gm p m L A c (W.alloc o) := h.below ((Below.refl _ _).alloc (Nat.le_refl _) o)
theorem Su.add {W W' : World} {e : Ending} {r : List Kt × Int} (h : Su w B d gp gm p m L A c W) (ha : SaddP B d 50 W r e W') : Su w B d gp gm p r.1 L A c W' := by
  obtain ⟨_, h1, h2⟩ := ha
  exact ⟨⟨h2.os.trans h.b.os, h2.tape.trans h.b.tape, h2.output.trans h.b.output, Nat.le_trans h.b.size h2.size, fun q hq => (h2.low q (Nat.lt_of_lt_of_le hq h.wB)).trans (h.b.block q hq)⟩, h1, h2.keep h.px (by decide) (by decide) (by decide), h2.keep h.mx (by decide) (by decide) (by decide), row_heapB h.mr (fun g cur _ hg => h2.keep (t := 31) hg (by decide) (by decide) (by decide)), h.hm, h.hp, h.hB⟩
/-- The document's store is stored. -/
theorem Su.setm {W : World} {A' : Option Addr} {c' : Nat} {L' : List Kt} (h : Su w B d gp gm p m L A c W) (hr : KtD B W (.slice A' L'.length c') L') : Su w B d gp gm p m L' A' c' ((W.setCell ⟨gm, 0, none⟩ (.int .i64 50)).setCell ⟨gm, 1, none⟩ (.slice A' L'.length c')) := by
  have hf := (h.mx.set 0 (.int .i64 50)).set 1 (.slice A' L'.length c')
  have hb : ∀ q, q < W.heap.size → q ≠ gm → ((W.setCell ⟨gm, 0, none⟩ (.int .i64 50)).setCell ⟨gm, 1, none⟩ (.slice A' L'.length c')).heap[q]? = W.heap[q]? := fun q _ hn => (Below.heap_setCell _ _ _ _ hn).trans (Below.heap_setCell _ _ _ _ hn)
  have hpm : gp ≠ gm := by have := h.hB; have := h.hm; omega
  refine ⟨Below.setCell (Below.setCell h.b (p := ⟨gm, 0, none⟩) (Nat.le_trans h.wB h.hm) _) (p := ⟨gm, 1, none⟩) (Nat.le_trans h.wB h.hm) _, h.sx.far h.mx (by decide) (by decide) (by decide) hb, (hb gp h.px.lt hpm).trans h.px, hf, row_heapB hr (fun g cur _ hg => ?_), h.hm, h.hp, h.hB⟩
  exact fb_set_far (h.mx.set 0 (.int .i64 50)) (by decide) _ g cur (fb_set_far h.mx (by decide) _ g cur hg)
/-- A part of the pattern is stored. -/
theorem Su.setp {W : World} {i : Nat} {x : Int} (h : Su w B d gp gm p m L A c W) (hi : i < 3) : Su w B d gp gm (setK i p x) m L A c (W.setCell ⟨gp, i, none⟩ (.int .i64 x)) := by
  have hf := h.px.set i (.int .i64 x)
  have hb : ∀ q, q < W.heap.size → q ≠ gp → (W.setCell ⟨gp, i, none⟩ (.int .i64 x)).heap[q]? = W.heap[q]? := fun q _ hn => Below.heap_setCell _ _ _ _ hn
  have hpm : gm ≠ gp := by have := h.hB; have := h.hm; omega
  refine ⟨Below.setCell h.b (p := ⟨gp, i, none⟩) h.hp _, h.sx.far h.px (by decide) (by decide) (by decide) hb, ?_, (hb gm h.mx.lt hpm).trans h.mx, row_heapB h.mr (fun g cur hg e => ?_), h.hm, h.hp, h.hB⟩
  · obtain rfl | rfl | rfl : i = 0 ∨ i = 1 ∨ i = 2 := by omega
    · exact hf
    · exact hf
    · exact hf
  · exact (hb g (Array.getElem?_eq_some_iff.1 e).1 (by have := h.hB; omega)).trans e
theorem Su.cm {W : World} (h : Su w B d gp gm p m L A c W) : W.cell? ⟨gm, 0, none⟩ = some (.int .i64 50) ∧ W.cell? ⟨gm, 1, none⟩ = some (.slice A L.length c) ∧ W.frozen? ⟨gm, 0, none⟩ = false ∧ W.frozen? ⟨gm, 1, none⟩ = false := ⟨h.mx.cell 0, h.mx.cell 1, h.mx.free 0, h.mx.free 1⟩
theorem Su.c3 {W : World} (h : Su w B d gp gm p m L A c W) : W.cell? ⟨gp, 0, none⟩ = some (.int .i64 p.a) ∧ W.cell? ⟨gp, 1, none⟩ = some (.int .i64 p.b) ∧ W.cell? ⟨gp, 2, none⟩ = some (.int .i64 p.c) := ⟨h.px.cell 0, h.px.cell 1, h.px.cell 2⟩
/-- Count, by the document's list. -/
theorem scount_D {W : World} (hS : Sx B d 50 (m.length : Int) m m m W) (hm : m.length ≤ 1000) (hp : L.Perm m) (hn : ∀ k ∈ m, nnK k) (q : Kt) :
    Calls Try.prog 19 #[.pointer (some ⟨d, 0, none⟩), .agg #[.int .i64 q.a, .int .i64 q.b, .int .i64 q.c]] W fun e w' => e = .returned (.int .i64 ((scanD q L).length : Nat)) ∧ Below W.heap.size W w' :=
  (scount_any hS hm q).mono fun e w' ⟨⟨xs, h1, h2⟩, hb⟩ => ⟨by rw [← told_scan h1 hp hn]; exact h2, hb⟩
end
theorem fb_three {w : World} {g i : Nat} {p : Kt} (h : Fb w g 31 #[.int .i64 p.a, .int .i64 p.b, .int .i64 p.c]) (hi : i < 3) : w.cell? ⟨g, i, none⟩ = some (.int .i64 (cK i p)) := by
  obtain rfl | rfl | rfl : i = 0 ∨ i = 1 ∨ i = 2 := by omega
  · exact h.cell 0
  · exact h.cell 1
  · exact h.cell 2
theorem fb_setK {w : World} {g i : Nat} {p : Kt} (x : Int) (h : Fb w g 31 #[.int .i64 p.a, .int .i64 p.b, .int .i64 p.c]) (hi : i < 3) : Fb (w.setCell ⟨g, i, none⟩ (.int .i64 x)) g 31 #[.int .i64 (setK i p x).a, .int .i64 (setK i p x).b, .int .i64 (setK i p x).c] := by
  have hf := h.set i (.int .i64 x)
  obtain rfl | rfl | rfl : i = 0 ∨ i = 1 ∨ i = 2 := by omega
  · exact hf
  · exact hf
  · exact hf
theorem arr_setK {j : Nat} {p : Kt} (n : Int) (hj : j < 3) : ([Value.int .i64 p.a, Value.int .i64 p.b, Value.int .i64 p.c].set j (Value.int .i64 n)).toArray = #[.int .i64 (setK j p n).a, .int .i64 (setK j p n).b, .int .i64 (setK j p n).c] := by
  obtain rfl | rfl | rfl : j = 0 ∨ j = 1 ∨ j = 2 := by omega
  · rfl
  · rfl
  · rfl
theorem setK_setK (i : Nat) (p : Kt) (x y : Int) : setK i (setK i p x) y = setK i p y := by
  match i with
  | 0 => rfl
  | 1 => rfl
  | _ + 2 => rfl
theorem cK_setK {i : Nat} (hi : i < 3) (p : Kt) (x : Int) : cK i (setK i p x) = x := by
  obtain rfl | rfl | rfl : i = 0 ∨ i = 1 ∨ i = 2 := by omega
  · rfl
  · rfl
  · rfl
theorem nn_cK {k : Kt} (h : nnK k) (i : Nat) : 0 ≤ cK i k := by
  match i with
  | 0 => exact h.1
  | 1 => exact h.2.1
  | _ + 2 => exact h.2.2
theorem addR_perm {m L : List Kt} {x : Kt} (h : L.Perm m) (hn : ∀ k ∈ m, nnK k) : (addD 50 L x).1.Perm (addR 50 m x).1 ∧ ∀ k ∈ (addR 50 m x).1, nnK k := ⟨(add_both h x).1, addR_nn hn⟩
theorem sIntInfo : (Try.prog.info? 3).map (fun i => (i.zero, i.size, i.bytes)) = some (some (.int .i64 0), 1, 8) := by kernel_rfl
/-- A row of integers. -/
def TmR (B : Nat) (W : World) (v : Value) (l : List Int) : Prop := W.ownsRow B 3 1 v l.length (l.map (Value.int .i64))
theorem tmR_nil (B : Nat) (W : World) : TmR B W (.slice none 0 0) [] := World.ownsRow_nil _ _ _ _
theorem TmR.below {B : Nat} {W W' : World} {v : Value} {l : List Int} (h : TmR B W v l) (hb : Below W.heap.size W W') : TmR B W' v l := row_below h hb
theorem TmR.shape {B : Nat} {W : World} {v : Value} {L : List Int} (h : TmR B W v L) : ∃ A c, v = .slice A L.length c := by
  obtain ⟨A, c, hv, _⟩ := row_shape h
  exact ⟨A, c, hv⟩
theorem TmR.at {B : Nat} {W : World} {A : Option Addr} {c : Nat} {L : List Int} (h : TmR B W (.slice A L.length c) L) {i : Nat} {x : Int} (hx : L[i]? = some x) : ∃ g, A = some ⟨g, 0, none⟩ ∧ g < W.heap.size ∧ W.cell? ⟨g, i, none⟩ = some (.int .i64 x) := by
  have hn : 0 < L.length := by have := (List.getElem?_eq_some_iff.1 hx).1; omega
  obtain ⟨g, cap, hv⟩ := Joins.ownsRow_form h hn
  injection hv with h1 h2 h3
  subst h1
  refine ⟨g, rfl, (World.ownsRow.lt h g rfl).2, ?_⟩
  have := World.ownsRow.cells h (g := g) rfl i (.int .i64 x) (by rw [List.getElem?_map, hx]; rfl)
  have e : (⟨g, 0, none⟩ : Addr).add i = ⟨g, i, none⟩ := by cases i <;> simp [Addr.add]
  rwa [e] at this
theorem ints_one (l : List Int) : ∀ u ∈ l.map (Value.int .i64), u.oneCell' = true := fun u hu => by
  obtain ⟨x, _, rfl⟩ := List.mem_map.1 hu
  rfl
theorem tmR_one {W : World} (x : Int) : TmR W.heap.size (W.alloc (.cells #[.int .i64 x] 3)) (.slice (some ⟨W.heap.size, 0, none⟩) 1 1) [x] := ⟨by simp, .inr ⟨W.heap.size, 1, _, rfl, Nat.le_refl _, heap_alloc_new _ _, Nat.le_refl _, by decide, by simp, by simp⟩⟩
theorem wpList_app_ints {ops : Array Oper} {o : Oper} {a : Act} {w : World} {rest : List Oper} {Q : Exit → Act → World → Prop} (hgd : o.guard = none) (s x : Operand) (ho : o.op = .call { callee := .builtin .append, args := #[s, x], argTypes := #[46, 46] })
    {B N : Nat} {v u : Value} {l new : List Int} (hs : a.eval s = v) (hx : a.eval x = u) (hv : TmR B w v l) (hu : TmR N w u new) (hz : l.length + new.length ≤ 100000) (hB : B ≤ w.heap.size)
    (h : ∀ v' w', TmR B w' v' (l ++ new) → w.grownBy w' v.ownBlock → (∀ k, v'.ownBlock = some k → v.ownBlock = some k ∨ w.heap.size ≤ k) → wpList Try.prog ops Q rest (a.put o.dst v') w') : wpList Try.prog ops Q (o :: rest) a w := by
  obtain ⟨iT, hT0, hT1, hT2, hT3⟩ := info_parts sIntInfo
  refine wpList_plain hgd fun _ hK => ?_
  refine wp_app_any s x 46 ho 3 iT (.int .i64 0) 1 8 Try.underlying46 hT0 hT1 hT2 hT3 rfl (by decide) (by decide) hs hx hv hu (ints_one _) hz hB fun v' w' h1 h2 h3 => hK _ _ (h v' w' ?_ h2 h3)
  unfold TmR
  rw [List.length_append, List.map_append]
  exact h1
theorem tmR_far {B : Nat} {W W' : World} {u : Value} {S : List Int} {g : Nat} {t : TypeId} {cs : Array Value} (hu : TmR B W u S) (hg : W.grownBy W' u.ownBlock) (hf : Fb W g t cs) (hne : t ≠ 3) : Fb W' g t cs := by
  refine (hg.block g hf.lt fun e => ?_).trans hf
  obtain ⟨cur, hc⟩ := row_block hu e.symm
  unfold Fb at hf
  rw [hf] at hc
  injection hc with hc
  injection hc with _ hc
  exact hne hc
/-- A row of integers grows: all else is as it was. -/
theorem Su.grown {w : World} {B d gp gm : Nat} {p : Kt} {m L : List Kt} {A : Option Addr} {c : Nat} {W W' : World} {u : Value} {S : List Int} (h : Su w B d gp gm p m L A c W) (hg : W.grownBy W' u.ownBlock) (hu : TmR B W u S) : Su w B d gp gm p m L A c W' := by
  have hb : ∀ (q : Nat) (t : TypeId) (cs : Array Value), W.heap[q]? = some (Obj.cells cs t (0, 0)) → t ≠ 3 → W'.heap[q]? = some (Obj.cells cs t (0, 0)) := fun q t cs hq hne => by
    refine (hg.block q (Array.getElem?_eq_some_iff.1 hq).1 fun e => ?_).trans hq
    obtain ⟨cur, hc⟩ := row_block hu e.symm
    rw [hq] at hc
    injection hc with hc
    injection hc with _ hc
    exact hne hc
  have hwB := h.wB
  have hlt : ∀ k, u.ownBlock = some k → B ≤ k := fun k hk => (World.ownsRow.lt hu k hk).1
  have hbw : Below w.heap.size w W' := h.b.grown hg h.b.size (fun k hk => Nat.le_trans hwB (hlt k hk))
  have hS : Sx B d 50 (m.length : Int) m m m W' := by
    cases hk : u.ownBlock with
    | none => rw [hk] at hg; exact h.sx.below ⟨hg.os, hg.tape, hg.output, hg.size, fun q hq => hg.block q hq (by simp)⟩
    | some k =>
      obtain ⟨cur, hc⟩ := row_block hu hk
      rw [hk] at hg
      exact h.sx.far (gn := k) (t := 3) (cs := cur) hc (by decide) (by decide) (by decide) (fun q hq hn => hg.block q hq (fun e => hn (Option.some.inj e)))
  exact ⟨hbw, hS, hb _ _ _ h.px (by decide), hb _ _ _ h.mx (by decide), row_heapB h.mr (fun g cur _ e => hb _ _ _ e (by decide)), h.hm, h.hp, h.hB⟩
end Go.Proofs.Ytoiigplflmejmaa
