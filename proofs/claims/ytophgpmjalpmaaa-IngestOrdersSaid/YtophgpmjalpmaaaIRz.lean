/-
  A BUFFER, A ROW OF ITEMS THAT WERE TAKEN, A ROW OF TIMES THAT CAME IN: for IngestRises.
-/
import Derived.Test.YtophgpmjalpmaaaIRun
import Derived.Laws.MakeOwn
namespace Go.Proofs.Ytophgpmjalpmaaa
open Go.RowKit
set_option linter.unusedVariables false
set_option linter.unusedSimpArgs false
set_option maxRecDepth 100000

/-! ### Two rows of items joined by append -/
theorem app_none (iT : TypeInfo) (hT0 : Try.prog.info? 51 = some iT) (A A' : Option Addr) (n c c' : Nat) (hc : n ≤ c) (ty : TypeId) (w : World) : (Builtin.append_ #[44, 44] ty #[.slice A n c, .slice A' 0 c']).run Try.prog w = .ok (.slice A n c) w := by
  cases A <;> cases A' <;> simp [Builtin.append_, run_underlying Try.underlying44, sizeOf, typeInfo, hT0, Builtin.lenOf, Builtin.firstCells, loadCells, loadCellsFrom, storeCells, hc]
theorem c5_one (l : List It) : ∀ u ∈ l.flatMap c5, u.oneCell' = true := fun u hu => by
  obtain ⟨x, _, hx⟩ := List.mem_flatMap.1 hu
  unfold c5 at hx
  simp only [List.mem_cons, List.not_mem_nil, or_false] at hx
  rcases hx with rfl | rfl | rfl | rfl | rfl <;> rfl
theorem wpList_app_items {ops : Array Oper} {rest : List Oper} {o : Oper} {a : Act} {Q : Exit → Act → World → Prop} {w : World} (hgd : o.guard = none) (s x : Operand) (ho : o.op = .call { callee := .builtin .append, args := #[s, x], argTypes := #[44, 44] })
    {B N : Nat} {v u : Value} {out new : List It} (hs : a.eval s = v) (hx : a.eval x = u) (hv : ItR B w v out) (hu : ItR N w u new) (hz : out.length + new.length ≤ 100000) (hB : B ≤ w.heap.size)
    (h : ∀ v' w', ItR B w' v' (out ++ new) → w.grownBy w' v.ownBlock → (∀ k, v'.ownBlock = some k → v.ownBlock = some k ∨ w.heap.size ≤ k) → wpList Try.prog ops Q rest (a.put o.dst v') w') : wpList Try.prog ops Q (o :: rest) a w := by
  obtain ⟨iT, hT0, hT1, hT2, hT3⟩ := info_parts itInfo
  cases new with
  | nil =>
    refine wpList_plain hgd fun _ hK => ?_
    obtain ⟨A', c', rfl⟩ := hu.shape
    obtain ⟨A, c, rfl⟩ := hv.shape
    have hc : out.length ≤ c := by
      rcases id hv.2 with ⟨e, h0⟩ | ⟨g, cap, cur, e, _, _, hc, _⟩
      · omega
      · injection e with _ _ e
        omega
    unfold Oper.wp execOp
    simp only [ho, resolve, invoke, builtin, Sem.run_bind, Sem.run_pure, Result.andThen_ok, List.map_toArray, List.map_cons, List.map_nil, hs, hx, List.length_nil, app_none iT hT0 A A' out.length c c' hc]
    exact hK _ _ (h _ _ (by rw [List.append_nil]; exact hv) ⟨rfl, rfl, rfl, Nat.le_refl _, fun _ _ _ => rfl⟩ fun k hk => .inl hk)
  | cons y new =>
    obtain ⟨g, c, rfl, _, _, _⟩ := hu.full (by simp)
    refine wpList_append_lies _ hgd s x 44 ho B 51 iT (.agg #[.int .i64 0, .int .i64 0, .int .i64 0, .int .i64 0, .int .i64 0]) 5 40 Try.underlying44 hT0 hT1 hT2 hT3 rfl (by decide) v out.length (out.flatMap c5) hs hv ⟨g, 0, none⟩ (y :: new).length c ((y :: new).flatMap c5) hx hu.1 (World.ownsRow.cells hu (g := g) rfl) (c5_one _) (by simp) (by unfold maxLen; omega) (by omega) hB _ rfl ?_
    intro g6 c6 w6 hown hgrow hloc hlt
    refine h _ _ ?_ hgrow fun k hk => ?_
    · unfold ItR
      rw [List.length_append, List.flatMap_append]
      exact hown
    · have e : some g6 = some k := hk
      injection e with e
      subst e
      rcases hloc with y | y
      · exact .inl y
      · right; omega
/-! ### The world of the law -/
theorem int_ne_item : 3 ≠ 51 := by decide
theorem int_ne_buf : 3 ≠ 67 := by decide
def TmR (B : Nat) (W : World) (v : Value) (L : List Int) : Prop := W.ownsRow B 3 1 v L.length (L.map (Value.int .i64))
theorem TmR.shape {B : Nat} {W : World} {v : Value} {L : List Int} (h : TmR B W v L) : ∃ A c, v = .slice A L.length c := by
  rcases id h.2 with ⟨hv, hl⟩ | ⟨g, cap, cur, hv, _⟩
  · exact ⟨none, 0, by rw [hv, hl]⟩
  · exact ⟨_, cap, hv⟩
theorem TmR.at {B : Nat} {W : World} {v : Value} {L : List Int} (h : TmR B W v L) {i : Nat} {x : Int} (hi : L[i]? = some x) : ∃ g cap, v = .slice (some ⟨g, 0, none⟩) L.length cap ∧ W.cell? ⟨g, i, none⟩ = some (.int .i64 x) := by
  rcases id h.2 with ⟨hv, hl⟩ | ⟨g, cap, cur, hv, _⟩
  · have := (List.getElem?_eq_some_iff.1 hi).1
    omega
  · refine ⟨g, cap, hv, ?_⟩
    have := World.ownsRow.cells h (g := g) (by rw [hv]; rfl) i (.int .i64 x) (by rw [List.getElem?_map, hi]; rfl)
    rwa [at_add, Nat.zero_add] at this
structure Rz (w1 : World) (d : Nat) (s : Bs) (v : Value) (l : List It) (vo : Value) (out : List It) (vc : Value) (came : List Int) (W : World) : Prop where
  rn : Rn w1 d s v l W
  ro : ItR w1.heap.size W vo out
  rc : TmR w1.heap.size W vc came
  ap : ∀ k, vo.ownBlock = some k → v.ownBlock ≠ some k
section
variable {w1 W : World} {d : Nat} {s : Bs} {v : Value} {l : List It} {vo : Value} {out : List It} {vc : Value} {came : List Int}
theorem Rz.below {W' : World} (h : Rz w1 d s v l vo out vc came W) (hb : Below W.heap.size W W') : Rz w1 d s v l vo out vc came W' := ⟨h.rn.below hb, h.ro.below hb, row_below h.rc hb, h.ap⟩
theorem item_ne_d (hb : Bc w1.heap.size d s v l W) {B : Nat} (hr : ItR B W vo out) : vo.ownBlock ≠ some d := fun e => by
  obtain ⟨cur, hc⟩ := row_block hr e
  have := hb.st
  unfold Fb at this
  rw [hc] at this
  injection this with this
  injection this with _ this
  exact buf_ne this.symm
theorem time_ne {B B' : Nat} {ty : TypeId} {z n : Nat} {u : Value} {xs : List Value} (hc : TmR B W vc came) (hr : W.ownsRow B' ty z u n xs) (ht : 3 ≠ ty) : ∀ k, vc.ownBlock = some k → u.ownBlock ≠ some k := fun k h1 h2 => by
  obtain ⟨cur, hc⟩ := row_block hc h1
  obtain ⟨cur2, hc2⟩ := row_block hr h2
  rw [hc] at hc2
  injection hc2 with hc2
  injection hc2 with _ hc2
  exact ht hc2
theorem time_ne_d (hb : Bc w1.heap.size d s v l W) {B : Nat} (hc : TmR B W vc came) : vc.ownBlock ≠ some d := fun e => by
  obtain ⟨cur, hc⟩ := row_block hc e
  have := hb.st
  unfold Fb at this
  rw [hc] at this
  injection this with this
  injection this with _ this
  exact int_ne_buf this
theorem row_kept_tn {v' : Value} {W' : World} (ht : Tn d v v' W W') {B : Nat} {ty : TypeId} {z n : Nat} {u : Value} {xs : List Value} (hr : W.ownsRow B ty z u n xs) (h1 : u.ownBlock ≠ some d) (h2 : ∀ k, u.ownBlock = some k → v.ownBlock ≠ some k) : W'.ownsRow B ty z u n xs := by
  refine ⟨hr.1, ?_⟩
  rcases id hr.2 with hn | ⟨g, cap, cur, hu, hge, hg, rest⟩
  · exact .inl hn
  · exact .inr ⟨g, cap, cur, hu, hge, (ht.block g (Array.getElem?_eq_some_iff.1 hg).1 (fun e => h1 (by rw [hu, ← e]; rfl)) (h2 g (by rw [hu]; rfl))).trans hg, rest⟩
/-- A call on the buffer. -/
theorem Rz.turn (h : Rz w1 d s v l vo out vc came W) {s' : Bs} {v' : Value} {l' : List It} {W' : World} (ht : Tn d v v' W W') (hr : Rn w1 d s' v' l' W') : Rz w1 d s' v' l' vo out vc came W' := by
  refine ⟨hr, row_kept_tn ht h.ro (item_ne_d h.rn.bc h.ro) h.ap, row_kept_tn ht h.rc (time_ne_d h.rn.bc h.rc) (fun k hk => time_ne h.rc h.rn.bc.row int_ne_item k hk), fun k hk e => ?_⟩
  rcases ht.far k e with x | x
  · exact h.ap k hk x
  · have := (World.ownsRow.lt h.ro k hk).2
    omega
/-- The row of items grows. -/
theorem Rz.more (h : Rz w1 d s v l vo out vc came W) {vo' : Value} {out' : List It} {W' : World} (hr : ItR w1.heap.size W' vo' out') (hg : W.grownBy W' vo.ownBlock) (hf : ∀ k, vo'.ownBlock = some k → vo.ownBlock = some k ∨ W.heap.size ≤ k) : Rz w1 d s v l vo' out' vc came W' := by
  have hne := item_ne_d h.rn.bc h.ro
  have hge := fun k hk => (World.ownsRow.lt h.ro k hk).1
  refine ⟨⟨⟨(hg.block d h.rn.bc.lt (fun e => hne e.symm)).trans h.rn.bc.st, ?_, h.rn.bc.gd⟩, h.rn.b.grown hg h.rn.b.size hge, h.rn.hp⟩, hr, ?_, fun k hk e => ?_⟩
  · refine World.ownsRow.kept h.rn.bc.row hg ?_
    cases hv : v.ownBlock with
    | none => exact .inl rfl
    | some k => exact .inr fun e => h.ap k e.symm hv
  · refine World.ownsRow.kept h.rc hg ?_
    cases hv : vc.ownBlock with
    | none => exact .inl rfl
    | some k => exact .inr fun e => time_ne h.rc h.ro int_ne_item k hv e.symm
  · rcases hf k hk with x | x
    · exact h.ap k x e
    · have := (h.rn.bc.row_ge e).2
      omega
/-- The row of times grows. -/
theorem Rz.time (h : Rz w1 d s v l vo out vc came W) {vc' : Value} {came' : List Int} {W0 W' : World} (h0 : Below W.heap.size W W0) (hr : TmR w1.heap.size W' vc' came') (hg : W0.grownBy W' vc.ownBlock) : Rz w1 d s v l vo out vc' came' W' := by
  have h := h.below h0
  have hne := time_ne_d h.rn.bc h.rc
  have hge := fun k hk => (World.ownsRow.lt h.rc k hk).1
  refine ⟨⟨⟨(hg.block d h.rn.bc.lt (fun e => hne e.symm)).trans h.rn.bc.st, ?_, h.rn.bc.gd⟩, h.rn.b.grown hg h.rn.b.size hge, h.rn.hp⟩, ?_, hr, h.ap⟩
  · refine World.ownsRow.kept h.rn.bc.row hg ?_
    cases hv : v.ownBlock with
    | none => exact .inl rfl
    | some k => exact .inr fun e => time_ne h.rc h.rn.bc.row int_ne_item k e.symm hv
  · refine World.ownsRow.kept h.ro hg ?_
    cases hv : vo.ownBlock with
    | none => exact .inl rfl
    | some k => exact .inr fun e => time_ne h.rc h.ro int_ne_item k e.symm hv
end
end Go.Proofs.Ytophgpmjalpmaaa
