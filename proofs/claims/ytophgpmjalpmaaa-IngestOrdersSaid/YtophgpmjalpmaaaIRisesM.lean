/-
  IngestRises: the second loop's facts.
-/
import Derived.Test.YtophgpmjalpmaaaIRisesL
import Derived.Laws.OwnMore
namespace Go.Proofs.Ytophgpmjalpmaaa
open Go.RowKit
set_option linter.unusedVariables false
set_option linter.unusedSimpArgs false
set_option maxRecDepth 100000

/-- Which numbers were seen. -/
def SnR (g n : Nat) (o : List It) (i : Nat) (W : World) : Prop := ∃ cs, Fb W g 4 cs ∧ cs.size = n ∧ ∀ k : Nat, k < n → cs[k]? = some (.bool ((o.take i).any fun x => decide (x.s = (k : Int))))
theorem boolInfo : (Try.prog.info? 4).map (fun i => (i.zero, i.size, i.bytes)) = some (some (.bool false), 1, 1) := by kernel_rfl
theorem mk_bools (n : Nat) (hn : n ≤ 1000) (W : World) : (Instr.makeSlice 49 (.int .i64 n) (.int .i64 n)).run Try.prog W = .ok (.slice (some ⟨W.heap.size, 0, none⟩) n n) (W.alloc (.cells (madeCells #[.bool false] n) 4)) := by
  obtain ⟨i0, hi, hz0, hz1, hz2⟩ := info_parts boolInfo
  have h := run_make (P := Try.prog) (w := W) 49 4 i0 (.bool false) Try.underlying49 hi hz0 .i64 .i64 (n : Int) (n : Int) (by omega) (by omega) (by rw [hz2]; omega) (by omega)
  rw [hz1, show ((n : Int)).toNat = n by omega, Nat.mul_one] at h
  exact h
theorem SnR.start (W : World) (n : Nat) (o : List It) : SnR W.heap.size n o 0 (W.alloc (.cells (madeCells #[.bool false] n) 4)) := by
  refine ⟨_, Fb.new _ _ _, size_madeCells _ _, fun k hk => ?_⟩
  have h := toList_madeCells_one (.bool false) n
  rw [← Array.getElem?_toList, h, List.getElem?_replicate, if_pos hk]
  rfl
theorem SnR.below {g n i : Nat} {o : List It} {W W' : World} (h : SnR g n o i W) (hb : Below W.heap.size W W') : SnR g n o i W' := by
  obtain ⟨cs, h1, h2, h3⟩ := h
  exact ⟨cs, h1.below hb, h2, h3⟩
theorem SnR.step {g n i : Nat} {o : List It} {W : World} (h : SnR g n o i W) {x : It} (hx : o[i]? = some x) {k0 : Nat} (hk0 : x.s = (k0 : Int)) (hkn : k0 < n) : SnR g n o (i + 1) (W.setCell ⟨g, k0, none⟩ (.bool true)) := by
  obtain ⟨cs, h1, h2, h3⟩ := h
  refine ⟨_, h1.set k0 _, by simpa using h2, fun k hk => ?_⟩
  have ht : o.take (i + 1) = o.take i ++ [x] := by rw [List.take_add_one, hx]; rfl
  rw [ht, List.any_append, Array.getElem?_setIfInBounds]
  by_cases e : k0 = k
  · subst e
    rw [if_pos rfl, if_pos (by omega)]
    simp [hk0]
  · rw [if_neg e, h3 k hk]
    have : ¬ (x.s = (k : Int)) := by omega
    simp [this]
theorem not_seen {o : List It} (hn : (o.map It.s).Nodup) {i : Nat} {x : It} (hx : o[i]? = some x) : (o.take i).any (fun y => decide (y.s = x.s)) = false := by
  rw [Bool.eq_false_iff]
  intro h
  obtain ⟨y, hy, he⟩ := List.any_eq_true.1 h
  have he := of_decide_eq_true he
  have e : o = o.take i ++ x :: o.drop (i + 1) := by
    have h1 := List.take_append_drop i o
    rw [List.drop_eq_getElem?_toList_append, hx] at h1
    exact h1.symm
  rw [e, List.map_append, List.map_cons, List.nodup_append] at hn
  exact hn.2.2 y.s (List.mem_map_of_mem hy) x.s List.mem_cons_self he
theorem perm_nodup {o : List It} {came : List Int} (h : o.Perm (mkI came)) : (o.map It.s).Nodup := (h.map It.s).nodup_iff.2 (mkI_nodup came)
theorem ord_at {o : List It} (h : Ord o) {p i : Nat} {y x : It} (hy : o[p]? = some y) (hx : o[i]? = some x) (hlt : p < i) : LeI y x := by
  obtain ⟨hp, rfl⟩ := List.getElem?_eq_some_iff.1 hy
  obtain ⟨hi, rfl⟩ := List.getElem?_eq_some_iff.1 hx
  exact List.pairwise_iff_getElem.1 h p i hp hi hlt
theorem SnR.cells {g n i : Nat} {o : List It} {W : World} (h : SnR g n o i W) {k : Nat} (hk : k < n) : W.cell? ⟨g, k, none⟩ = some (.bool ((o.take i).any fun x => decide (x.s = (k : Int)))) ∧ W.frozen? ⟨g, k, none⟩ = false ∧ g < W.heap.size := by
  obtain ⟨cs, h1, h2, h3⟩ := h
  exact ⟨(h1.cell k).trans (h3 k hk), h1.free k, h1.lt⟩
/-- The second loop. -/
def SoRel (W6 : World) (gs n : Nat) (o : List It) (g : Nat) (s74 : Value) (wr : World) : Prop := ∃ i : Nat, i + g = o.length ∧ s74 = .int .i64 i ∧ Below W6.heap.size W6 wr ∧ SnR gs n o i wr
theorem SnR.drewN {g n i : Nat} {o : List It} {W : World} (h : SnR g n o i W) (q : Nat) : SnR g n o i (W.drewN q) := h
theorem below_drewN {B : Nat} {W0 W : World} (h : Below B W0 W) (q : Nat) : Below B W0 (W.drewN q) := ⟨h.os, h.tape, h.output, h.size, h.block⟩
theorem SoRel.step {W6 : World} {gs n : Nat} {o : List It} {i : Nat} {wr : World} (hb : Below W6.heap.size W6 wr) (hs : SnR gs n o i wr) (hg : W6.heap.size ≤ gs) {x : It} (hx : o[i]? = some x) {k0 : Nat} (hk0 : x.s = (k0 : Int)) (hkn : k0 < n) (ob : Obj) (q : Nat) :
    (Below W6.heap.size W6 (((wr.setCell ⟨gs, k0, none⟩ (.bool true)).alloc ob).drewN q) ∧ SnR gs n o (i + 1) (((wr.setCell ⟨gs, k0, none⟩ (.bool true)).alloc ob).drewN q)) ∧ (Below W6.heap.size W6 (((wr.alloc ob).drewN q).setCell ⟨gs, k0, none⟩ (.bool true)) ∧ SnR gs n o (i + 1) (((wr.alloc ob).drewN q).setCell ⟨gs, k0, none⟩ (.bool true))) := by
  have h1 := Below.setCell hb (p := ⟨gs, k0, none⟩) hg (.bool true)
  refine ⟨⟨below_drewN (h1.alloc h1.size _) q, ((hs.step hx hk0 hkn).below ((Below.refl _ _).alloc (Nat.le_refl _) _)).drewN q⟩, ⟨Below.setCell (below_drewN (hb.alloc hb.size _) q) (p := ⟨gs, k0, none⟩) hg _, ((hs.below ((Below.refl _ _).alloc (Nat.le_refl _) _)).drewN q).step hx hk0 hkn⟩⟩
end Go.Proofs.Ytophgpmjalpmaaa
