/-
  StoreAgrees: the store, the key's box, between two acts; what an add makes of the keys.
-/
import Derived.Test.YtoiigplflmejmaaSScan
import Derived.Test.YtoiigplflmejmaaSActs
import Derived.Test.YtoiigplflmejmaaSPut
namespace Go.Proofs.Ytoiigplflmejmaa
open Go.RowKit
set_option linter.unusedVariables false
set_option linter.unusedSimpArgs false
set_option maxRecDepth 100000

set_option maxHeartbeats 4000000 in
theorem eqArr2 (x y : Kt) (w : World) : (binOp .eql 31 (.agg #[.int .i64 x.a, .int .i64 x.b, .int .i64 x.c]) (.agg #[.int .i64 y.a, .int .i64 y.b, .int .i64 y.c])).run Try.prog w = .ok (.bool (decide (x = y))) w := by
  have hd : decide (x = y) = (decide (x.a = y.a) && (decide (x.b = y.b) && decide (x.c = y.c))) := by
    by_cases h : x = y
    · subst h; simp
    · have : ¬ (x.a = y.a ∧ x.b = y.b ∧ x.c = y.c) := fun ⟨h1, h2, h3⟩ => h (by cases x; cases y; simp at h1 h2 h3; rw [h1, h2, h3])
      rw [decide_eq_false h]
      by_cases h1 : x.a = y.a <;> by_cases h2 : x.b = y.b <;> by_cases h3 : x.c = y.c <;> simp_all
  rw [hd]
  obtain ⟨i, hi⟩ := infoInt
  have hs : Try.prog.cellsOf 3 = 1 := by kernel_rfl
  have hu : Try.prog.underlying 31 = some (.array 3 3) := by kernel_rfl
  have hB := fun w => (run_equalIn_array (w := w) 9999 #[.int .i64 x.a, .int .i64 x.b, .int .i64 x.c] #[.int .i64 y.a, .int .i64 y.b, .int .i64 y.c] hu hi)
  rw [hs] at hB
  generalize x.a = xa at *
  generalize x.b = xb at *
  generalize x.c = xc at *
  generalize y.a = ya at *
  generalize y.b = yb at *
  generalize y.c = yc at *
  simp only [show List.range 3 = [0, 1, 2] by decide, Op.eqItems] at hB
  clear hd
  by_cases h1 : xa = ya
  · subst h1
    by_cases h2 : xb = yb
    · subst h2
      by_cases h3 : xc = yc
      · subst h3
        simp only [decide_true, Bool.and_self]
        go_simp
      · have m3 : (xc == yc) = false := by rw [beq_eq_false_iff_ne]; exact h3
        simp only [decide_true, Bool.true_and, decide_eq_false h3]
        go_simp
    · have m2 : (xb == yb) = false := by rw [beq_eq_false_iff_ne]; exact h2
      simp only [decide_true, Bool.true_and, decide_eq_false h2, Bool.false_and]
      go_simp
  · have m1 : (xa == ya) = false := by rw [beq_eq_false_iff_ne]; exact h1
    simp only [decide_eq_false h1, Bool.false_and]
    go_simp
theorem sx_new {B d : Nat} {room : Int} {W : World} (h : Fb W d 60 (stc room 0 nl nl nl 1 2)) (hd : B ≤ d) : Sx B d room (([] : List Kt).length : Int) [] [] [] W :=
  ⟨nl, nl, nl, [], [], [], [], [], [], h, hd, ⟨h.cell 2, h.cell 3, .inl ⟨rfl, ⟨none, 0, rfl⟩, rfl⟩⟩, ⟨h.cell 4, h.cell 5, .inl ⟨rfl, ⟨none, 0, rfl⟩, rfl⟩⟩, ⟨h.cell 6, h.cell 7, .inl ⟨rfl, ⟨none, 0, rfl⟩, rfl⟩⟩, .refl _, .refl _, .refl _, fun q h => (by cases h), fun q h => (by cases h), fun q h => (by cases h)⟩
def nnK (k : Kt) : Prop := 0 ≤ k.a ∧ 0 ≤ k.b ∧ 0 ≤ k.c
theorem addR_len {room : Int} {m : List Kt} {k : Kt} : (addR room m k).1.length ≤ m.length + 1 := by
  unfold addR; split
  · exact Nat.le_succ _
  · split
    · exact Nat.le_succ _
    · split
      · exact Nat.le_succ _
      · exact Nat.le_refl _
theorem addR_nn {room : Int} {m : List Kt} {k : Kt} (h : ∀ x ∈ m, nnK x) : ∀ x ∈ (addR room m k).1, nnK x := by
  unfold addR; split
  · exact h
  · rename_i hk
    split
    · exact h
    · split
      · exact h
      · intro x hx
        rcases List.mem_cons.1 hx with rfl | hx
        · unfold nnK; omega
        · exact h x hx
theorem addR_mem {room : Int} {m : List Kt} {x k : Kt} (hr : (m.length : Int) < room) : k ∈ (addR room m x).1 ↔ k ∈ m ∨ (x = k ∧ nnK k) := by
  unfold addR
  by_cases h1 : x.a < 0 ∨ x.b < 0 ∨ x.c < 0
  · rw [if_pos h1]
    refine ⟨.inl, fun h => h.elim id fun ⟨e, h2⟩ => ?_⟩
    subst e; unfold nnK at h2; omega
  · rw [if_neg h1]
    by_cases h2 : x ∈ m
    · rw [if_pos h2]
      exact ⟨.inl, fun h => h.elim id fun ⟨e, _⟩ => e ▸ h2⟩
    · rw [if_neg h2, if_neg (by omega)]
      refine ⟨fun h => ?_, fun h => ?_⟩
      · rcases List.mem_cons.1 h with rfl | h
        · exact .inr ⟨rfl, by unfold nnK; omega⟩
        · exact .inl h
      · rcases h with h | ⟨e, _⟩
        · exact .tail _ h
        · rw [e]; exact .head _
/-- The store, and the key's box. -/
structure Sg (w : World) (B d gk : Nat) (k : Kt) (m : List Kt) (W : World) : Prop where
  b : Below w.heap.size w W
  sx : Sx B d 50 (m.length : Int) m m m W
  kx : Fb W gk 31 #[.int .i64 k.a, .int .i64 k.b, .int .i64 k.c]
  nn : ∀ x ∈ m, nnK x
section
variable {w : World} {B d gk : Nat} {k : Kt} {m : List Kt}
theorem Sg.below {W W' : World} (h : Sg w B d gk k m W) (hb : Below W.heap.size W W') : Sg w B d gk k m W' := ⟨h.b.trans (hb.mono h.b.size), h.sx.below hb, h.kx.below hb, h.nn⟩
theorem Sg.alloc {W : World} (h : Sg w B d gk k m W) (o : Obj) : Sg w B d gk k m (W.alloc o) := h.below ((Below.refl _ _).alloc (Nat.le_refl _) o)
theorem Sg.add {W W' : World} {x : Kt} {e : Ending} (h : Sg w B d gk k m W) (hB : w.heap.size ≤ B) (ha : SaddP B d 50 W (addR 50 m x) e W') : Sg w B d gk k (addR 50 m x).1 W' := by
  obtain ⟨_, h1, h2⟩ := ha
  exact ⟨⟨h2.os.trans h.b.os, h2.tape.trans h.b.tape, h2.output.trans h.b.output, Nat.le_trans h.b.size h2.size, fun q hq => (h2.low q (Nat.lt_of_lt_of_le hq hB)).trans (h.b.block q hq)⟩, h1, h2.keep h.kx (by decide) (by decide) (by decide), addR_nn h.nn⟩
theorem Sg.c {W : World} (h : Sg w B d gk k m W) : W.cell? ⟨gk, 0, none⟩ = some (.int .i64 k.a) ∧ W.cell? ⟨gk, 1, none⟩ = some (.int .i64 k.b) ∧ W.cell? ⟨gk, 2, none⟩ = some (.int .i64 k.c) := ⟨h.kx.cell 0, h.kx.cell 1, h.kx.cell 2⟩
/-- Behind a scan. -/
theorem Sg.scan {W W' : World} {gn : Nat} {y : Int} {cs : Array Value} (h : Sg w B d gk k m W) (hc : Cn gn y W W') (hn : Fb W gn 3 cs) (hw : w.heap.size ≤ gn) : Sg w B d gk k m W' := by
  have hk : gk ≠ gn := fb_ty_ne h.kx hn (by decide)
  refine ⟨⟨hc.os.trans h.b.os, hc.tape.trans h.b.tape, hc.output.trans h.b.output, Nat.le_trans h.b.size hc.size, fun q hq => (hc.block q (Nat.lt_of_lt_of_le hq h.b.size) (by omega)).trans (h.b.block q hq)⟩, ?_, (hc.block gk h.kx.lt hk).trans h.kx, h.nn⟩
  obtain ⟨x0, x1, x2, l0, l1, l2, F0, F1, F2, s⟩ := h.sx
  have hd : d ≠ gn := fb_ty_ne s.fb hn (by decide)
  have hl : ∀ {o : Nat} {nn : Int} {x : Value} {l : List Kt} {F : List Nat}, Lx B W d o nn x l F → Lx B W' d o nn x l F := fun {o nn x l F} hx =>
    hx.keep (World.cell?_of_block (w := W) (hc.block d s.fb.lt hd)) (World.cell?_of_block (w := W) (hc.block d s.fb.lt hd)) (fun q hq => hc.block q (hx.ge q hq).2 (lx_ne hx hn q hq))
  exact ⟨x0, x1, x2, l0, l1, l2, F0, F1, F2, (hc.block d s.fb.lt hd).trans s.fb, s.hd, hl s.a0, hl s.a1, hl s.a2, s.p0, s.p1, s.p2, s.d01, s.d02, s.d12⟩
end
/-- How often the key is told by a pattern that it fits. -/
theorem scan_count {B d gk gn : Nat} {k p : Kt} {m : List Kt} {w W W' : World} (h : Sg w B d gk k m W) (hs : ScanIs gn 0 m p k W W') (hf : fitK p k = true) : Cn gn (if k ∈ m then 1 else 0) W W' := by
  obtain ⟨l, i, hp, hsi, hr, hc⟩ := hs
  have : (((toldK l i p).count k : Nat) : Int) = if k ∈ m then 1 else 0 := by
    by_cases hk : nnK k
    · rw [told_count hr hsi hk hf]
      by_cases hm : k ∈ m
      · rw [if_pos hm, if_pos (hp.mem_iff.2 hm)]; rfl
      · rw [if_neg hm, if_neg (fun e => hm (hp.mem_iff.1 e))]; rfl
    · have hm : k ∉ m := fun e => hk (h.nn k e)
      rw [if_neg hm]
      unfold toldK
      rw [List.count_eq_zero_of_not_mem (fun e => hm (hp.mem_iff.1 (List.mem_of_mem_drop (List.IsPrefix.subset (List.takeWhile_prefix _) e))))]
      rfl
  rw [this] at hc
  simpa using hc
end Go.Proofs.Ytoiigplflmejmaa
