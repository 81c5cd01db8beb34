/-
  A LIST OF A STORE, be it empty or not: add, in general, with what it leaves as it was.
-/
import Derived.Test.YtoiigplflmejmaaSGenD
namespace Go.Proofs.Ytoiigplflmejmaa
open Go.RowKit
set_option linter.unusedVariables false
set_option linter.unusedSimpArgs false
set_option maxRecDepth 100000

/-- A list's first key: all that stands there behind it. -/
structure SlaX (W : World) (d o : Nat) (gb gk : Nat) (a b c : Int) (w' : World) : Prop where
  hb : Fb w' gb 70 #[.slice (some ⟨gk, 0, none⟩) 1 1]
  hk : Fb w' gk 37 #[.int .i64 a, .int .i64 b, .int .i64 c]
  own : ∀ {ty : TypeId} {cs : Array Value}, Fb W d ty cs → Fb w' d ty (cs.setIfInBounds (o + 1) (.slice (some ⟨gb, 0, none⟩) 1 1))
  block : ∀ q, q < W.heap.size → q ≠ d → w'.heap[q]? = W.heap[q]?
  size : W.heap.size ≤ w'.heap.size
  ge : W.heap.size ≤ gb
  gek : W.heap.size ≤ gk
  ne : gb ≠ gk
  os : w'.os = W.os
  tape : w'.tape = W.tape
  output : w'.output = W.output
set_option maxHeartbeats 4000000 in
theorem sladd_none2 {A0 : Option Addr} {c0 : Nat} {W : World} {d o : Nat} {n a b c : Int} (h0 : W.cell? ⟨d, o, none⟩ = some (.int .i64 n)) (h1 : W.cell? ⟨d, o + 1, none⟩ = some (.slice A0 0 c0)) (hf : ∀ i, W.frozen? ⟨d, i, none⟩ = false) :
    Calls Try.prog 24 #[.pointer (some ⟨d, o, none⟩), .agg #[.int .i64 a, .int .i64 b, .int .i64 c]] W (fun e w' => e = .returned (.tuple #[]) ∧ ∃ gb gk, SlaX W d o gb gk a b c w') := by
  have hB1 : Below W.heap.size W (W.alloc (.cells #[.int .i64 a, .int .i64 b, .int .i64 c] 37)) := (Below.refl _ _).alloc (Nat.le_refl _) _
  have hk := Fb.new W 37 #[.int .i64 a, .int .i64 b, .int .i64 c]
  have hd : d < W.heap.size := World.block_lt_of_cell? _ _ h0
  have cF := sfind_none (a := a) (b := b) (c := c) (cell_below h0 hB1) (cell_below h1 hB1) (Nat.lt_of_lt_of_le hd hB1.size)
  have hfz : ∀ {w : World}, Below W.heap.size W w → w.frozen? ⟨d, o + 1, none⟩ = false := fun {w} hb => by
    have := hf (o + 1)
    unfold World.frozen? at this ⊢
    rw [hb.block d hd]
    exact this
  have HD := Lib.hid (fun (w : World) (hb : Below (W.alloc (.cells #[.int .i64 a, .int .i64 b, .int .i64 c] 37)).heap.size (W.alloc (.cells #[.int .i64 a, .int .i64 b, .int .i64 c] 37)) w) => (⟨cell_below (cell_below h1 hB1) hb, (hk.below hb).cell 0, (hk.below hb).cell 1, (hk.below hb).cell 2, hfz (hB1.trans (hb.mono hB1.size)), Nat.lt_of_lt_of_le hd (Nat.le_trans hB1.size hb.size), hB1.trans (hb.mono hB1.size)⟩ : _ ∧ _ ∧ _ ∧ _ ∧ _ ∧ _ ∧ _))
  clear h0 h1 hB1 hk hf hfz
  go_enter Try.func24, Try.ntmps24
  go_wp2_with (go_at_call 35; (with_reducible refine cF.mono ?_); rintro e w1 ⟨rfl, hb1⟩; obtain ⟨y1, k0, k1, k2, f1, l1, hB⟩ := HD.out _ hb1; have HB := Lib.hid hB; clear hB hb1)
  refine bodyPost_ret (results_none rfl _ _ _) rfl ?_
  obtain ⟨w2, hw2⟩ : ∃ w2, w2 = w1.setCell ⟨d, o + 1, none⟩ (.slice (some ⟨w1.heap.size + 1, 0, none⟩) 1 1) := ⟨_, rfl⟩
  have hz2 : w2.heap.size = w1.heap.size := by rw [hw2]; simp
  have hF2 : Fb ((w2.alloc (.cells #[.int .i64 a, .int .i64 b, .int .i64 c] 37)).alloc (.cells #[.slice (some ⟨w1.heap.size, 0, none⟩) 1 1] 70)) (w1.heap.size + 1) 70 #[.slice (some ⟨w1.heap.size, 0, none⟩) 1 1] := by
    have := Fb.new (w2.alloc (.cells #[.int .i64 a, .int .i64 b, .int .i64 c] 37)) 70 #[.slice (some ⟨w1.heap.size, 0, none⟩) 1 1]
    rw [World.size_alloc, hz2] at this
    exact this
  have hF1 : Fb ((w2.alloc (.cells #[.int .i64 a, .int .i64 b, .int .i64 c] 37)).alloc (.cells #[.slice (some ⟨w1.heap.size, 0, none⟩) 1 1] 70)) w1.heap.size 37 #[.int .i64 a, .int .i64 b, .int .i64 c] := by
    have := (Fb.new w2 37 #[.int .i64 a, .int .i64 b, .int .i64 c]).alloc (.cells #[.slice (some ⟨w1.heap.size, 0, none⟩) 1 1] 70)
    rw [hz2] at this
    exact this
  have hz := HB.out.size
  refine ⟨rfl, w1.heap.size + 1, w1.heap.size, ?_⟩
  rw [← hw2]
  refine ⟨hF2, hF1, fun h => ?_, fun q hq hne => ?_, by simp; omega, by omega, by omega, by omega, ?_, ?_, ?_⟩
  · have := (h.below HB.out).set (o + 1) (.slice (some ⟨w1.heap.size + 1, 0, none⟩) 1 1)
    rw [← hw2] at this
    exact (this.alloc _).alloc _
  · have h1 : w2.heap[q]? = W.heap[q]? := by rw [hw2]; exact (Below.heap_setCell _ _ _ _ hne).trans (HB.out.block q hq)
    have h2 : q < w2.heap.size := by omega
    exact (Below.heap_alloc _ _ _ (by simp; omega)).trans ((Below.heap_alloc _ _ _ h2).trans h1)
  · rw [hw2]; exact HB.out.os
  · rw [hw2]; exact HB.out.tape
  · rw [hw2]; exact HB.out.output
/-- A list, be it empty or not; F: its blocks. -/
def Lx (B : Nat) (W : World) (d o : Nat) (n : Int) (x : Value) (l : List Kt) (F : List Nat) : Prop :=
  W.cell? ⟨d, o, none⟩ = some (.int .i64 n) ∧ W.cell? ⟨d, o + 1, none⟩ = some x ∧
  ((l = [] ∧ (∃ A0 c0, x = .slice A0 0 c0) ∧ F = []) ∨ ∃ gb cb v g, x = .slice (some ⟨gb, 0, none⟩) 1 cb ∧ v.ownBlock = some g ∧ F = [gb, g] ∧ Lm B W d o n gb cb v l ∧ 0 < l.length ∧ Rs n l ∧ B ≤ gb ∧ 1 ≤ cb)
/-- What an add to a list leaves, and what it makes. -/
structure LaddP (B : Nat) (W : World) (d o : Nat) (n : Int) (l : List Kt) (F : List Nat) (k : Kt) (x' : Value) (l' : List Kt) (F' : List Nat) (w' : World) : Prop where
  lx : Lx B w' d o n x' l' F'
  pm : l'.Perm (k :: l)
  own : ∀ {cs : Array Value}, Fb W d 60 cs → Fb w' d 60 (cs.setIfInBounds (o + 1) x')
  block : ∀ q, q < W.heap.size → q ≠ d → q ∉ F → w'.heap[q]? = W.heap[q]?
  far : ∀ q ∈ F', q ∈ F ∨ W.heap.size ≤ q
  size : W.heap.size ≤ w'.heap.size
  os : w'.os = W.os
  tape : w'.tape = W.tape
  output : w'.output = W.output
theorem store_ne_keys : 60 ≠ 70 := by decide
theorem store_ne_key : 60 ≠ 37 := by decide
theorem sladd_lx {B : Nat} {W : World} {d o : Nat} {n : Int} {x : Value} {l : List Kt} {F : List Nat} {cs : Array Value} (hd : Fb W d 60 cs) (hsz : cs.size = 8) (hox : cs[o + 1]? = some x) (h : Lx B W d o n x l F) (hl : l.length ≤ 200) (hB : B ≤ W.heap.size) (k : Kt) (hk : k ∉ l) :
    Calls Try.prog 24 #[.pointer (some ⟨d, o, none⟩), .agg #[.int .i64 k.a, .int .i64 k.b, .int .i64 k.c]] W fun e w' => e = .returned (.tuple #[]) ∧ ∃ x' l' F', LaddP B W d o n l F k x' l' F' w' := by
  obtain ⟨h0, h1, h⟩ := h
  rcases h with ⟨rfl, ⟨A0, c0', rfl⟩, rfl⟩ | ⟨gb, cb, v, g, rfl, hvg, rfl, hm, hp, hs, hge⟩
  · refine (sladd_none2 (n := n) (a := k.a) (b := k.b) (c := k.c) h0 h1 (fun i => hd.free i)).mono ?_
    rintro e w' ⟨rfl, gb, gk, hx⟩
    have hown := hx.own hd
    have ho : o + 1 < cs.size := (Array.getElem?_eq_some_iff.1 hox).1
    have c0 : w'.cell? ⟨d, o, none⟩ = some (.int .i64 n) := by
      rw [hown.cell o]
      rw [hd.cell o] at h0
      rw [Array.getElem?_setIfInBounds, if_neg (by omega)]
      exact h0
    have c1 : w'.cell? ⟨d, o + 1, none⟩ = some (.slice (some ⟨gb, 0, none⟩) 1 1) := by
      rw [hown.cell (o + 1), Array.getElem?_setIfInBounds, if_pos rfl, if_pos ho]
    have hr : KtR B w' (.slice (some ⟨gk, 0, none⟩) 1 1) [k] := ⟨by simp [ktc], .inr ⟨gk, 1, _, rfl, Nat.le_trans hB hx.gek, hx.hk, Nat.le_refl _, by decide, rfl, by simp [ktc]⟩⟩
    exact ⟨rfl, _, [k], [gb, gk], ⟨c0, c1, .inr ⟨gb, 1, _, gk, rfl, rfl, rfl, ⟨c0, c1, .of hx.hb, hr⟩, by simp, by unfold Rs; simp, Nat.le_trans hB hx.ge, Nat.le_refl _⟩⟩, List.Perm.refl _, fun h => hx.own h, fun q hq hne _ => hx.block q hq hne, fun q hq => .inr (by simp at hq; rcases hq with rfl | rfl <;> first | exact hx.ge | exact hx.gek), hx.size, hx.os, hx.tape, hx.output⟩
  · have hvd : v.ownBlock ≠ some d := fun e => by
      obtain ⟨cur, hc⟩ := row_block hm.hr e
      unfold Fb at hd
      rw [hd] at hc
      injection hc with hc
      injection hc with _ hc
      exact store_ne_key hc
    have hdg : d ≠ gb := fun e => by
      obtain ⟨rs, this⟩ := hm.hb
      rw [← e] at this
      unfold Fb at this hd
      rw [hd] at this
      injection this with this
      injection this with _ this
      exact store_ne_keys this
    refine (sladd_any hm hl hp hs k hk hB hvd hdg).mono ?_
    rintro e w' ⟨rfl, v', l', hm', hs', hpm, ht⟩
    have hdl := hd.lt
    have hdb : w'.heap[d]? = W.heap[d]? := ht.block d hdl hdg hvd
    have hp' : 0 < l'.length := by rw [hpm.length_eq]; simp
    obtain ⟨g', hg'⟩ : ∃ g', v'.ownBlock = some g' := by
      rcases id hm'.hr.2 with ⟨_, hz⟩ | ⟨q, cap, cur, hv, _⟩
      · omega
      · exact ⟨q, by rw [hv]; rfl⟩
    refine ⟨rfl, _, l', [gb, g'], ⟨hm'.h0, hm'.h1, .inr ⟨gb, cb, v', g', rfl, hg', rfl, hm', hp', hs', hge⟩⟩, hpm, fun {cs'} h => ?_, fun q hq hne hnf => ?_, fun q hq => ?_, ht.size, ht.os, ht.tape, ht.output⟩
    · have e : cs'.setIfInBounds (o + 1) (.slice (some ⟨gb, 0, none⟩) 1 cb) = cs' := by
        have hc := hm.h1
        rw [h.cell (o + 1)] at hc
        obtain ⟨hlt, he⟩ := Array.getElem?_eq_some_iff.1 hc
        apply Array.ext_getElem?
        intro j
        rw [Array.getElem?_setIfInBounds]
        by_cases hj : o + 1 = j
        · subst hj; rw [if_pos rfl, if_pos hlt, hc]
        · rw [if_neg hj]
      rw [e]
      exact hdb.trans h
    · simp at hnf
      exact ht.block q hq hnf.1 (fun e => hnf.2 (by rw [hvg] at e; exact (Option.some.inj e).symm))
    · simp at hq
      rcases hq with rfl | rfl
      · exact .inl (by simp)
      · rcases ht.far q hg' with y | y
        · rw [hvg] at y
          exact .inl (by simp [Option.some.inj y])
        · exact .inr y
end Go.Proofs.Ytoiigplflmejmaa
