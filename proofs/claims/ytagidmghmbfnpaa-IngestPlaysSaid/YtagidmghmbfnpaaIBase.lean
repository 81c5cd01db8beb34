/-
  A BUFFER IN MEMORY: its struct, its row of items; what a call on it may turn.
-/
import Derived.Test.YtagidmghmbfnpaaProg
import Derived.Test.YtagidmghmbfnpaaIOrd
import Derived.WalkKit
import Derived.WalkLawsBesides
import Derived.Below
import Derived.IntWalk
import Derived.Lib.Hide
import Derived.Laws.Rows
import Derived.Laws.AppendOwn
import Derived.Outline
namespace Go.Proofs.Ytagidmghmbfnpaa
open Go.RowKit
set_option linter.unusedVariables false
set_option linter.unusedSimpArgs false
set_option maxRecDepth 100000

def Fb (w : World) (g : Nat) (t : TypeId) (cs : Array Value) : Prop := w.heap[g]? = some (.cells cs t (0, 0))
theorem Fb.lt {w : World} {g : Nat} {t : TypeId} {cs : Array Value} (h : Fb w g t cs) : g < w.heap.size := (Array.getElem?_eq_some_iff.1 h).1
theorem Fb.cell {w : World} {g : Nat} {t : TypeId} {cs : Array Value} (h : Fb w g t cs) (i : Nat) : w.cell? ⟨g, i, none⟩ = cs[i]? := cell_of_row w g i cs t (0, 0) h
theorem Fb.new (w : World) (t : TypeId) (cs : Array Value) : Fb (w.alloc (.cells cs t)) w.heap.size t cs := heap_alloc_new w _
theorem Fb.alloc {w : World} {g : Nat} {t : TypeId} {cs : Array Value} (h : Fb w g t cs) (o : Obj) : Fb (w.alloc o) g t cs := (Below.heap_alloc w o g h.lt).trans h
theorem Fb.below {w w' : World} {g : Nat} {t : TypeId} {cs : Array Value} (h : Fb w g t cs) (hb : Below w.heap.size w w') : Fb w' g t cs := (hb.block g h.lt).trans h
theorem Fb.drew {w : World} {g : Nat} {t : TypeId} {cs : Array Value} (h : Fb w g t cs) : Fb w.drew g t cs := h
theorem Fb.free {w : World} {g : Nat} {t : TypeId} {cs : Array Value} (h : Fb w g t cs) (i : Nat) : w.frozen? ⟨g, i, none⟩ = false := Lib.frozen_of_heap h i
theorem Fb.set {w : World} {g : Nat} {t : TypeId} {cs : Array Value} (h : Fb w g t cs) (i : Nat) (x : Value) : Fb (w.setCell ⟨g, i, none⟩ x) g t (cs.setIfInBounds i x) := heap_setCell_same w g i _ _ _ h
theorem Fb.far {w : World} {g g' : Nat} {t : TypeId} {cs : Array Value} (h : Fb w g t cs) (i : Nat) (x : Value) (hne : g ≠ g') : Fb (w.setCell ⟨g', i, none⟩ x) g t cs := (Below.heap_setCell _ _ _ _ hne).trans h
theorem at_add (g o j : Nat) : (⟨g, o, none⟩ : Addr).add j = ⟨g, o + j, none⟩ := by
  by_cases h : j = 0
  · subst h; simp [Addr.add]
  · simp [Addr.add, h]
theorem flat_at {α β : Type} {f : α → List β} {n : Nat} : ∀ (l : List α) (i d : Nat) (x : α), (∀ y ∈ l, (f y).length = n) → l[i]? = some x → d < n → (l.flatMap f)[i * n + d]? = (f x)[d]?
  | [], i, d, x, _, h, _ => by simp at h
  | y :: l, 0, d, x, hl, h, hd => by
    obtain rfl : y = x := by simpa using h
    rw [List.flatMap_cons, Nat.zero_mul, Nat.zero_add, List.getElem?_append_left (by rw [hl y List.mem_cons_self]; exact hd)]
  | y :: l, i + 1, d, x, hl, h, hd => by
    have ih := flat_at l i d x (fun z hz => hl z (List.mem_cons_of_mem _ hz)) (by simpa using h) hd
    rw [List.flatMap_cons, List.getElem?_append_right (by rw [hl y List.mem_cons_self, Nat.add_mul]; omega), hl y List.mem_cons_self]
    rw [← ih]
    congr 1
    rw [Nat.add_mul]; omega
theorem row_below {W W' : World} {B : Nat} {ty : TypeId} {z n : Nat} {u : Value} {xs : List Value} (hr : W.ownsRow B ty z u n xs) (hb : Below W.heap.size W W') : W'.ownsRow B ty z u n xs := by
  refine ⟨hr.1, ?_⟩
  rcases id hr.2 with hn | ⟨g, cap, cur, hv, hge, hg, rest⟩
  · exact .inl hn
  · exact .inr ⟨g, cap, cur, hv, hge, (hb.block g (Array.getElem?_eq_some_iff.1 hg).1).trans hg, rest⟩
theorem row_mono {W : World} {B B' : Nat} {ty : TypeId} {z n : Nat} {u : Value} {xs : List Value} (hr : W.ownsRow B ty z u n xs) (hB : B' ≤ B) : W.ownsRow B' ty z u n xs := by
  refine ⟨hr.1, ?_⟩
  rcases id hr.2 with hn | ⟨g, cap, cur, hv, hge, rest⟩
  · exact .inl hn
  · exact .inr ⟨g, cap, cur, hv, Nat.le_trans hB hge, rest⟩
theorem row_block {W : World} {B : Nat} {ty : TypeId} {z n : Nat} {u : Value} {xs : List Value} (hr : W.ownsRow B ty z u n xs) {k : Nat} (hk : u.ownBlock = some k) : ∃ cur, W.heap[k]? = some (.cells cur ty (0, 0)) := by
  rcases id hr.2 with ⟨hv, _⟩ | ⟨g, cap, cur, hv, _, hg, _⟩
  · rw [hv] at hk; cases hk
  · rw [hv] at hk
    obtain rfl : g = k := Option.some.inj hk
    exact ⟨cur, hg⟩
/-- An item's cells. -/
def c5 (x : It) : List Value := [.int .i64 x.t, .int .i64 x.s, .int .i64 x.a, .int .i64 x.b, .int .i64 x.c]
theorem c5_len (x : It) : (c5 x).length = 5 := rfl
abbrev itv (x : It) : Value := .agg #[.int .i64 x.t, .int .i64 x.s, .int .i64 x.a, .int .i64 x.b, .int .i64 x.c]
/-- A row of items. -/
def ItR (B : Nat) (W : World) (v : Value) (l : List It) : Prop := W.ownsRow B 63 5 v l.length (l.flatMap c5)
section
variable {B : Nat} {W : World} {v : Value} {l : List It}
theorem itR_nil (B : Nat) (W : World) : ItR B W (.slice none 0 0) [] := World.ownsRow_nil _ _ _ _
theorem ItR.below {W' : World} (h : ItR B W v l) (hb : Below W.heap.size W W') : ItR B W' v l := row_below h hb
theorem ItR.mono {B' : Nat} (h : ItR B W v l) (hB : B' ≤ B) : ItR B' W v l := row_mono h hB
theorem ItR.shape (h : ItR B W v l) : ∃ A c, v = .slice A l.length c := by
  rcases id h.2 with ⟨hv, hl⟩ | ⟨g, cap, cur, hv, _⟩
  · exact ⟨none, 0, by rw [hv, hl]⟩
  · exact ⟨_, cap, hv⟩
/-- A row that isn't empty. -/
theorem ItR.full (h : ItR B W v l) (hl : 0 < l.length) : ∃ g cap, v = .slice (some ⟨g, 0, none⟩) l.length cap ∧ B ≤ g ∧ g < W.heap.size ∧ l.length ≤ cap := by
  rcases id h.2 with ⟨hv, h0⟩ | ⟨g, cap, cur, hv, hB, hg, hc, _⟩
  · omega
  · exact ⟨g, cap, hv, hB, (Array.getElem?_eq_some_iff.1 hg).1, hc⟩
theorem ItR.at {g n cap : Nat} (h : ItR B W (.slice (some ⟨g, 0, none⟩) n cap) l) {i : Nat} {x : It} (hi : l[i]? = some x) :
    W.cell? ⟨g, i * 5, none⟩ = some (.int .i64 x.t) ∧ W.cell? ⟨g, i * 5 + 1, none⟩ = some (.int .i64 x.s) ∧ W.cell? ⟨g, i * 5 + 2, none⟩ = some (.int .i64 x.a) ∧ W.cell? ⟨g, i * 5 + 3, none⟩ = some (.int .i64 x.b) ∧ W.cell? ⟨g, i * 5 + 4, none⟩ = some (.int .i64 x.c) := by
  have key : ∀ (j : Nat) (u : Value), (c5 x)[j]? = some u → W.cell? ⟨g, i * 5 + j, none⟩ = some u := fun j u hu => by
    have hj : j < 5 := (List.getElem?_eq_some_iff.1 hu).1
    have h1 := flat_at (f := c5) l i j x (fun y _ => c5_len y) hi hj
    have := World.ownsRow.cells h (g := g) rfl (i * 5 + j) u (by rw [h1, hu])
    rwa [at_add, Nat.zero_add] at this
  exact ⟨key 0 _ rfl, key 1 _ rfl, key 2 _ rfl, key 3 _ rfl, key 4 _ rfl⟩
theorem ItR.free {g n cap : Nat} (h : ItR B W (.slice (some ⟨g, 0, none⟩) n cap) l) (i : Nat) : W.frozen? ⟨g, i, none⟩ = false := by
  obtain ⟨cur, hc⟩ := row_block h (k := g) rfl
  exact Lib.frozen_of_heap hc i
theorem flat_set : ∀ (l : List It) (i : Nat) (x : It), i < l.length → (l.set i x).flatMap c5 = (((((l.flatMap c5).set (i * 5) (.int .i64 x.t)).set (i * 5 + 1) (.int .i64 x.s)).set (i * 5 + 2) (.int .i64 x.a)).set (i * 5 + 3) (.int .i64 x.b)).set (i * 5 + 4) (.int .i64 x.c)
  | [], i, x, h => by simp at h
  | y :: l, 0, x, h => by simp [c5]
  | y :: l, i + 1, x, h => by
    have ih := flat_set l i x (by simpa using h)
    rw [List.set_cons_succ, List.flatMap_cons, List.flatMap_cons, ih]
    have e : ∀ (L : List Value) (k : Nat) (u : Value), (c5 y ++ L).set (k + 5) u = c5 y ++ L.set k u := fun L k u => by
      rw [List.set_append_right _ _ (by simp [c5])]
      simp [c5]
    rw [show (i + 1) * 5 = i * 5 + 5 by omega, show i * 5 + 5 + 1 = (i * 5 + 1) + 5 by omega, show i * 5 + 5 + 2 = (i * 5 + 2) + 5 by omega, show i * 5 + 5 + 3 = (i * 5 + 3) + 5 by omega, show i * 5 + 5 + 4 = (i * 5 + 4) + 5 by omega]
    simp only [e]
/-- An item stored. -/
def st5 (W : World) (g i : Nat) (x : It) : World := ((((W.setCell ⟨g, i * 5, none⟩ (.int .i64 x.t)).setCell ⟨g, i * 5 + 1, none⟩ (.int .i64 x.s)).setCell ⟨g, i * 5 + 2, none⟩ (.int .i64 x.a)).setCell ⟨g, i * 5 + 3, none⟩ (.int .i64 x.b)).setCell ⟨g, i * 5 + 4, none⟩ (.int .i64 x.c)
theorem st5_far (W : World) (g i : Nat) (x : It) {k : Nat} (hk : k ≠ g) : (st5 W g i x).heap[k]? = W.heap[k]? := by
  unfold st5
  rw [Below.heap_setCell _ _ _ _ hk, Below.heap_setCell _ _ _ _ hk, Below.heap_setCell _ _ _ _ hk, Below.heap_setCell _ _ _ _ hk, Below.heap_setCell _ _ _ _ hk]
theorem st5_size (W : World) (g i : Nat) (x : It) : (st5 W g i x).heap.size = W.heap.size := by unfold st5; simp [World.setCell]
theorem ItR.store {g n cap : Nat} (h : ItR B W (.slice (some ⟨g, 0, none⟩) n cap) l) {i : Nat} (hi : i < l.length) (x : It) : ItR B (st5 W g i x) (.slice (some ⟨g, 0, none⟩) n cap) (l.set i x) := by
  refine ⟨by rw [List.length_set]; rw [flat_set l i x hi]; simpa using h.1, ?_⟩
  rcases id h.2 with ⟨hv, h0⟩ | ⟨g', cap', cur, hv, hB, hg, hc, hm, hs, ht⟩
  · cases hv
  · injection hv with hv1 hv2 hv3
    injection hv1 with hv1
    injection hv1 with hv1
    subst hv1 hv3
    have e : (st5 W g i x).heap[g]? = some (.cells (((((cur.setIfInBounds (i * 5) (.int .i64 x.t)).setIfInBounds (i * 5 + 1) (.int .i64 x.s)).setIfInBounds (i * 5 + 2) (.int .i64 x.a)).setIfInBounds (i * 5 + 3) (.int .i64 x.b)).setIfInBounds (i * 5 + 4) (.int .i64 x.c)) 63 (0, 0)) := by
      unfold st5
      exact Fb.set (Fb.set (Fb.set (Fb.set (Fb.set hg _ _) _ _) _ _) _ _) _ _
    refine .inr ⟨g, cap, _, by rw [hv2, List.length_set], hB, e, by rw [List.length_set]; exact hc, hm, by simpa using hs, ?_⟩
    rw [List.length_set, flat_set l i x hi, ← ht]
    simp [List.take_set]
/-- An exchange. -/
theorem ItR.swap {g n cap : Nat} (h : ItR B W (.slice (some ⟨g, 0, none⟩) n cap) l) {i j : Nat} (hi : i < l.length) (hj : j < l.length) : ItR B (st5 (st5 W g i (itAt l j)) g j (itAt l i)) (.slice (some ⟨g, 0, none⟩) n cap) (swI l i j) :=
  (h.store hi _).store (by rw [List.length_set]; exact hj) _
end
/-- A buffer's state, but for its items. -/
structure Bs where
  lat : Int
  room : Int
  ct : Int
  ck : Bool
  mt : Int
  mq : Bool
  next : Int
  late : Int
  closed : Bool
def Bs.cells (s : Bs) (v : Value) : Array Value := #[.int .i64 s.lat, .int .i64 s.room, .int .i64 s.ct, .bool s.ck, .int .i64 s.mt, .bool s.mq, v, .int .i64 s.next, .int .i64 s.late, .bool s.closed]
structure Bc (B d : Nat) (s : Bs) (v : Value) (l : List It) (W : World) : Prop where
  st : Fb W d 54 (s.cells v)
  row : ItR B W v l
  gd : B ≤ d
/-- What a call on it may turn: its blocks, and new ones. -/
structure Tn (d : Nat) (v v' : Value) (W W' : World) : Prop where
  os : W'.os = W.os
  tape : W'.tape = W.tape
  output : W'.output = W.output
  size : W.heap.size ≤ W'.heap.size
  far : ∀ k, v'.ownBlock = some k → v.ownBlock = some k ∨ W.heap.size ≤ k
  block : ∀ k, k < W.heap.size → k ≠ d → v.ownBlock ≠ some k → W'.heap[k]? = W.heap[k]?
theorem buf_ne : 54 ≠ 63 := by decide
section
variable {B d : Nat} {s : Bs} {v : Value} {l : List It}
theorem Tn.refl (W : World) : Tn d v v W W := ⟨rfl, rfl, rfl, Nat.le_refl _, fun k h => .inl h, fun _ _ _ _ => rfl⟩
theorem Tn.drew {v' : Value} {W W' : World} (h : Tn d v v' W W') : Tn d v v' W W'.drew := ⟨h.os, h.tape, h.output, h.size, h.far, h.block⟩
theorem Tn.of {W W' : World} (hb : Below W.heap.size W W') : Tn d v v W W' := ⟨hb.os, hb.tape, hb.output, hb.size, fun k h => .inl h, fun k hk _ _ => hb.block k hk⟩
theorem Tn.trans {v1 v2 : Value} {W W1 W2 : World} (h : Tn d v v1 W W1) (k : Tn d v1 v2 W1 W2) : Tn d v v2 W W2 :=
  ⟨k.os.trans h.os, k.tape.trans h.tape, k.output.trans h.output, Nat.le_trans h.size k.size, fun j hj => by
    rcases k.far j hj with x | x
    · exact h.far j x
    · exact .inr (Nat.le_trans h.size x), fun j hj hd hv => by
    refine (k.block j (Nat.lt_of_lt_of_le hj h.size) hd fun e => ?_).trans (h.block j hj hd hv)
    rcases h.far j e with x | x
    · exact hv x
    · omega⟩
theorem Bc.row_ge {W : World} (h : Bc B d s v l W) {k : Nat} (hk : v.ownBlock = some k) : B ≤ k ∧ k < W.heap.size := World.ownsRow.lt h.row k hk
theorem Bc.ne {W : World} (h : Bc B d s v l W) : v.ownBlock ≠ some d := fun e => by
  obtain ⟨cur, hc⟩ := row_block h.row e
  have := h.st
  unfold Fb at this
  rw [hc] at this
  injection this with this
  injection this with _ this
  exact buf_ne this.symm
theorem Bc.below {W W' : World} (h : Bc B d s v l W) (hb : Below W.heap.size W W') : Bc B d s v l W' := ⟨h.st.below hb, h.row.below hb, h.gd⟩
theorem Bc.alloc {W : World} (h : Bc B d s v l W) (o : Obj) : Bc B d s v l (W.alloc o) := h.below ((Below.refl _ _).alloc (Nat.le_refl _) o)
theorem Bc.drew {W : World} (h : Bc B d s v l W) : Bc B d s v l W.drew := ⟨h.st, h.row, h.gd⟩
theorem Bc.mono {B' : Nat} {W : World} (h : Bc B d s v l W) (hB : B' ≤ B) : Bc B' d s v l W := ⟨h.st, h.row.mono hB, Nat.le_trans hB h.gd⟩
/-- Whatever lies below the buffer stays. -/
theorem Tn.below {v' : Value} {W0 W W' : World} (h : Tn d v v' W W') (hd : Bc B d s v l W) (h0 : Below B W0 W) : Below B W0 W' :=
  ⟨h.os.trans h0.os, h.tape.trans h0.tape, h.output.trans h0.output, Nat.le_trans h0.size h.size, fun k hk => by
    have h1 := hd.gd
    have h3 := hd.st.lt
    refine (h.block k (by omega) (by omega) fun e => ?_).trans (h0.block k hk)
    have := (hd.row_ge e).1
    omega⟩
/-- So do blocks of other types. -/
theorem Tn.cells {v' : Value} {W W' : World} (h : Tn d v v' W W') (hd : Bc B d s v l W) {k : Nat} {cs : Array Value} {ty : TypeId} {fr : Nat × Nat} (hk : W.heap[k]? = some (.cells cs ty fr)) (h1 : ty ≠ 54) (h2 : ty ≠ 63) : W'.heap[k]? = some (.cells cs ty fr) := by
  refine (h.block k (Array.getElem?_eq_some_iff.1 hk).1 (fun e => ?_) (fun e => ?_)).trans hk
  · have := hd.st
    unfold Fb at this
    rw [← e, hk] at this
    injection this with this
    injection this with _ this
    exact h1 this
  · obtain ⟨cur, hc⟩ := row_block hd.row e
    rw [hk] at hc
    injection hc with hc
    injection hc with _ hc
    exact h2 hc
theorem Bc.c0 {W : World} (h : Bc B d s v l W) : W.cell? ⟨d, 0, none⟩ = some (.int .i64 s.lat) := h.st.cell 0
theorem Bc.c1 {W : World} (h : Bc B d s v l W) : W.cell? ⟨d, 1, none⟩ = some (.int .i64 s.room) := h.st.cell 1
theorem Bc.c2 {W : World} (h : Bc B d s v l W) : W.cell? ⟨d, 2, none⟩ = some (.int .i64 s.ct) := h.st.cell 2
theorem Bc.c3 {W : World} (h : Bc B d s v l W) : W.cell? ⟨d, 3, none⟩ = some (.bool s.ck) := h.st.cell 3
theorem Bc.c4 {W : World} (h : Bc B d s v l W) : W.cell? ⟨d, 4, none⟩ = some (.int .i64 s.mt) := h.st.cell 4
theorem Bc.cm {W : World} (h : Bc B d s v l W) : W.cell? ⟨d, 5, none⟩ = some (.bool s.mq) := h.st.cell 5
theorem Bc.c6 {W : World} (h : Bc B d s v l W) : W.cell? ⟨d, 6, none⟩ = some v := h.st.cell 6
theorem Bc.c7 {W : World} (h : Bc B d s v l W) : W.cell? ⟨d, 7, none⟩ = some (.int .i64 s.next) := h.st.cell 7
theorem Bc.c8 {W : World} (h : Bc B d s v l W) : W.cell? ⟨d, 8, none⟩ = some (.int .i64 s.late) := h.st.cell 8
theorem Bc.c9 {W : World} (h : Bc B d s v l W) : W.cell? ⟨d, 9, none⟩ = some (.bool s.closed) := h.st.cell 9
theorem Bc.free {W : World} (h : Bc B d s v l W) (i : Nat) : W.frozen? ⟨d, i, none⟩ = false := h.st.free i
theorem Bc.lt {W : World} (h : Bc B d s v l W) : d < W.heap.size := h.st.lt
end
end Go.Proofs.Ytagidmghmbfnpaa
