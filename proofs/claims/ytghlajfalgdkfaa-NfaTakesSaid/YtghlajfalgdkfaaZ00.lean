/-
  MERGED (a claim has at most 60 files): SBase, BgMap.
-/
import Derived.Test.YtghlajfalgdkfaaProg
import Derived.WalkKit
import Derived.WalkLawsBesides
import Derived.Below
import Derived.IntWalk
import Derived.Lib.Hide
import Derived.Laws.Rows
import Derived.Laws.AppendOwn
import Derived.Outline
import Derived.Deep.LoopGhost
import Derived.BigQuiet
import Derived.Deep.QuietTactic
import Derived.MapKept
import Derived.Laws.StructEq
import Derived.Maps.RangeRun
/-
  BLOCKS IN MEMORY.
-/
namespace Go.Proofs.Ytghlajfalgdkfaa
open Go.RowKit
set_option linter.unusedVariables false
set_option linter.unusedSimpArgs false
set_option maxRecDepth 100000

def Fb (w : World) (g : Nat) (t : TypeId) (cs : Array Value) : Prop := w.heap[g]? = some (.cells cs t (0, 0))
theorem Fb.lt {w : World} {g : Nat} {t : TypeId} {cs : Array Value} (h : Fb w g t cs) : g < w.heap.size := (Array.getElem?_eq_some_iff.1 h).1
theorem Fb.cell {w : World} {g : Nat} {t : TypeId} {cs : Array Value} (h : Fb w g t cs) (i : Nat) : w.cell? ⟨g, i, none⟩ = cs[i]? := cell_of_row w g i cs t (0, 0) h
theorem Fb.new (w : World) (t : TypeId) (cs : Array Value) : Fb (w.alloc (.cells cs t)) w.heap.size t cs := heap_alloc_new w _
theorem Fb.alloc {w : World} {g : Nat} {t : TypeId} {cs : Array Value} (h : Fb w g t cs) (o : Obj) : Fb (w.alloc o) g t cs := (Below.heap_alloc w o g h.lt).trans h
theorem Fb.below {w w' : World} {g : Nat} {t : TypeId} {cs : Array Value} (h : Fb w g t cs) (hb : Below w.heap.size w w') : Fb w' g t cs := (hb.block g h.lt).trans h
theorem Fb.drew {w : World} {g : Nat} {t : TypeId} {cs : Array Value} (h : Fb w g t cs) : Fb w.drew g t cs := h
theorem Fb.free {w : World} {g : Nat} {t : TypeId} {cs : Array Value} (h : Fb w g t cs) (i : Nat) : w.frozen? ⟨g, i, none⟩ = false := Lib.frozen_of_heap h i
theorem Fb.set {w : World} {g : Nat} {t : TypeId} {cs : Array Value} (h : Fb w g t cs) (i : Nat) (x : Value) : Fb (w.setCell ⟨g, i, none⟩ x) g t (cs.setIfInBounds i x) := heap_setCell_same w g i _ _ _ h
theorem Fb.far {w : World} {g g' : Nat} {t : TypeId} {cs : Array Value} (h : Fb w g t cs) (i : Nat) (x : Value) (hne : g ≠ g') : Fb (w.setCell ⟨g', i, none⟩ x) g t cs := (Below.heap_setCell _ _ _ _ hne).trans h
theorem at_add (g o j : Nat) : (⟨g, o, none⟩ : Addr).add j = ⟨g, o + j, none⟩ := by
  by_cases h : j = 0
  · subst h; simp [Addr.add]
  · simp [Addr.add, h]
theorem below_drewP {B : Nat} {W0 W : World} (h : Below B W0 W) (q : Nat) : Below B W0 (W.drewN q) := ⟨h.os, h.tape, h.output, h.size, h.block⟩
/-- What was there, and some blocks. -/
def Hs (w : World) (l : List (Nat × TypeId × Array Value)) (W : World) : Prop := Below w.heap.size w W ∧ ∀ p ∈ l, Fb W p.1 p.2.1 p.2.2
section
variable {w W W' : World} {l : List (Nat × TypeId × Array Value)}
theorem Hs.b (h : Hs w l W) : Below w.heap.size w W := h.1
theorem Hs.below (h : Hs w l W) (hb : Below W.heap.size W W') : Hs w l W' := ⟨h.1.trans (hb.mono h.1.size), fun p hp => (h.2 p hp).below hb⟩
theorem Hs.drew (h : Hs w l W) : Hs w l W.drew := h.below (Below.refl _ _).drew
theorem Hs.drewN (h : Hs w l W) (q : Nat) : Hs w l (W.drewN q) := h.below ⟨rfl, rfl, rfl, Nat.le_refl _, fun _ _ => rfl⟩
theorem Hs.alloc (h : Hs w l W) (o : Obj) : Hs w l (W.alloc o) := h.below ((Below.refl _ _).alloc (Nat.le_refl _) o)
theorem Hs.add (h : Hs w l W) (t : TypeId) (cs : Array Value) : Hs w ((W.heap.size, t, cs) :: l) (W.alloc (.cells cs t)) := ⟨(h.alloc _).1, fun p hp => by
  rcases List.mem_cons.1 hp with rfl | hp
  · exact Fb.new W t cs
  · exact (h.alloc _).2 p hp⟩
theorem hs1 (w : World) (t : TypeId) (cs : Array Value) : Hs w [(w.heap.size, t, cs)] (w.alloc (.cells cs t)) := Hs.add (l := []) ⟨Below.refl _ _, fun p hp => by cases hp⟩ t cs
theorem hs2 (w : World) (t u : TypeId) (cs ds : Array Value) : Hs w [(w.heap.size + 1, u, ds), (w.heap.size, t, cs)] ((w.alloc (.cells cs t)).alloc (.cells ds u)) := by simpa using (hs1 w t cs).add u ds
theorem Hs.c1 (h : Hs w l W) {g : Nat} {t : TypeId} {a : Value} (hm : (g, t, #[a]) ∈ l) : W.cell? ⟨g, 0, none⟩ = some a := (h.2 _ hm).cell 0
theorem Hs.c2 (h : Hs w l W) {g : Nat} {t : TypeId} {a b : Value} (hm : (g, t, #[a, b]) ∈ l) : W.cell? ⟨g, 0, none⟩ = some a ∧ W.cell? ⟨g, 1, none⟩ = some b := ⟨(h.2 _ hm).cell 0, (h.2 _ hm).cell 1⟩
theorem Hs.c3 (h : Hs w l W) {g : Nat} {t : TypeId} {a b c : Value} (hm : (g, t, #[a, b, c]) ∈ l) : W.cell? ⟨g, 0, none⟩ = some a ∧ W.cell? ⟨g, 1, none⟩ = some b ∧ W.cell? ⟨g, 2, none⟩ = some c := ⟨(h.2 _ hm).cell 0, (h.2 _ hm).cell 1, (h.2 _ hm).cell 2⟩
theorem Hs.free (h : Hs w l W) {p : Nat × TypeId × Array Value} (hm : p ∈ l) (i : Nat) : W.frozen? ⟨p.1, i, none⟩ = false := (h.2 _ hm).free i
theorem Hs.lt (h : Hs w l W) {p : Nat × TypeId × Array Value} (hm : p ∈ l) : p.1 < W.heap.size := (h.2 _ hm).lt
/-- A store into the first block. -/
theorem Hs.put {g : Nat} {t : TypeId} {cs : Array Value} (h : Hs w ((g, t, cs) :: l) W) (hg : w.heap.size ≤ g) (hne : ∀ p ∈ l, p.1 ≠ g) (i : Nat) (x : Value) : Hs w ((g, t, cs.setIfInBounds i x) :: l) (W.setCell ⟨g, i, none⟩ x) := ⟨h.1.setCell hg _, fun p hp => by
  rcases List.mem_cons.1 hp with rfl | hp
  · exact (h.2 _ (.head _)).set i x
  · exact (h.2 p (.tail _ hp)).far i x (hne p hp)⟩
theorem Hs.cons (h : Hs w l W) {g : Nat} {t : TypeId} {cs : Array Value} (hf : Fb W g t cs) : Hs w ((g, t, cs) :: l) W := ⟨h.1, fun p hp => by
  rcases List.mem_cons.1 hp with rfl | hp
  · exact hf
  · exact h.2 p hp⟩
theorem upH {f : FuncId} {args : Array Value} {r : Ending} (hR : Hs w l W) (h : Calls Try.prog f args W fun e w' => e = r ∧ Below W.heap.size W w') : Calls Try.prog f args W fun e w' => e = r ∧ Hs w l w' :=
  h.mono fun e w' ⟨h1, h2⟩ => ⟨h1, hR.below h2⟩
end
theorem Hs.pick {w W : World} {l l' : List (Nat × TypeId × Array Value)} (h : Hs w l W) (hs : ∀ p ∈ l', p ∈ l) : Hs w l' W := ⟨h.1, fun p hp => h.2 p (hs p hp)⟩
theorem two_new {w W : World} {l : List (Nat × TypeId × Array Value)} (h : Hs w l W) (t : TypeId) (a b : Array Value) : Hs w ((W.heap.size, t, a) :: (W.heap.size + 1, t, b) :: l) (((W.alloc (.cells a t)).alloc (.cells b t)).drew) := by
  have h2 := (((h.add t a).add t b)).drew
  simp only [World.size_alloc] at h2
  refine h2.pick fun p hp => ?_
  simp only [List.mem_cons] at hp ⊢
  rcases hp with h | h | h
  · exact .inr (.inl h)
  · exact .inl h
  · exact .inr (.inr h)
end Go.Proofs.Ytghlajfalgdkfaa

/-
  MAPS IN MEMORY: what is looked up, stored, deleted, ranged over, whatever the keys.
-/
namespace Go.Proofs.Ytghlajfalgdkfaa
open Go.RowKit
set_option linter.unusedVariables false
set_option linter.unusedSimpArgs false
set_option linter.unusedSectionVars false
set_option maxRecDepth 100000

section
variable {α β : Type} [DecidableEq α]
/-- Where a key stands, and what stands there. -/
def posM (k : α) : List (α × β) → Option (Nat × β)
  | [] => none
  | p :: E => if p.1 = k then some (0, p.2) else (posM k E).map fun q => (q.1 + 1, q.2)
def getM (k : α) : List (α × β) → Option β
  | [] => none
  | p :: E => if p.1 = k then some p.2 else getM k E
def putM (k : α) (v : β) : List (α × β) → List (α × β)
  | [] => [(k, v)]
  | p :: E => if p.1 = k then (p.1, v) :: E else p :: putM k v E
def delM (k : α) : List (α × β) → List (α × β)
  | [] => []
  | p :: E => if p.1 = k then E else p :: delM k E
theorem get_pos (k : α) : ∀ E : List (α × β), getM k E = (posM k E).map (·.2)
  | [] => rfl
  | p :: E => by
    unfold getM posM
    by_cases h : p.1 = k
    · rw [if_pos h, if_pos h]; rfl
    · rw [if_neg h, if_neg h, get_pos k E]
      cases posM k E <;> rfl
theorem pos_at {k : α} : ∀ {E : List (α × β)} {j : Nat} {v : β}, posM k E = some (j, v) → E[j]? = some (k, v)
  | [], _, _, h => by cases h
  | p :: E, j, v, h => by
    unfold posM at h
    by_cases hp : p.1 = k
    · rw [if_pos hp] at h
      simp only [Option.some.injEq, Prod.mk.injEq] at h
      obtain ⟨rfl, rfl⟩ := h
      rw [← hp]; rfl
    · rw [if_neg hp] at h
      cases hq : posM k E with
      | none => rw [hq] at h; cases h
      | some q =>
        obtain ⟨i, u⟩ := q
        rw [hq] at h
        simp only [Option.map_some, Option.some.injEq, Prod.mk.injEq] at h
        obtain ⟨rfl, rfl⟩ := h
        rw [List.getElem?_cons_succ]
        exact pos_at hq
theorem put_none {k : α} (v : β) : ∀ {E : List (α × β)}, posM k E = none → putM k v E = E ++ [(k, v)]
  | [], _ => rfl
  | p :: E, h => by
    unfold posM at h
    unfold putM
    by_cases hp : p.1 = k
    · rw [if_pos hp] at h; cases h
    · rw [if_neg hp] at h
      rw [if_neg hp]
      have : posM k E = none := by
        cases hq : posM k E with
        | none => rfl
        | some q => rw [hq] at h; cases h
      rw [put_none v this]; rfl
theorem put_some {k : α} (v : β) : ∀ {E : List (α × β)} {j : Nat} {u : β}, posM k E = some (j, u) → putM k v E = E.set j (k, v)
  | [], _, _, h => by cases h
  | p :: E, j, u, h => by
    unfold posM at h
    unfold putM
    by_cases hp : p.1 = k
    · rw [if_pos hp] at h
      simp only [Option.some.injEq, Prod.mk.injEq] at h
      obtain ⟨rfl, rfl⟩ := h
      rw [if_pos hp, hp]; rfl
    · rw [if_neg hp] at h
      rw [if_neg hp]
      cases hq : posM k E with
      | none => rw [hq] at h; cases h
      | some q =>
        obtain ⟨i, x⟩ := q
        rw [hq] at h
        simp only [Option.map_some, Option.some.injEq, Prod.mk.injEq] at h
        obtain ⟨rfl, rfl⟩ := h
        rw [put_some v hq]; rfl
theorem del_some {k : α} : ∀ {E : List (α × β)} {j : Nat} {u : β}, posM k E = some (j, u) → delM k E = E.eraseIdx j
  | [], _, _, h => by cases h
  | p :: E, j, u, h => by
    unfold posM at h
    unfold delM
    by_cases hp : p.1 = k
    · rw [if_pos hp] at h
      simp only [Option.some.injEq, Prod.mk.injEq] at h
      obtain ⟨rfl, rfl⟩ := h
      rw [if_pos hp]; rfl
    · rw [if_neg hp] at h
      rw [if_neg hp]
      cases hq : posM k E with
      | none => rw [hq] at h; cases h
      | some q =>
        obtain ⟨i, x⟩ := q
        rw [hq] at h
        simp only [Option.map_some, Option.some.injEq, Prod.mk.injEq] at h
        obtain ⟨rfl, rfl⟩ := h
        rw [del_some hq]; rfl
theorem del_none {k : α} : ∀ {E : List (α × β)}, posM k E = none → delM k E = E
  | [], _ => rfl
  | p :: E, h => by
    unfold posM at h
    unfold delM
    by_cases hp : p.1 = k
    · rw [if_pos hp] at h; cases h
    · rw [if_neg hp] at h
      rw [if_neg hp]
      have : posM k E = none := by
        cases hq : posM k E with
        | none => rfl
        | some q => rw [hq] at h; cases h
      rw [del_none this]
def kv (e : MapEntry) : Value × Value := (e.key, e.val)
def ce (enc : α → Value) (encV : β → Value) (p : α × β) : Value × Value := (enc p.1, encV p.2)
/-- How keys of a type are told apart. -/
structure KL (kt : TypeId) (enc : α → Value) : Prop where
  check : ∀ (k : α) (em : Bool) (w : World), (Instr.checkKey em 10000 kt (enc k)).run Try.prog w = .ok () w
  stays : ∀ (k : α) (w : World), (Instr.keyThatStays (enc k) (enc k)).run Try.prog w = .ok (enc k) w
  find : ∀ {β : Type} (encV : β → Value) (k : α) (w : World) (E : List (α × β)) (es : List MapEntry), es.map kv = E.map (ce enc encV) → (Instr.findKey kt (enc k) es).run Try.prog w = .ok ((posM k E).map fun q => (q.1, encV q.2)) w
def putBlock (W : World) (m : Nat) (o : Obj) : World := { W with heap := W.heap.setIfInBounds m o }
theorem putBlock_at {W : World} {m : Nat} {o o' : Obj} (h : W.heap[m]? = some o) : (putBlock W m o').heap[m]? = some o' := by
  have hm := (Array.getElem?_eq_some_iff.1 h).1
  unfold putBlock
  simp [hm]
theorem putBlock_far {W : World} {m k : Nat} {o' : Obj} (h : k ≠ m) : (putBlock W m o').heap[k]? = W.heap[k]? := by
  unfold putBlock
  simp [Array.getElem?_setIfInBounds, Ne.symm h]
theorem putBlock_size (W : World) (m : Nat) (o : Obj) : (putBlock W m o).heap.size = W.heap.size := by simp [putBlock]
theorem below_put {B : Nat} {W0 W : World} (h : Below B W0 W) {m : Nat} (hm : B ≤ m) (o : Obj) : Below B W0 (putBlock W m o) :=
  ⟨h.os, h.tape, h.output, by rw [putBlock_size]; exact h.size, fun q hq => (putBlock_far (by omega)).trans (h.block q hq)⟩
/-- A map in memory. -/
def Mq (enc : α → Value) (encV : β → Value) (W : World) (m : Nat) (E : List (α × β)) : Prop :=
  ∃ es clock, W.heap[m]? = some (.map es clock) ∧ es.toList.map kv = E.map (ce enc encV) ∧ (es.toList.map (·.born)).Nodup ∧ ∀ x ∈ es.toList, x.born < clock
variable {enc : α → Value} {encV : β → Value} {W W' : World} {m r : Nat} {E : List (α × β)} {kt mt et : TypeId}
theorem Mq.lt (h : Mq enc encV W m E) : m < W.heap.size := by
  obtain ⟨es, c, hb, _⟩ := h
  exact (Array.getElem?_eq_some_iff.1 hb).1
theorem Mq.of (h : Mq enc encV W m E) (hb : W'.heap[m]? = W.heap[m]?) : Mq enc encV W' m E := by
  obtain ⟨es, c, h1, h2⟩ := h
  exact ⟨es, c, hb.trans h1, h2⟩
theorem Mq.ne {g : Nat} {cs : Array Value} {t : TypeId} (h : Mq enc encV W m E) (hg : Fb W g t cs) : g ≠ m := by
  obtain ⟨es, c, h1, h2⟩ := h
  intro e
  unfold Fb at hg
  rw [e, h1] at hg
  cases hg
theorem Mq.len (h : Mq enc encV W m E) : ∃ es clock, W.heap[m]? = some (.map es clock) ∧ es.size = E.length := by
  obtain ⟨es, c, h1, h2, _⟩ := h
  refine ⟨es, c, h1, ?_⟩
  have := congrArg List.length h2
  simpa using this
theorem Mq.new (W : World) : Mq enc encV (W.alloc (.map #[] 0)) W.heap.size ([] : List (α × β)) := ⟨#[], 0, heap_alloc_new W _, rfl, by simp, fun x hx => by simp at hx⟩
theorem Mq.look (h : Mq enc encV W m E) (K : KL kt enc) (ht : Try.prog.underlying mt = some (.map kt et)) {z : Value} (hz : ∀ w, (zeroValue et).run Try.prog w = .ok z w) (k : α) :
    (Instr.lookup mt (.map (some m)) (enc k) false).run Try.prog W = .ok (((getM k E).map encV).getD z) W := by
  obtain ⟨es, clock, hb, he, _⟩ := h
  have hf := K.find encV k W E es.toList he
  rw [get_pos]
  cases hp : posM k E with
  | none =>
    rw [hp] at hf
    simp [Instr.lookup, run_underlying ht, MapKept.run_getObj_map hb, K.check, hf, hz, Result.andThen]
  | some q =>
    rw [hp] at hf
    simp [Instr.lookup, run_underlying ht, MapKept.run_getObj_map hb, K.check, hf, Result.andThen]
theorem Mq.look2 (h : Mq enc encV W m E) (K : KL kt enc) (ht : Try.prog.underlying mt = some (.map kt et)) {z : Value} (hz : ∀ w, (zeroValue et).run Try.prog w = .ok z w) (k : α) :
    (Instr.lookup mt (.map (some m)) (enc k) true).run Try.prog W = .ok (.tuple #[((getM k E).map encV).getD z, .bool (getM k E).isSome]) W := by
  obtain ⟨es, clock, hb, he, _⟩ := h
  have hf := K.find encV k W E es.toList he
  rw [get_pos]
  cases hp : posM k E with
  | none =>
    rw [hp] at hf
    simp [Instr.lookup, run_underlying ht, MapKept.run_getObj_map hb, K.check, hf, hz, Result.andThen]
  | some q =>
    rw [hp] at hf
    simp [Instr.lookup, run_underlying ht, MapKept.run_getObj_map hb, K.check, hf, Result.andThen]
theorem map_set {γ δ : Type} (f : γ → δ) : ∀ (l : List γ) (i : Nat) (x : γ), (l.set i x).map f = (l.map f).set i (f x)
  | [], _, _ => rfl
  | a :: l, 0, x => rfl
  | a :: l, i + 1, x => by simp [map_set f l i x]
theorem map_eraseI {γ δ : Type} (f : γ → δ) : ∀ (l : List γ) (i : Nat), (l.eraseIdx i).map f = (l.map f).eraseIdx i
  | [], _ => by simp
  | a :: l, 0 => rfl
  | a :: l, i + 1 => by simp [map_eraseI f l i]
theorem modify_set {γ : Type} (f : γ → γ) : ∀ (l : List γ) (i : Nat) (x : γ), l[i]? = some x → l.modify i f = l.set i (f x)
  | [], _, _, h => by simp at h
  | a :: l, 0, x, h => by simp at h; subst h; rfl
  | a :: l, i + 1, x, h => by simp at h; simp [List.modify_succ_cons, modify_set f l i x h]
theorem set_same {γ : Type} : ∀ (l : List γ) (i : Nat) (x : γ), l[i]? = some x → l.set i x = l
  | [], _, _, h => by simp at h
  | a :: l, 0, x, h => by simp at h; subst h; rfl
  | a :: l, i + 1, x, h => by simp at h; simp [set_same l i x h]
theorem entry_at {es : Array MapEntry} (he : es.toList.map kv = E.map (ce enc encV)) {k : α} {j : Nat} {u : β} (hp : posM k E = some (j, u)) : ∃ e0, es[j]? = some e0 ∧ e0.key = enc k ∧ e0.val = encV u := by
  have h1 := pos_at hp
  have h2 : (es.toList.map kv)[j]? = some (enc k, encV u) := by rw [he, List.getElem?_map, h1]; rfl
  rw [List.getElem?_map] at h2
  cases hq : es.toList[j]? with
  | none => rw [hq] at h2; cases h2
  | some e0 =>
    rw [hq] at h2
    simp only [Option.map_some, Option.some.injEq, kv, Prod.mk.injEq] at h2
    exact ⟨e0, by simpa using hq, h2.1, h2.2⟩
theorem born_find : ∀ {l : List MapEntry} {j : Nat} {e0 : MapEntry}, (l.map (·.born)).Nodup → l[j]? = some e0 → l.findIdx? (fun e => ((e.born : Nat) : Int) == ((e0.born : Nat) : Int)) = some j
  | [], j, e0, _, h => by simp at h
  | a :: l, 0, e0, hn, h => by
    simp at h; subst h
    simp [List.findIdx?_cons]
  | a :: l, j + 1, e0, hn, h => by
    simp only [List.getElem?_cons_succ] at h
    simp only [List.map_cons, List.nodup_cons] at hn
    have hne : a.born ≠ e0.born := fun e1 => hn.1 (List.mem_map.2 ⟨e0, List.mem_of_getElem? h, e1.symm⟩)
    have hb : (((a.born : Nat) : Int) == ((e0.born : Nat) : Int)) = false := by
      simp only [beq_eq_false_iff_ne, ne_eq, Int.natCast_inj]
      exact hne
    rw [List.findIdx?_cons, hb]
    simp [born_find hn.2 h]
/-- A key's value set: as 'm[k] = v' does it. -/
theorem Mq.update (h : Mq enc encV W m E) (K : KL kt enc) (ht : Try.prog.underlying mt = some (.map kt et)) (k : α) (v : β) :
    ∃ o, (Instr.mapUpdate mt (.map (some m)) (enc k) (encV v)).run Try.prog W = .ok () (putBlock W m o) ∧ ∀ W2 : World, m < W2.heap.size → Mq enc encV (putBlock W2 m o) m (putM k v E) := by
  obtain ⟨es, clock, hb, he, hn, hc⟩ := h
  have hf := K.find encV k W E es.toList he
  cases hp : posM k E with
  | none =>
    rw [hp] at hf
    refine ⟨.map (es.push { key := enc k, val := encV v, born := clock }) (clock + 1), ?_, fun W2 hm => ⟨_, _, putBlock_at (Array.getElem?_eq_getElem hm), ?_, ?_, ?_⟩⟩
    · simp [Instr.mapUpdate, run_underlying ht, MapKept.run_getObj_map hb, K.check, hf, MapKept.run_setObj_map _ hb, Result.andThen, putBlock]
    · rw [put_none v hp]; simp [he, kv, ce]
    · simp only [Array.toList_push, List.map_append, List.map_cons, List.map_nil]
      refine List.nodup_append.2 ⟨hn, by simp, fun a ha c hcc e1 => ?_⟩
      simp only [List.mem_singleton] at hcc
      obtain ⟨x, hx, rfl⟩ := List.mem_map.1 ha
      have := hc x hx
      omega
    · intro x hx
      simp only [Array.toList_push, List.mem_append, List.mem_singleton] at hx
      rcases hx with hx | rfl
      · have := hc x hx; omega
      · exact Nat.lt_succ_self _
  | some q =>
    obtain ⟨j, u⟩ := q
    rw [hp] at hf
    obtain ⟨e0, h0, h1, h2⟩ := entry_at he hp
    have h0' : es.toList[j]? = some e0 := by simpa using h0
    have hmod : (es.modify j fun e => { e with key := enc k, val := encV v }).toList = es.toList.set j { e0 with key := enc k, val := encV v } := by rw [Array.toList_modify, modify_set _ _ _ _ h0']
    refine ⟨.map (es.modify j fun e => { e with key := enc k, val := encV v }) clock, ?_, fun W2 hm => ⟨_, _, putBlock_at (Array.getElem?_eq_getElem hm), ?_, ?_, ?_⟩⟩
    · simp [Instr.mapUpdate, run_underlying ht, MapKept.run_getObj_map hb, K.check, K.stays, hf, h0, h1, MapKept.run_setObj_map _ hb, Result.andThen, putBlock]
    · rw [hmod, map_set, he, put_some v hp, map_set]; rfl
    · rw [hmod, map_set, set_same _ _ _ (by rw [List.getElem?_map, h0']; rfl)]; exact hn
    · intro x hx
      rw [hmod] at hx
      rcases List.mem_or_eq_of_mem_set hx with hx | rfl
      · exact hc x hx
      · exact hc e0 (List.mem_of_getElem? h0')
/-- 'm[k] op= v': the entry, made where there is none; then its value set. -/
theorem Mq.entry (h : Mq enc encV W m E) (K : KL kt enc) (ht : Try.prog.underlying mt = some (.map kt et)) {zb : β} (hz : ∀ w, (zeroValue et).run Try.prog w = .ok (encV zb) w) (k : α) :
    ∃ (st : Nat) (o1 : Obj), (Instr.mapEntry mt (.map (some m)) (enc k)).run Try.prog W = .ok (.tuple #[((getM k E).map encV).getD (encV zb), .int .i64 st]) (putBlock W m o1) ∧
      (∀ W2 : World, m < W2.heap.size → Mq enc encV (putBlock W2 m o1) m (putM k ((getM k E).getD zb) E)) ∧
      ∀ (v : β), ∃ o2, (∀ W2 : World, W2.heap[m]? = some o1 → (Instr.entryStore mt (.map (some m)) (.int .i64 st) (encV v)).run Try.prog W2 = .ok () (putBlock W2 m o2)) ∧ ∀ W2 : World, m < W2.heap.size → Mq enc encV (putBlock W2 m o2) m (putM k v E) := by
  obtain ⟨es, clock, hb, he, hn, hc⟩ := h
  have hf := K.find encV k W E es.toList he
  rw [get_pos]
  cases hp : posM k E with
  | none =>
    rw [hp] at hf
    have nd : ∀ x : Value, ((es.push { key := enc k, val := x, born := clock }).toList.map (·.born)).Nodup := fun x => by
      simp only [Array.toList_push, List.map_append, List.map_cons, List.map_nil]
      refine List.nodup_append.2 ⟨hn, by simp, fun a ha c hcc e1 => ?_⟩
      simp only [List.mem_singleton] at hcc
      obtain ⟨x, hx, rfl⟩ := List.mem_map.1 ha
      have := hc x hx
      omega
    have lt : ∀ y : Value, ∀ x ∈ (es.push { key := enc k, val := y, born := clock }).toList, x.born < clock + 1 := fun y x hx => by
      simp only [Array.toList_push, List.mem_append, List.mem_singleton] at hx
      rcases hx with hx | rfl
      · have := hc x hx; omega
      · exact Nat.lt_succ_self _
    refine ⟨clock, .map (es.push { key := enc k, val := encV zb, born := clock }) (clock + 1), ?_, fun W2 hm => ⟨_, _, putBlock_at (Array.getElem?_eq_getElem hm), ?_, nd _, lt _⟩, fun v => ⟨.map (es.push { key := enc k, val := encV v, born := clock }) (clock + 1), fun W2 hw2 => ?_, fun W2 hm => ⟨_, _, putBlock_at (Array.getElem?_eq_getElem hm), ?_, nd _, lt _⟩⟩⟩
    · simp [Instr.mapEntry, run_underlying ht, MapKept.run_getObj_map hb, K.check, hf, hz, MapKept.run_setObj_map _ hb, Result.andThen, putBlock, goInt]
    · rw [put_none _ hp]; simp [he, kv, ce]
    · have hidx : (es.push { key := enc k, val := encV zb, born := clock }).findIdx? (fun e => ((e.born : Nat) : Int) == ((clock : Nat) : Int)) = some es.size := by
        rw [show ∀ (xs : Array MapEntry) (p : MapEntry → Bool), xs.findIdx? p = xs.toList.findIdx? p from fun xs p => by cases xs; simp]
        exact born_find (e0 := { key := enc k, val := encV zb, born := clock }) (nd _) (by simp)
      have hmod : (es.push { key := enc k, val := encV zb, born := clock }).modify es.size (fun e => { e with val := encV v }) = es.push { key := enc k, val := encV v, born := clock } := by
        apply Array.ext'
        rw [Array.toList_modify, modify_set _ _ _ { key := enc k, val := encV zb, born := clock } (by simp), Array.toList_push, Array.toList_push]
        simp
      simp [Instr.entryStore, MapKept.run_getObj_map hw2, asInt, asIntOf, hidx, hmod, MapKept.run_setObj_map _ hw2, Result.andThen, putBlock]
    · rw [put_none v hp]; simp [he, kv, ce]
  | some q =>
    obtain ⟨j, u⟩ := q
    rw [hp] at hf
    obtain ⟨e0, h0, h1, h2⟩ := entry_at he hp
    have h0' : es.toList[j]? = some e0 := by simpa using h0
    have hsame : es.modify j (fun e => { e with key := enc k }) = es := by
      apply Array.ext'
      rw [Array.toList_modify, modify_set _ _ _ _ h0']
      have : ({ e0 with key := enc k } : MapEntry) = e0 := by rw [← h1]
      rw [this]
      exact set_same _ _ _ h0'
    have hmod : ∀ v : β, (es.modify j fun e => { e with val := encV v }).toList = es.toList.set j { e0 with val := encV v } := fun v => by rw [Array.toList_modify, modify_set _ _ _ _ h0']
    refine ⟨e0.born, .map es clock, ?_, fun W2 hm => ⟨_, _, putBlock_at (Array.getElem?_eq_getElem hm), ?_, hn, hc⟩, fun v => ⟨.map (es.modify j fun e => { e with val := encV v }) clock, fun W2 hw2 => ?_, fun W2 hm => ⟨_, _, putBlock_at (Array.getElem?_eq_getElem hm), ?_, ?_, ?_⟩⟩⟩
    · simp [Instr.mapEntry, run_underlying ht, MapKept.run_getObj_map hb, K.check, K.stays, hf, h0, h1, hsame, MapKept.run_setObj_map _ hb, Result.andThen, putBlock, goInt]
    · have : (getM k E).getD zb = u := by rw [get_pos, hp]; rfl
      first
        | (rw [this, put_some u hp, set_same _ _ _ (pos_at hp)]; exact he)
        | (simp only [Option.map_some, Option.getD_some]; rw [put_some u hp, set_same _ _ _ (pos_at hp)]; exact he)
    · have hidx : es.findIdx? (fun e => ((e.born : Nat) : Int) == ((e0.born : Nat) : Int)) = some j := by
        rw [show ∀ (xs : Array MapEntry) (p : MapEntry → Bool), xs.findIdx? p = xs.toList.findIdx? p from fun xs p => by cases xs; simp]
        exact born_find hn h0'
      simp [Instr.entryStore, MapKept.run_getObj_map hw2, asInt, asIntOf, hidx, MapKept.run_setObj_map _ hw2, Result.andThen, putBlock]
    · rw [hmod, map_set, he, put_some v hp, map_set]
      have : kv { e0 with val := encV v } = ce enc encV (k, v) := by unfold kv ce; rw [← h1]
      rw [this]
    · rw [hmod, map_set, set_same _ _ _ (by rw [List.getElem?_map, h0']; rfl)]; exact hn
    · intro x hx
      rw [hmod] at hx
      rcases List.mem_or_eq_of_mem_set hx with hx | rfl
      · exact hc x hx
      · exact hc e0 (List.mem_of_getElem? h0')
theorem Mq.drop (h : Mq enc encV W m E) (K : KL kt enc) (ht : Try.prog.underlying mt = some (.map kt et)) (k : α) (ty : TypeId) :
    ∃ o, (Builtin.delete_ #[mt, kt] ty #[.map (some m), enc k]).run Try.prog W = .ok (.tuple #[]) (putBlock W m o) ∧ ∀ W2 : World, m < W2.heap.size → Mq enc encV (putBlock W2 m o) m (delM k E) := by
  obtain ⟨es, clock, hb, he, hn, hc⟩ := h
  have hf := K.find encV k W E es.toList he
  cases hp : posM k E with
  | none =>
    rw [hp] at hf
    refine ⟨.map es clock, ?_, fun W2 hm => ⟨_, _, putBlock_at (Array.getElem?_eq_getElem hm), by rw [del_none hp]; exact he, hn, hc⟩⟩
    have : putBlock W m (.map es clock) = W := by
      unfold putBlock
      have : W.heap.setIfInBounds m (.map es clock) = W.heap := by
        apply Array.ext_getElem?
        intro i
        rw [Array.getElem?_setIfInBounds]
        split
        · rename_i hi
          subst hi
          split
          · exact hb.symm
          · rename_i h9
            exact absurd (Array.getElem?_eq_some_iff.1 hb).1 h9
        · rfl
      rw [this]
    rw [this]
    simp [Builtin.delete_, run_underlying ht, MapKept.run_getObj_map hb, K.check, hf, Result.andThen]
    try simp [MapKept.run_setObj_map _ hb, Result.andThen]
    try exact this
  | some q =>
    obtain ⟨j, u⟩ := q
    rw [hp] at hf
    have hj : j < es.size := by
      obtain ⟨e0, h0, _⟩ := entry_at he hp
      exact (Array.getElem?_eq_some_iff.1 h0).1
    have hsub : (es.eraseIdxIfInBounds j).toList = es.toList.eraseIdx j := by
      unfold Array.eraseIdxIfInBounds
      rw [dif_pos hj]
      simp
    refine ⟨.map (es.eraseIdxIfInBounds j) clock, ?_, fun W2 hm => ⟨_, _, putBlock_at (Array.getElem?_eq_getElem hm), ?_, ?_, ?_⟩⟩
    · simp [Builtin.delete_, run_underlying ht, MapKept.run_getObj_map hb, K.check, hf, MapKept.run_setObj_map _ hb, Result.andThen, putBlock]
    · rw [hsub, map_eraseI, he, del_some hp, map_eraseI]
    · rw [hsub, map_eraseI]; exact hn.sublist (List.eraseIdx_sublist _ _)
    · intro x hx
      rw [hsub] at hx
      exact hc x (List.mem_of_mem_eraseIdx hx)
/-- A range over a map under way: what is left. -/
def Rg (enc : α → Value) (encV : β → Value) (W : World) (m r : Nat) (left : List (α × β)) : Prop :=
  ∃ es clock since seen c0, W.heap[m]? = some (.map es clock) ∧ W.heap[r]? = some (.mapIter (some m) since seen c0) ∧ (leftOf es seen).toList.map kv = left.map (ce enc encV) ∧ (es.toList.map (·.born)).Nodup ∧ (∀ x ∈ es.toList, x.born < since) ∧ since ≤ c0 ∧ since ≤ clock
theorem Rg.of {left : List (α × β)} (h : Rg enc encV W m r left) (hm : W'.heap[m]? = W.heap[m]?) (hr : W'.heap[r]? = W.heap[r]?) : Rg enc encV W' m r left := by
  obtain ⟨es, clock, since, seen, c0, h1, h2, h3⟩ := h
  exact ⟨es, clock, since, seen, c0, hm.trans h1, hr.trans h2, h3⟩
theorem Mq.range {t : TypeId} (h : Mq enc encV W m E) (ht : Try.prog.underlying t = some (.map kt et)) :
    ∃ o, (Instr.range t (.map (some m))).run Try.prog W = .ok (.pointer (some ⟨W.heap.size, 0, none⟩)) (W.alloc o) ∧ Rg enc encV (W.alloc o) m W.heap.size E := by
  have hl := h.lt
  obtain ⟨es, clock, hb, he, hn, hc⟩ := h
  refine ⟨_, run_range_map W t kt et m es clock ht hb, es, clock, clock, #[], clock, (heap_alloc_old W _ hl).trans hb, heap_alloc_new W _, ?_, hn, hc, Nat.le_refl _, Nat.le_refl _⟩
  have : leftOf es #[] = es := by unfold leftOf; simp
  rw [this]; exact he
theorem part_born : ∀ {L : List MapEntry} {e : MapEntry}, (L.map (·.born)).Nodup → e ∈ L → ∃ A B, L = A ++ e :: B ∧ L.filter (fun x => x.born != e.born) = A ++ B
  | [], e, _, h => by cases h
  | a :: L, e, hn, h => by
    simp only [List.map_cons, List.nodup_cons] at hn
    rcases List.mem_cons.1 h with rfl | h
    · refine ⟨[], L, rfl, ?_⟩
      rw [List.filter_cons_of_neg (by simp), List.filter_eq_self.2]
      · rfl
      · intro x hx
        simp only [bne_iff_ne, ne_eq]
        exact fun e1 => hn.1 (List.mem_map.2 ⟨x, hx, e1⟩)
    · obtain ⟨A, B, h1, h2⟩ := part_born hn.2 h
      refine ⟨a :: A, B, by rw [h1]; rfl, ?_⟩
      rw [List.filter_cons_of_pos, h2]
      · rfl
      · simp only [bne_iff_ne, ne_eq]
        exact fun e1 => hn.1 (List.mem_map.2 ⟨e, h, e1.symm⟩)
theorem Rg.next {left : List (α × β)} (h : Rg enc encV W m r left) (ty : TypeId) :
    (left = [] ∧ (Instr.next (.pointer (some ⟨r, 0, none⟩)) false ty).run Try.prog W = .ok (.tuple #[.bool false]) W) ∨
    ∃ p A B W1 o, left = A ++ p :: B ∧ (W1 = W ∨ W1 = W.drew) ∧ (Instr.next (.pointer (some ⟨r, 0, none⟩)) false ty).run Try.prog W = .ok (.tuple #[.bool true, enc p.1, encV p.2]) (putBlock W1 r o) ∧
      Rg enc encV (putBlock W1 r o) m r (A ++ B) ∧ (Instr.entry (.pointer (some ⟨r, 0, none⟩))).run Try.prog (putBlock W1 r o) = .ok (.tuple #[enc p.1, encV p.2]) (putBlock W1 r o) := by
  obtain ⟨es, clock, since, seen, c0, hb, hr, hl, hn, hold, hsc, hsk⟩ := h
  have hmr : m ≠ r := fun e => by rw [e, hr] at hb; cases hb
  rcases run_next_at (P := Try.prog) W ty r m since c0 seen es clock hr hb hold hsc with ⟨h0, hrun⟩ | ⟨e, he, w1, hal, hrun⟩
  · refine .inl ⟨?_, hrun⟩
    have h1 : (leftOf es seen).toList = [] := List.length_eq_zero_iff.1 (by simpa using h0)
    rw [h1] at hl
    cases left with
    | nil => rfl
    | cons _ _ => simp at hl
  · refine .inr ?_
    have hsub : (leftOf es seen).toList = es.toList.filter (fun x => !seen.contains x.born) := by unfold leftOf; simp
    have hn' : ((leftOf es seen).toList.map (·.born)).Nodup := by
      rw [hsub]
      exact hn.sublist (List.filter_sublist.map _)
    obtain ⟨A0, B0, h1, h2⟩ := part_born hn' he
    rw [h1, List.map_append, List.map_cons] at hl
    obtain ⟨A, R, e1, e2, e3⟩ := List.map_eq_append_iff.1 hl.symm
    obtain ⟨p, B, e4, e5, e6⟩ := List.map_eq_cons_iff.1 e3
    simp only [ce, kv, Prod.mk.injEq] at e5
    have hes : e ∈ es.toList := by
      have := he
      rw [hsub] at this
      exact (List.mem_filter.1 this).1
    have hb1 : w1.heap[m]? = some (.map es clock) := by rcases hal with rfl | rfl <;> exact hb
    have hr1 : w1.heap[r]? = some (.mapIter (some m) since seen c0) := by rcases hal with rfl | rfl <;> exact hr
    refine ⟨p, A, B, w1, .mapIter (some m) since (seen.push e.born) clock, by rw [e1, e4], hal, ?_, ?_, ?_⟩
    · rw [e5.1, e5.2]; exact hrun
    · refine ⟨es, clock, since, seen.push e.born, clock, (putBlock_far hmr).trans hb1, putBlock_at hr1, ?_, hn, hold, hsk, hsk⟩
      have hq : (leftOf es (seen.push e.born)).toList = (leftOf es seen).toList.filter (fun x => x.born != e.born) := by
        rw [hsub]
        unfold leftOf
        simp only [Array.toList_filter, List.filter_filter]
        refine List.filter_congr fun x _ => ?_
        simp only [Array.contains_push, Bool.not_or]
        rw [Bool.and_comm]
        congr 1
      rw [hq, h2, List.map_append, List.map_append, e2, e6]
    · rw [e5.1, e5.2]
      exact run_entry_at (P := Try.prog) (putBlock w1 r (.mapIter (some m) since (seen.push e.born) clock)) r m since seen es clock e (putBlock_at hr1) ((putBlock_far hmr).trans hb1) hes hn
end
end Go.Proofs.Ytghlajfalgdkfaa
