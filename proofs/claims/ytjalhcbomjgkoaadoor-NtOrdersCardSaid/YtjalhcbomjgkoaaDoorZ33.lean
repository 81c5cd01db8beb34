/-
  MERGED (a claim has at most 60 files): NJn, NGath.
-/
import Derived.Test.YtjalhcbomjgkoaaDoorZ31
import Derived.Test.YtjalhcbomjgkoaaDoorZ32
import Derived.Deep.AppendLies
/-
  WHAT STANDS WHILE GOOD TRIPLES ARE GATHERED: plain lists; lines' sizes; the rows.
-/
namespace Go.Proofs.YtjalhcbomjgkoaaDoor
open Go.RowKit
set_option linter.unusedVariables false
set_option linter.unusedSimpArgs false

/-! ### Plain -/
noncomputable def okL : List Tm → Bool
  | [a, b, c] => okR a b c 0
  | _ => false
noncomputable def goodL (L : List (List Tm)) : List (List Tm) := L.filter okL
theorem goodL_snoc (L : List (List Tm)) (ts : List Tm) : goodL (L ++ [ts]) = if okL ts = true then goodL L ++ [ts] else goodL L := by
  unfold goodL
  rw [List.filter_append]
  split
  · rename_i h; simp [h]
  · rename_i h; simp [h]
/-- Terms of kinds that there are, not long. -/
def Sm (ts : List Tm) : Prop := ∃ a b c, ts = [a, b, c] ∧ ∀ t ∈ ts, t.kind < 3 ∧ t.ta.size ≤ 300 ∧ t.tb.size ≤ 300 ∧ t.tc.size ≤ 100
theorem Sm.few {ts : List Tm} (h : Sm ts) : ∀ t ∈ ts, t.few := fun t ht => by
  obtain ⟨a, b, c, rfl, h⟩ := h
  have := h t ht
  exact ⟨by omega, by omega, by omega⟩
theorem Sm.len {ts : List Tm} (h : Sm ts) : ts.length = 3 := by obtain ⟨a, b, c, rfl, _⟩ := h; rfl
theorem pl3_kind (k : Int) (a b c : ByteArray) : (pl3 k a b c).kind < 3 := by
  unfold pl3
  split
  · simp [Tm.kind]
  split
  · simp [Tm.kind]
  · simp [Tm.kind]
theorem few_sm {l : List Dt} (h : fewB l = true) : ∀ ts ∈ fewL l, Sm ts := fun ts hts => by
  unfold fewB at h
  unfold fewL at hts
  obtain ⟨t, ht, rfl⟩ := List.mem_map.1 hts
  have hs := List.all_eq_true.1 h t ht
  unfold Dt.sh at hs
  have hs := List.all_eq_true.1 hs
  refine ⟨t.s.pl, t.p.pl, t.o.pl, rfl, fun u hu => ?_⟩
  obtain ⟨r, hr, rfl⟩ := List.mem_map.1 hu
  have hr2 := hs r hr
  unfold Dw.sh at hr2
  simp only [Bool.and_eq_true, decide_eq_true_eq] at hr2
  have hp := pl3_small r.k r.a r.b r.c
  exact ⟨pl3_kind _ _ _ _, by unfold Dw.pl; omega, by unfold Dw.pl; omega, by unfold Dw.pl; omega⟩
theorem few_len (l : List Dt) : (fewL l).length ≤ 10 := by unfold fewL; rw [List.length_map, List.length_take]; omega
theorem ok_gd {ts : List Tm} (h : okL ts = true) : Gd ts := by
  match ts, h with
  | [a, b, c], h =>
    have h' : okR a b c 0 = true := h
    unfold okR okP at h'
    simp only [Bool.and_eq_true] at h'
    exact ⟨a, b, c, rfl, ⟨h'.1.1, h'.2.1.1, h'.2.2.1⟩, ⟨h'.1.2, h'.2.1.2, h'.2.2.2⟩⟩
theorem goodL_gd {L : List (List Tm)} : ∀ ts ∈ goodL L, Gd ts := fun ts h => ok_gd (List.mem_filter.1 h).2
theorem goodL_sm {L : List (List Tm)} (h : ∀ ts ∈ L, Sm ts) : ∀ ts ∈ goodL L, Sm ts := fun ts ht => h ts (List.mem_filter.1 ht).1
theorem goodL_len (L : List (List Tm)) : (goodL L).length ≤ L.length := List.length_filter_le _ _
/-! ### Sizes -/
theorem quoT_size (l : List Int) : (textOf (quoS l)).size ≤ 6 * l.length + 2 := by
  have e : (textOf (quoS l)).data.toList = quoteL l := by rw [textOf_list, quoS_bytes]
  have h1 : (textOf (quoS l)).size = (quoteL l).length := by rw [← e, Array.length_toList]; rfl
  have h2 := escL_len l
  rw [h1]
  unfold quoteL
  simp
  omega
theorem tS_size (t : Tm) (hg : goodT t = true) : (textOf (tS t)).size ≤ 6 * t.ta.size + t.tb.size + t.tc.size + 6 ∧ (t.kind < 2 → (textOf (tS t)).size ≤ t.ta.size + 2) := by
  cases t with
  | iri s =>
    have e := sg_text (iri_signs (s := s) hg).1
    have hz : textOf (tS (.iri s)) = (⟨#[60]⟩ ++ s) ++ ⟨#[62]⟩ := by unfold tS; rw [text_cons, textOf_app, e, ← ByteArray.append_assoc]; rfl
    rw [hz, ByteArray.size_append, ByteArray.size_append]
    have h1 : (⟨#[60]⟩ : ByteArray).size = 1 := rfl
    have h2 : (⟨#[62]⟩ : ByteArray).size = 1 := rfl
    rw [h1, h2]
    simp only [Tm.ta, Tm.tb, Tm.tc]
    exact ⟨by omega, fun _ => by omega⟩
  | blank s =>
    have e := sg_text (label_signs (s := s) hg).1
    have hz : textOf (tS (.blank s)) = ⟨#[95, 58]⟩ ++ s := by
      unfold tS
      have e3 : textOf (95 :: 58 :: (sgP s).1) = textOf [95, 58] ++ textOf (sgP s).1 := by rw [← textOf_app]; rfl
      rw [e3, e]; rfl
    rw [hz, ByteArray.size_append]
    have h1 : (⟨#[95, 58]⟩ : ByteArray).size = 2 := rfl
    rw [h1]
    simp only [Tm.ta, Tm.tb, Tm.tc]
    exact ⟨by omega, fun _ => by omega⟩
  | lit a b c =>
    refine ⟨?_, fun h => absurd h (by simp [Tm.kind])⟩
    have hg' : litG a b c = true := hg
    unfold litG at hg'
    rw [Bool.and_eq_true] at hg'
    have hq := quoT_size (sgP a).1
    have ha := sg_small a
    have ht : (textOf (tailS b c)).size ≤ b.size + c.size + 4 := by
      unfold tailS
      by_cases h0 : c.size = 0
      · rw [if_pos h0]
        rw [if_pos h0, Bool.and_eq_true] at hg'
        by_cases hx : b = XS
        · rw [if_pos hx]
          have h1 : (textOf []).size = 0 := rfl
          rw [h1]; omega
        · rw [if_neg hx]
          have e := sg_text (iri_signs hg'.2.2).1
          have e3 : textOf (94 :: 94 :: 60 :: ((sgP b).1 ++ [62])) = (textOf [94, 94, 60] ++ textOf (sgP b).1) ++ textOf [62] := by rw [← textOf_app, ← textOf_app]; rfl
          rw [e3, e, ByteArray.size_append, ByteArray.size_append]
          have h1 : (textOf [94, 94, 60]).size = 3 := rfl
          have h2 : (textOf [62]).size = 1 := rfl
          rw [h1, h2]; omega
      · rw [if_neg h0]
        rw [if_neg h0, Bool.and_eq_true] at hg'
        have e := sg_text (lang_signs hg'.2.2).1
        rw [text_cons, e, ByteArray.size_append]
        have h1 : (textOf [64]).size = 1 := rfl
        rw [h1]; omega
    have hz : textOf (tS (.lit a b c)) = textOf (quoS (sgP a).1) ++ textOf (tailS b c) := by unfold tS; exact textOf_app _ _
    rw [hz, ByteArray.size_append]
    simp only [Tm.ta, Tm.tb, Tm.tc]
    omega
  | odd n => cases hg
  | none => cases hg
theorem may_low {t : Tm} {part : Nat} (h : mayB t part = true) (hp : part < 2) : t.kind < 2 := by
  have := kind_nn t
  unfold mayB at h
  simp at h
  omega
theorem ln_size {ts : List Tm} (hs : Sm ts) (hg : Gd ts) : (textOf (lnS ts)).size ≤ 2820 := by
  obtain ⟨a, b, c, rfl, hg, hm⟩ := hg
  obtain ⟨a', b', c', e, hs⟩ := hs
  have h0 := hs a (by simp)
  have h1 := hs b (by simp)
  have h2 := hs c (by simp)
  have sa := (tS_size a hg.1).2 (may_low hm.1 (by decide))
  have sb := (tS_size b hg.2.1).2 (may_low hm.2.1 (by decide))
  have sc := (tS_size c hg.2.2).1
  rw [lnS_T, textOf_app, tri_text]
  simp only [ByteArray.size_append]
  have n1 : (⟨#[32]⟩ : ByteArray).size = 1 := rfl
  have n2 : (⟨#[32, 46]⟩ : ByteArray).size = 2 := rfl
  have n3 : (textOf [10]).size = 1 := rfl
  rw [n1, n2, n3]
  omega
theorem lns_size : ∀ L : List (List Tm), (∀ ts ∈ L, Sm ts ∧ Gd ts) → (textOf (lnsS L)).size ≤ 2820 * L.length
  | [], _ => by
    have h : (textOf (lnsS [])).size = 0 := rfl
    rw [h]; omega
  | ts :: L, h => by
    have h1 := ln_size (h ts List.mem_cons_self).1 (h ts List.mem_cons_self).2
    have ih := lns_size L fun x hx => h x (List.mem_cons_of_mem _ hx)
    rw [lnsS_cons, textOf_app, ByteArray.size_append, List.length_cons]
    omega
/-! ### Rows -/
theorem rows_apart {W : World} {B B' : Nat} {e e' : TypeId} {m m' n n' : Nat} {v v' : Value} {xs xs' : List Value} (h : W.ownsRow B e m v n xs) (h' : W.ownsRow B' e' m' v' n' xs') (hne : e ≠ e') : v.ownBlock = none ∨ v.ownBlock ≠ v'.ownBlock := by
  rcases h.2 with ⟨hv, _⟩ | ⟨g, cap, cur, hv, _, hg, _⟩
  · left; rw [hv]; rfl
  · right
    intro eq
    rcases h'.2 with ⟨hv', _⟩ | ⟨g', cap', cur', hv', _, hg', _⟩
    · rw [hv, hv'] at eq; cases eq
    · rw [hv, hv'] at eq
      simp [Value.ownBlock] at eq
      subst eq
      rw [hg] at hg'
      cases hg'
      exact hne rfl
theorem row_box {W : World} {B : Nat} {e t : TypeId} {m n : Nat} {v : Value} {xs : List Value} {g : Nat} {cs : Array Value} (h : W.ownsRow B e m v n xs) (hb : Fb W g t cs) (hne : e ≠ t) : v.ownBlock ≠ some g := by
  rcases h.2 with ⟨hv, _⟩ | ⟨g', cap, cur, hv, _, hg, _⟩
  · rw [hv]; intro e; cases e
  · rw [hv]
    intro e
    simp [Value.ownBlock] at e
    subst e
    unfold Fb at hb
    rw [hg] at hb
    cases hb
    exact hne rfl
theorem types_ne : 67 ≠ 59 := by decide
/-- The loop's world: a box; all good ones so far (the document's); a row that is done; the row that grows. -/
structure Jw (W0 : World) (N1 g : Nat) (cs : Array Value) (v9 : Value) (L9 : List (List Tm)) (vf : Value) (F : List (List Tm)) (v10 : Value) (L10 : List (List Tm)) (W : World) : Prop where
  b : Below W0.heap.size W0 W
  n0 : W0.heap.size ≤ N1
  n1 : N1 ≤ W.heap.size
  box : Fb W g 59 cs
  all : DtV W0.heap.size W v9 L9
  done : TrsV W0.heap.size W vf F
  row : TrsV N1 W v10 L10
  far : ∀ k, vf.ownBlock = some k → k < N1
  ne : v9.ownBlock ≠ some g
section
variable {W0 : World} {N1 g : Nat} {cs : Array Value} {v9 vf v10 : Value} {L9 F L10 : List (List Tm)}
theorem Jw.below {W W' : World} (h : Jw W0 N1 g cs v9 L9 vf F v10 L10 W) (hb : Below W.heap.size W W') : Jw W0 N1 g cs v9 L9 vf F v10 L10 W' :=
  ⟨h.b.trans (hb.mono h.b.size), h.n0, Nat.le_trans h.n1 hb.size, h.box.below hb, h.all.below hb, h.done.below hb, h.row.below hb, h.far, h.ne⟩
theorem Jw.alloc {W : World} (h : Jw W0 N1 g cs v9 L9 vf F v10 L10 W) (o : Obj) : Jw W0 N1 g cs v9 L9 vf F v10 L10 (W.alloc o) := h.below ((Below.refl _ _).alloc (Nat.le_refl _) o)
theorem Jw.drew {W : World} (h : Jw W0 N1 g cs v9 L9 vf F v10 L10 W) : Jw W0 N1 g cs v9 L9 vf F v10 L10 W.drew := ⟨Below.drew h.b, h.n0, h.n1, h.box, h.all, h.done, h.row, h.far, h.ne⟩
theorem jw_of {W : World} {f : Nat} {args : Array Value} {y : Value} (h : Jw W0 N1 g cs v9 L9 vf F v10 L10 W) (k : Calls Tryd.prog f args W fun e w' => e = .returned y ∧ Below W.heap.size W w') :
    Calls Tryd.prog f args W fun e w' => e = .returned y ∧ Jw W0 N1 g cs v9 L9 vf F v10 L10 w' := k.mono fun _ _ ⟨x, z⟩ => ⟨x, h.below z⟩
theorem Jw.app9 {W w5 : World} {n cap g5 : Nat} {news : List Value} {ts : List Tm} (h : Jw W0 N1 g cs v9 L9 vf F v10 L10 W) (hn : n = L9.length + 1) (hw : news = ts.flatMap c4)
    (hown : w5.ownsRow W0.heap.size 59 12 (.slice (some ⟨g5, 0, none⟩) n cap) n (cellsD L9 ++ news)) (hg : W.grownBy w5 v9.ownBlock) (hloc : v9.ownBlock = some g5 ∨ g5 = W.heap.size) :
    Jw W0 N1 g cs (.slice (some ⟨g5, 0, none⟩) n cap) (L9 ++ [ts]) vf F v10 L10 w5 := by
  subst hw
  refine ⟨h.b.grown hg h.b.size (fun j hj => (World.ownsRow.lt h.all j hj).1), h.n0, Nat.le_trans h.n1 hg.size, (hg.block g h.box.lt (fun e => h.ne e.symm)).trans h.box, ?_,
    World.ownsRow.kept h.done hg (rows_apart h.done h.all types_ne), World.ownsRow.kept h.row hg (rows_apart h.row h.all types_ne), h.far, ?_⟩
  · unfold DtV
    rw [cellsD_snoc, List.length_append]
    subst hn
    exact hown
  · intro e
    have e' : some g5 = some g := e
    rcases hloc with hl | hl
    · exact h.ne (by rw [hl, e'])
    · have := h.box.lt
      have := Option.some.inj e'
      omega
theorem Jw.app10 {W w5 : World} {n cap g5 : Nat} {news : List Value} {ts : List Tm} (h : Jw W0 N1 g cs v9 L9 vf F v10 L10 W) (hn : n = L10.length + 1) (hw : news = ts.map Tm.val)
    (hown : w5.ownsRow N1 67 3 (.slice (some ⟨g5, 0, none⟩) n cap) n (cellsT L10 ++ news)) (hg : W.grownBy w5 v10.ownBlock) :
    Jw W0 N1 g cs v9 L9 vf F (.slice (some ⟨g5, 0, none⟩) n cap) (L10 ++ [ts]) w5 := by
  subst hw
  have hne : vf.ownBlock = none ∨ vf.ownBlock ≠ v10.ownBlock := by
    cases hv : vf.ownBlock with
    | none => exact .inl rfl
    | some k =>
      right
      intro e
      have h1 := h.far k hv
      have h2 := (World.ownsRow.lt h.row k e.symm).1
      omega
  refine ⟨h.b.grown hg h.b.size (fun j hj => Nat.le_trans h.n0 (World.ownsRow.lt h.row j hj).1), h.n0, Nat.le_trans h.n1 hg.size, (hg.block g h.box.lt (fun e => row_box h.row h.box types_ne e.symm)).trans h.box,
    World.ownsRow.kept h.all hg (rows_apart h.all h.row types_ne.symm), World.ownsRow.kept h.done hg hne, ?_, h.far, h.ne⟩
  unfold TrsV
  rw [cellsT_snoc, List.length_append]
  subst hn
  exact hown
end
end Go.Proofs.YtjalhcbomjgkoaaDoor

/-
  GOOD TRIPLES ARE GATHERED: the loop's relation.
-/
namespace Go.Proofs.YtjalhcbomjgkoaaDoor
open Go.RowKit
set_option linter.unusedVariables false
set_option linter.unusedSimpArgs false

/-- The world between two rounds. -/
structure J0 (W0 : World) (N1 : Nat) (v9 : Value) (L9 : List (List Tm)) (vf : Value) (F : List (List Tm)) (v10 : Value) (L10 : List (List Tm)) (W : World) : Prop where
  b : Below W0.heap.size W0 W
  n0 : W0.heap.size ≤ N1
  n1 : N1 ≤ W.heap.size
  all : DtV W0.heap.size W v9 L9
  done : TrsV W0.heap.size W vf F
  row : TrsV N1 W v10 L10
  far : ∀ k, vf.ownBlock = some k → k < N1
section
variable {W0 : World} {N1 : Nat} {v9 vf v10 : Value} {L9 F L10 : List (List Tm)}
theorem Jw.j0 {g : Nat} {cs : Array Value} {W : World} (h : Jw W0 N1 g cs v9 L9 vf F v10 L10 W) : J0 W0 N1 v9 L9 vf F v10 L10 W := ⟨h.b, h.n0, h.n1, h.all, h.done, h.row, h.far⟩
theorem J0.boxed {W : World} (h : J0 W0 N1 v9 L9 vf F v10 L10 W) (cs : Array Value) : Jw W0 N1 W.heap.size cs v9 L9 vf F v10 L10 (W.alloc (.cells cs 59)) :=
  have hb : Below W.heap.size W (W.alloc (.cells cs 59)) := (Below.refl _ _).alloc (Nat.le_refl _) _
  ⟨h.b.alloc h.b.size _, h.n0, Nat.le_trans h.n1 hb.size, Fb.new _ _ _, h.all.below hb, h.done.below hb, h.row.below hb, h.far, fun e => by have := (World.ownsRow.lt h.all _ e).2; omega⟩
theorem J0.below {W W' : World} (h : J0 W0 N1 v9 L9 vf F v10 L10 W) (hb : Below W.heap.size W W') : J0 W0 N1 v9 L9 vf F v10 L10 W' :=
  ⟨h.b.trans (hb.mono h.b.size), h.n0, Nat.le_trans h.n1 hb.size, h.all.below hb, h.done.below hb, h.row.below hb, h.far⟩
theorem j0_of {W : World} {f : Nat} {args : Array Value} {y : Value} (h : J0 W0 N1 v9 L9 vf F v10 L10 W) (k : Calls Tryd.prog f args W fun e w' => e = .returned y ∧ Below W.heap.size W w') :
    Calls Tryd.prog f args W fun e w' => e = .returned y ∧ J0 W0 N1 v9 L9 vf F v10 L10 w' := k.mono fun _ _ ⟨x, z⟩ => ⟨x, h.below z⟩
/-- The row that was gathered is done; the next one begins. -/
theorem J0.turn {W : World} (h : J0 W0 N1 v9 L9 vf F v10 L10 W) : J0 W0 W.heap.size v9 L9 v10 L10 (.slice none 0 0) [] W :=
  ⟨h.b, h.b.size, Nat.le_refl _, h.all, ⟨h.row.1, by
    rcases id h.row.2 with x | ⟨g, cap, cur, hv, hge, r⟩
    · exact .inl x
    · exact .inr ⟨g, cap, cur, hv, Nat.le_trans h.n0 hge, r⟩⟩, trsV_nil _ _, fun k hk => (World.ownsRow.lt h.row k hk).2⟩
theorem j0_start (W : World) : J0 W W.heap.size (.slice none 0 0) [] (.slice none 0 0) [] (.slice none 0 0) [] W :=
  ⟨Below.refl _ _, Nat.le_refl _, Nat.le_refl _, dtV_nil _ _, trsV_nil _ _, trsV_nil _ _, fun k hk => by cases hk⟩
end
def LpI (W0 : World) (N1 : Nat) (P La : List (List Tm)) (vf : Value) (F : List (List Tm)) (g : Nat) (s9 s10 s39 : Value) (wr : World) : Prop :=
  ∃ (i : Nat) (A : Option Addr) (c : Nat) (A' : Option Addr) (c' : Nat), i + g = La.length ∧ s39 = .int .i64 i ∧ s9 = .slice A (P ++ goodL (La.take i)).length c ∧ s10 = .slice A' (goodL (La.take i)).length c' ∧
    J0 W0 N1 (.slice A (P ++ goodL (La.take i)).length c) (P ++ goodL (La.take i)) vf F (.slice A' (goodL (La.take i)).length c') (goodL (La.take i)) wr
theorem lp_bad {W0 : World} {N1 : Nat} {P La : List (List Tm)} {vf : Value} {F : List (List Tm)} {g i : Nat} {ts : List Tm} (hig : i + (g + 1) = La.length) (hts : La[i]? = some ts) (hok : okL ts = false) {A A' : Option Addr} {c c' : Nat} {s39 : Value} {W : World}
    (hs : s39 = .int .i64 ((i + 1 : Nat) : Int)) (h : J0 W0 N1 (.slice A (P ++ goodL (La.take i)).length c) (P ++ goodL (La.take i)) vf F (.slice A' (goodL (La.take i)).length c') (goodL (La.take i)) W) :
    LpI W0 N1 P La vf F g (.slice A (P ++ goodL (La.take i)).length c) (.slice A' (goodL (La.take i)).length c') s39 W := by
  have e : goodL (La.take (i + 1)) = goodL (La.take i) := by
    rw [List.take_add_one, hts]
    show goodL (La.take i ++ [ts]) = _
    rw [goodL_snoc, if_neg (by rw [hok]; decide)]
  refine ⟨i + 1, A, c, A', c', by omega, hs, ?_, ?_, ?_⟩
  · rw [e]
  · rw [e]
  · rw [e]; exact h
theorem lp_good {W0 : World} {N1 : Nat} {P La : List (List Tm)} {vf : Value} {F : List (List Tm)} {g i : Nat} {ts : List Tm} (hig : i + (g + 1) = La.length) (hts : La[i]? = some ts) (hok : okL ts = true) {A A' : Option Addr} {c c' : Nat} {s39 : Value} {W : World}
    (hs : s39 = .int .i64 ((i + 1 : Nat) : Int)) (h : J0 W0 N1 (.slice A ((P ++ goodL (La.take i)).length + 1) c) (P ++ goodL (La.take i) ++ [ts]) vf F (.slice A' ((goodL (La.take i)).length + 1) c') (goodL (La.take i) ++ [ts]) W) :
    LpI W0 N1 P La vf F g (.slice A ((P ++ goodL (La.take i)).length + 1) c) (.slice A' ((goodL (La.take i)).length + 1) c') s39 W := by
  have e : goodL (La.take (i + 1)) = goodL (La.take i) ++ [ts] := by
    rw [List.take_add_one, hts]
    show goodL (La.take i ++ [ts]) = _
    rw [goodL_snoc, if_pos hok]
  have e9 : (P ++ goodL (La.take (i + 1))).length = (P ++ goodL (La.take i)).length + 1 := by rw [e, ← List.append_assoc, List.length_append]; rfl
  have e10 : (goodL (La.take (i + 1))).length = (goodL (La.take i)).length + 1 := by rw [e, List.length_append]; rfl
  refine ⟨i + 1, A, c, A', c', by omega, hs, ?_, ?_, ?_⟩
  · rw [e9]
  · rw [e10]
  · rw [e9, e10, e, ← List.append_assoc]; exact h
theorem few_true {l : List Dt} (h : fewB l = true) (hok : ∀ t ∈ l, t.ok) (A : Option Addr) (cap : Nat) (hc : l.length ≤ cap) (hm : cap ≤ maxLen) (w : World) (hs : SlAt w A 12 (l.map Dt.cells)) {W : World} (hb : Below w.heap.size w W) :
    Calls Tryd.prog 33 #[.slice A l.length cap] W fun e w' => ∃ A' c', e = .returned (.tuple #[.slice A' (fewL l).length c', .bool true]) ∧ DtV W.heap.size w' (.slice A' (fewL l).length c') (fewL l) ∧ Below W.heap.size W w' :=
  (nfew_any l hok A cap hc hm W (hs.below hb)).mono fun e w' ⟨v, e1, h1, h2⟩ => by
    obtain ⟨A', c', rfl⟩ := (h1 h).shape
    exact ⟨A', c', by rw [e1, h], h1 h, h2⟩
theorem few_false {l : List Dt} (h : fewB l = false) (hok : ∀ t ∈ l, t.ok) (A : Option Addr) (cap : Nat) (hc : l.length ≤ cap) (hm : cap ≤ maxLen) (w : World) (hs : SlAt w A 12 (l.map Dt.cells)) {W : World} (hb : Below w.heap.size w W) :
    Calls Tryd.prog 33 #[.slice A l.length cap] W fun e w' => ∃ v, e = .returned (.tuple #[v, .bool false]) ∧ Below W.heap.size W w' :=
  (nfew_any l hok A cap hc hm W (hs.below hb)).mono fun e w' ⟨v, e1, h1, h2⟩ => ⟨v, by rw [e1, h], h2⟩
theorem few_any {l : List Dt} (hok : ∀ t ∈ l, t.ok) (A : Option Addr) (cap : Nat) (hc : l.length ≤ cap) (hm : cap ≤ maxLen) (w : World) (hs : SlAt w A 12 (l.map Dt.cells)) {W : World} (hb : Below w.heap.size w W) :
    Calls Tryd.prog 33 #[.slice A l.length cap] W fun e w' => ∃ v, e = .returned (.tuple #[v, .bool (fewB l)]) ∧ Below W.heap.size W w' :=
  (nfew_any l hok A cap hc hm W (hs.below hb)).mono fun e w' ⟨v, e1, h1, h2⟩ => ⟨v, e1, h2⟩
/-- Lines of good triples, behind one another, parsed. -/
theorem parse_lines {F : List (List Tm)} (hF : ∀ ts ∈ F, Sm ts ∧ Gd ts) (hn : F.length ≤ 30) {s : ByteArray} (hs : s = textOf (lnsS F)) (W : World) (t : TypeId) (fr : Nat × Nat) (htab : W.heap[0]? = some (.cells escCells t fr)) :
    Calls Tryd.prog 37 #[.string s] W fun e w' => ∃ A c, e = .returned (.tuple #[.slice A F.length c, .int .i64 0, .int .i64 0]) ∧ TrsV W.heap.size w' (.slice A F.length c) F ∧ Below W.heap.size W w' := by
  have h1 := lns_size F hF
  have hp := nparse_any s (lnsS F) [] (by rw [hs]; exact parts_text (lnsS_all F)) (by rw [hs]; omega) W t fr htab
  rw [prsB_lines F fun ts h => (hF ts h).2] at hp
  exact hp.mono fun e w' ⟨v, e1, h1, h2⟩ => by
    obtain ⟨A, c, rfl⟩ := h1.shape
    exact ⟨A, c, e1, h1, h2⟩
end Go.Proofs.YtjalhcbomjgkoaaDoor
