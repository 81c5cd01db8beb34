/-
  MERGED (a claim has at most 60 files): NJn, NGath, RQuote, RQdA.
-/
import Derived.Test.YtjalhcbomjgkoaaGreatDoorZ23
import Derived.Test.YtjalhcbomjgkoaaGreatDoorZ24
import Derived.Deep.AppendLies
import Derived.Test.YtjalhcbomjgkoaaGreatDoorZ08
import Derived.Test.YtjalhcbomjgkoaaGreatDoorZ06
import Derived.Test.YtjalhcbomjgkoaaGreatDoorZ07
/-
  WHAT STANDS WHILE GOOD TRIPLES ARE GATHERED: plain lists; lines' sizes; the rows.
-/
namespace Go.Proofs.YtjalhcbomjgkoaaGreatDoor
open Go.RowKit
set_option linter.unusedVariables false
set_option linter.unusedSimpArgs false

/-! ### Plain -/
noncomputable def okL : List Tm → Bool
  | [a, b, c] => okR a b c 0
  | _ => false
noncomputable def goodL (L : List (List Tm)) : List (List Tm) := L.filter okL
theorem goodL_snoc (L : List (List Tm)) (ts : List Tm) : goodL (L ++ [ts]) = if okL ts = true then goodL L ++ [ts] else goodL L := by
  unfold goodL
  rw [List.filter_append]
  split
  · rename_i h; simp [h]
  · rename_i h; simp [h]
/-- Terms of kinds that there are, not long. -/
def Sm (ts : List Tm) : Prop := ∃ a b c, ts = [a, b, c] ∧ ∀ t ∈ ts, t.kind < 3 ∧ t.ta.size ≤ 300 ∧ t.tb.size ≤ 300 ∧ t.tc.size ≤ 100
theorem Sm.few {ts : List Tm} (h : Sm ts) : ∀ t ∈ ts, t.few := fun t ht => by
  obtain ⟨a, b, c, rfl, h⟩ := h
  have := h t ht
  exact ⟨by omega, by omega, by omega⟩
theorem Sm.len {ts : List Tm} (h : Sm ts) : ts.length = 3 := by obtain ⟨a, b, c, rfl, _⟩ := h; rfl
theorem pl3_kind (k : Int) (a b c : ByteArray) : (pl3 k a b c).kind < 3 := by
  unfold pl3
  split
  · simp [Tm.kind]
  split
  · simp [Tm.kind]
  · simp [Tm.kind]
theorem few_sm {l : List Dt} (h : fewB l = true) : ∀ ts ∈ fewL l, Sm ts := fun ts hts => by
  unfold fewB at h
  unfold fewL at hts
  obtain ⟨t, ht, rfl⟩ := List.mem_map.1 hts
  have hs := List.all_eq_true.1 h t ht
  unfold Dt.sh at hs
  have hs := List.all_eq_true.1 hs
  refine ⟨t.s.pl, t.p.pl, t.o.pl, rfl, fun u hu => ?_⟩
  obtain ⟨r, hr, rfl⟩ := List.mem_map.1 hu
  have hr2 := hs r hr
  unfold Dw.sh at hr2
  simp only [Bool.and_eq_true, decide_eq_true_eq] at hr2
  have hp := pl3_small r.k r.a r.b r.c
  exact ⟨pl3_kind _ _ _ _, by unfold Dw.pl; omega, by unfold Dw.pl; omega, by unfold Dw.pl; omega⟩
theorem few_len (l : List Dt) : (fewL l).length ≤ 10 := by unfold fewL; rw [List.length_map, List.length_take]; omega
theorem ok_gd {ts : List Tm} (h : okL ts = true) : Gd ts := by
  match ts, h with
  | [a, b, c], h =>
    have h' : okR a b c 0 = true := h
    unfold okR okP at h'
    simp only [Bool.and_eq_true] at h'
    exact ⟨a, b, c, rfl, ⟨h'.1.1, h'.2.1.1, h'.2.2.1⟩, ⟨h'.1.2, h'.2.1.2, h'.2.2.2⟩⟩
theorem goodL_gd {L : List (List Tm)} : ∀ ts ∈ goodL L, Gd ts := fun ts h => ok_gd (List.mem_filter.1 h).2
theorem goodL_sm {L : List (List Tm)} (h : ∀ ts ∈ L, Sm ts) : ∀ ts ∈ goodL L, Sm ts := fun ts ht => h ts (List.mem_filter.1 ht).1
theorem goodL_len (L : List (List Tm)) : (goodL L).length ≤ L.length := List.length_filter_le _ _
/-! ### Sizes -/
theorem quoT_size (l : List Int) : (textOf (quoS l)).size ≤ 6 * l.length + 2 := by
  have e : (textOf (quoS l)).data.toList = quoteL l := by rw [textOf_list, quoS_bytes]
  have h1 : (textOf (quoS l)).size = (quoteL l).length := by rw [← e, Array.length_toList]; rfl
  have h2 := escL_len l
  rw [h1]
  unfold quoteL
  simp
  omega
theorem tS_size (t : Tm) (hg : goodT t = true) : (textOf (tS t)).size ≤ 6 * t.ta.size + t.tb.size + t.tc.size + 6 ∧ (t.kind < 2 → (textOf (tS t)).size ≤ t.ta.size + 2) := by
  cases t with
  | iri s =>
    have e := sg_text (iri_signs (s := s) hg).1
    have hz : textOf (tS (.iri s)) = (⟨#[60]⟩ ++ s) ++ ⟨#[62]⟩ := by unfold tS; rw [text_cons, textOf_app, e, ← ByteArray.append_assoc]; rfl
    rw [hz, ByteArray.size_append, ByteArray.size_append]
    have h1 : (⟨#[60]⟩ : ByteArray).size = 1 := rfl
    have h2 : (⟨#[62]⟩ : ByteArray).size = 1 := rfl
    rw [h1, h2]
    simp only [Tm.ta, Tm.tb, Tm.tc]
    exact ⟨by omega, fun _ => by omega⟩
  | blank s =>
    have e := sg_text (label_signs (s := s) hg).1
    have hz : textOf (tS (.blank s)) = ⟨#[95, 58]⟩ ++ s := by
      unfold tS
      have e3 : textOf (95 :: 58 :: (sgP s).1) = textOf [95, 58] ++ textOf (sgP s).1 := by rw [← textOf_app]; rfl
      rw [e3, e]; rfl
    rw [hz, ByteArray.size_append]
    have h1 : (⟨#[95, 58]⟩ : ByteArray).size = 2 := rfl
    rw [h1]
    simp only [Tm.ta, Tm.tb, Tm.tc]
    exact ⟨by omega, fun _ => by omega⟩
  | lit a b c =>
    refine ⟨?_, fun h => absurd h (by simp [Tm.kind])⟩
    have hg' : litG a b c = true := hg
    unfold litG at hg'
    rw [Bool.and_eq_true] at hg'
    have hq := quoT_size (sgP a).1
    have ha := sg_small a
    have ht : (textOf (tailS b c)).size ≤ b.size + c.size + 4 := by
      unfold tailS
      by_cases h0 : c.size = 0
      · rw [if_pos h0]
        rw [if_pos h0, Bool.and_eq_true] at hg'
        by_cases hx : b = XS
        · rw [if_pos hx]
          have h1 : (textOf []).size = 0 := rfl
          rw [h1]; omega
        · rw [if_neg hx]
          have e := sg_text (iri_signs hg'.2.2).1
          have e3 : textOf (94 :: 94 :: 60 :: ((sgP b).1 ++ [62])) = (textOf [94, 94, 60] ++ textOf (sgP b).1) ++ textOf [62] := by rw [← textOf_app, ← textOf_app]; rfl
          rw [e3, e, ByteArray.size_append, ByteArray.size_append]
          have h1 : (textOf [94, 94, 60]).size = 3 := rfl
          have h2 : (textOf [62]).size = 1 := rfl
          rw [h1, h2]; omega
      · rw [if_neg h0]
        rw [if_neg h0, Bool.and_eq_true] at hg'
        have e := sg_text (lang_signs hg'.2.2).1
        rw [text_cons, e, ByteArray.size_append]
        have h1 : (textOf [64]).size = 1 := rfl
        rw [h1]; omega
    have hz : textOf (tS (.lit a b c)) = textOf (quoS (sgP a).1) ++ textOf (tailS b c) := by unfold tS; exact textOf_app _ _
    rw [hz, ByteArray.size_append]
    simp only [Tm.ta, Tm.tb, Tm.tc]
    omega
  | odd n => cases hg
  | none => cases hg
theorem may_low {t : Tm} {part : Nat} (h : mayB t part = true) (hp : part < 2) : t.kind < 2 := by
  have := kind_nn t
  unfold mayB at h
  simp at h
  omega
theorem ln_size {ts : List Tm} (hs : Sm ts) (hg : Gd ts) : (textOf (lnS ts)).size ≤ 2820 := by
  obtain ⟨a, b, c, rfl, hg, hm⟩ := hg
  obtain ⟨a', b', c', e, hs⟩ := hs
  have h0 := hs a (by simp)
  have h1 := hs b (by simp)
  have h2 := hs c (by simp)
  have sa := (tS_size a hg.1).2 (may_low hm.1 (by decide))
  have sb := (tS_size b hg.2.1).2 (may_low hm.2.1 (by decide))
  have sc := (tS_size c hg.2.2).1
  rw [lnS_T, textOf_app, tri_text]
  simp only [ByteArray.size_append]
  have n1 : (⟨#[32]⟩ : ByteArray).size = 1 := rfl
  have n2 : (⟨#[32, 46]⟩ : ByteArray).size = 2 := rfl
  have n3 : (textOf [10]).size = 1 := rfl
  rw [n1, n2, n3]
  omega
theorem lns_size : ∀ L : List (List Tm), (∀ ts ∈ L, Sm ts ∧ Gd ts) → (textOf (lnsS L)).size ≤ 2820 * L.length
  | [], _ => by
    have h : (textOf (lnsS [])).size = 0 := rfl
    rw [h]; omega
  | ts :: L, h => by
    have h1 := ln_size (h ts List.mem_cons_self).1 (h ts List.mem_cons_self).2
    have ih := lns_size L fun x hx => h x (List.mem_cons_of_mem _ hx)
    rw [lnsS_cons, textOf_app, ByteArray.size_append, List.length_cons]
    omega
/-! ### Rows -/
theorem rows_apart {W : World} {B B' : Nat} {e e' : TypeId} {m m' n n' : Nat} {v v' : Value} {xs xs' : List Value} (h : W.ownsRow B e m v n xs) (h' : W.ownsRow B' e' m' v' n' xs') (hne : e ≠ e') : v.ownBlock = none ∨ v.ownBlock ≠ v'.ownBlock := by
  rcases h.2 with ⟨hv, _⟩ | ⟨g, cap, cur, hv, _, hg, _⟩
  · left; rw [hv]; rfl
  · right
    intro eq
    rcases h'.2 with ⟨hv', _⟩ | ⟨g', cap', cur', hv', _, hg', _⟩
    · rw [hv, hv'] at eq; cases eq
    · rw [hv, hv'] at eq
      simp [Value.ownBlock] at eq
      subst eq
      rw [hg] at hg'
      cases hg'
      exact hne rfl
theorem row_box {W : World} {B : Nat} {e t : TypeId} {m n : Nat} {v : Value} {xs : List Value} {g : Nat} {cs : Array Value} (h : W.ownsRow B e m v n xs) (hb : Fb W g t cs) (hne : e ≠ t) : v.ownBlock ≠ some g := by
  rcases h.2 with ⟨hv, _⟩ | ⟨g', cap, cur, hv, _, hg, _⟩
  · rw [hv]; intro e; cases e
  · rw [hv]
    intro e
    simp [Value.ownBlock] at e
    subst e
    unfold Fb at hb
    rw [hg] at hb
    cases hb
    exact hne rfl
theorem types_ne : 59 ≠ 57 := by decide
/-- The loop's world: a box; all good ones so far (the document's); a row that is done; the row that grows. -/
structure Jw (W0 : World) (N1 g : Nat) (cs : Array Value) (v9 : Value) (L9 : List (List Tm)) (vf : Value) (F : List (List Tm)) (v10 : Value) (L10 : List (List Tm)) (W : World) : Prop where
  b : Below W0.heap.size W0 W
  n0 : W0.heap.size ≤ N1
  n1 : N1 ≤ W.heap.size
  box : Fb W g 57 cs
  all : DtV W0.heap.size W v9 L9
  done : TrsV W0.heap.size W vf F
  row : TrsV N1 W v10 L10
  far : ∀ k, vf.ownBlock = some k → k < N1
  ne : v9.ownBlock ≠ some g
section
variable {W0 : World} {N1 g : Nat} {cs : Array Value} {v9 vf v10 : Value} {L9 F L10 : List (List Tm)}
theorem Jw.below {W W' : World} (h : Jw W0 N1 g cs v9 L9 vf F v10 L10 W) (hb : Below W.heap.size W W') : Jw W0 N1 g cs v9 L9 vf F v10 L10 W' :=
  ⟨h.b.trans (hb.mono h.b.size), h.n0, Nat.le_trans h.n1 hb.size, h.box.below hb, h.all.below hb, h.done.below hb, h.row.below hb, h.far, h.ne⟩
theorem Jw.alloc {W : World} (h : Jw W0 N1 g cs v9 L9 vf F v10 L10 W) (o : Obj) : Jw W0 N1 g cs v9 L9 vf F v10 L10 (W.alloc o) := h.below ((Below.refl _ _).alloc (Nat.le_refl _) o)
theorem Jw.drew {W : World} (h : Jw W0 N1 g cs v9 L9 vf F v10 L10 W) : Jw W0 N1 g cs v9 L9 vf F v10 L10 W.drew := ⟨Below.drew h.b, h.n0, h.n1, h.box, h.all, h.done, h.row, h.far, h.ne⟩
theorem jw_of {W : World} {f : Nat} {args : Array Value} {y : Value} (h : Jw W0 N1 g cs v9 L9 vf F v10 L10 W) (k : Calls Tryz.prog f args W fun e w' => e = .returned y ∧ Below W.heap.size W w') :
    Calls Tryz.prog f args W fun e w' => e = .returned y ∧ Jw W0 N1 g cs v9 L9 vf F v10 L10 w' := k.mono fun _ _ ⟨x, z⟩ => ⟨x, h.below z⟩
theorem Jw.app9 {W w5 : World} {n cap g5 : Nat} {news : List Value} {ts : List Tm} (h : Jw W0 N1 g cs v9 L9 vf F v10 L10 W) (hn : n = L9.length + 1) (hw : news = ts.flatMap c4)
    (hown : w5.ownsRow W0.heap.size 57 12 (.slice (some ⟨g5, 0, none⟩) n cap) n (cellsD L9 ++ news)) (hg : W.grownBy w5 v9.ownBlock) (hloc : v9.ownBlock = some g5 ∨ g5 = W.heap.size) :
    Jw W0 N1 g cs (.slice (some ⟨g5, 0, none⟩) n cap) (L9 ++ [ts]) vf F v10 L10 w5 := by
  subst hw
  refine ⟨h.b.grown hg h.b.size (fun j hj => (World.ownsRow.lt h.all j hj).1), h.n0, Nat.le_trans h.n1 hg.size, (hg.block g h.box.lt (fun e => h.ne e.symm)).trans h.box, ?_,
    World.ownsRow.kept h.done hg (rows_apart h.done h.all types_ne), World.ownsRow.kept h.row hg (rows_apart h.row h.all types_ne), h.far, ?_⟩
  · unfold DtV
    rw [cellsD_snoc, List.length_append]
    subst hn
    exact hown
  · intro e
    have e' : some g5 = some g := e
    rcases hloc with hl | hl
    · exact h.ne (by rw [hl, e'])
    · have := h.box.lt
      have := Option.some.inj e'
      omega
theorem Jw.app10 {W w5 : World} {n cap g5 : Nat} {news : List Value} {ts : List Tm} (h : Jw W0 N1 g cs v9 L9 vf F v10 L10 W) (hn : n = L10.length + 1) (hw : news = ts.map Tm.val)
    (hown : w5.ownsRow N1 59 3 (.slice (some ⟨g5, 0, none⟩) n cap) n (cellsT L10 ++ news)) (hg : W.grownBy w5 v10.ownBlock) :
    Jw W0 N1 g cs v9 L9 vf F (.slice (some ⟨g5, 0, none⟩) n cap) (L10 ++ [ts]) w5 := by
  subst hw
  have hne : vf.ownBlock = none ∨ vf.ownBlock ≠ v10.ownBlock := by
    cases hv : vf.ownBlock with
    | none => exact .inl rfl
    | some k =>
      right
      intro e
      have h1 := h.far k hv
      have h2 := (World.ownsRow.lt h.row k e.symm).1
      omega
  refine ⟨h.b.grown hg h.b.size (fun j hj => Nat.le_trans h.n0 (World.ownsRow.lt h.row j hj).1), h.n0, Nat.le_trans h.n1 hg.size, (hg.block g h.box.lt (fun e => row_box h.row h.box types_ne e.symm)).trans h.box,
    World.ownsRow.kept h.all hg (rows_apart h.all h.row types_ne.symm), World.ownsRow.kept h.done hg hne, ?_, h.far, h.ne⟩
  unfold TrsV
  rw [cellsT_snoc, List.length_append]
  subst hn
  exact hown
end
end Go.Proofs.YtjalhcbomjgkoaaGreatDoor

/-
  GOOD TRIPLES ARE GATHERED: the loop's relation.
-/
namespace Go.Proofs.YtjalhcbomjgkoaaGreatDoor
open Go.RowKit
set_option linter.unusedVariables false
set_option linter.unusedSimpArgs false

/-- The world between two rounds. -/
structure J0 (W0 : World) (N1 : Nat) (v9 : Value) (L9 : List (List Tm)) (vf : Value) (F : List (List Tm)) (v10 : Value) (L10 : List (List Tm)) (W : World) : Prop where
  b : Below W0.heap.size W0 W
  n0 : W0.heap.size ≤ N1
  n1 : N1 ≤ W.heap.size
  all : DtV W0.heap.size W v9 L9
  done : TrsV W0.heap.size W vf F
  row : TrsV N1 W v10 L10
  far : ∀ k, vf.ownBlock = some k → k < N1
section
variable {W0 : World} {N1 : Nat} {v9 vf v10 : Value} {L9 F L10 : List (List Tm)}
theorem Jw.j0 {g : Nat} {cs : Array Value} {W : World} (h : Jw W0 N1 g cs v9 L9 vf F v10 L10 W) : J0 W0 N1 v9 L9 vf F v10 L10 W := ⟨h.b, h.n0, h.n1, h.all, h.done, h.row, h.far⟩
theorem J0.boxed {W : World} (h : J0 W0 N1 v9 L9 vf F v10 L10 W) (cs : Array Value) : Jw W0 N1 W.heap.size cs v9 L9 vf F v10 L10 (W.alloc (.cells cs 57)) :=
  have hb : Below W.heap.size W (W.alloc (.cells cs 57)) := (Below.refl _ _).alloc (Nat.le_refl _) _
  ⟨h.b.alloc h.b.size _, h.n0, Nat.le_trans h.n1 hb.size, Fb.new _ _ _, h.all.below hb, h.done.below hb, h.row.below hb, h.far, fun e => by have := (World.ownsRow.lt h.all _ e).2; omega⟩
theorem J0.below {W W' : World} (h : J0 W0 N1 v9 L9 vf F v10 L10 W) (hb : Below W.heap.size W W') : J0 W0 N1 v9 L9 vf F v10 L10 W' :=
  ⟨h.b.trans (hb.mono h.b.size), h.n0, Nat.le_trans h.n1 hb.size, h.all.below hb, h.done.below hb, h.row.below hb, h.far⟩
theorem j0_of {W : World} {f : Nat} {args : Array Value} {y : Value} (h : J0 W0 N1 v9 L9 vf F v10 L10 W) (k : Calls Tryz.prog f args W fun e w' => e = .returned y ∧ Below W.heap.size W w') :
    Calls Tryz.prog f args W fun e w' => e = .returned y ∧ J0 W0 N1 v9 L9 vf F v10 L10 w' := k.mono fun _ _ ⟨x, z⟩ => ⟨x, h.below z⟩
/-- The row that was gathered is done; the next one begins. -/
theorem J0.turn {W : World} (h : J0 W0 N1 v9 L9 vf F v10 L10 W) : J0 W0 W.heap.size v9 L9 v10 L10 (.slice none 0 0) [] W :=
  ⟨h.b, h.b.size, Nat.le_refl _, h.all, ⟨h.row.1, by
    rcases id h.row.2 with x | ⟨g, cap, cur, hv, hge, r⟩
    · exact .inl x
    · exact .inr ⟨g, cap, cur, hv, Nat.le_trans h.n0 hge, r⟩⟩, trsV_nil _ _, fun k hk => (World.ownsRow.lt h.row k hk).2⟩
theorem j0_start (W : World) : J0 W W.heap.size (.slice none 0 0) [] (.slice none 0 0) [] (.slice none 0 0) [] W :=
  ⟨Below.refl _ _, Nat.le_refl _, Nat.le_refl _, dtV_nil _ _, trsV_nil _ _, trsV_nil _ _, fun k hk => by cases hk⟩
end
def LpI (W0 : World) (N1 : Nat) (P La : List (List Tm)) (vf : Value) (F : List (List Tm)) (g : Nat) (s9 s10 s39 : Value) (wr : World) : Prop :=
  ∃ (i : Nat) (A : Option Addr) (c : Nat) (A' : Option Addr) (c' : Nat), i + g = La.length ∧ s39 = .int .i64 i ∧ s9 = .slice A (P ++ goodL (La.take i)).length c ∧ s10 = .slice A' (goodL (La.take i)).length c' ∧
    J0 W0 N1 (.slice A (P ++ goodL (La.take i)).length c) (P ++ goodL (La.take i)) vf F (.slice A' (goodL (La.take i)).length c') (goodL (La.take i)) wr
theorem lp_bad {W0 : World} {N1 : Nat} {P La : List (List Tm)} {vf : Value} {F : List (List Tm)} {g i : Nat} {ts : List Tm} (hig : i + (g + 1) = La.length) (hts : La[i]? = some ts) (hok : okL ts = false) {A A' : Option Addr} {c c' : Nat} {s39 : Value} {W : World}
    (hs : s39 = .int .i64 ((i + 1 : Nat) : Int)) (h : J0 W0 N1 (.slice A (P ++ goodL (La.take i)).length c) (P ++ goodL (La.take i)) vf F (.slice A' (goodL (La.take i)).length c') (goodL (La.take i)) W) :
    LpI W0 N1 P La vf F g (.slice A (P ++ goodL (La.take i)).length c) (.slice A' (goodL (La.take i)).length c') s39 W := by
  have e : goodL (La.take (i + 1)) = goodL (La.take i) := by
    rw [List.take_add_one, hts]
    show goodL (La.take i ++ [ts]) = _
    rw [goodL_snoc, if_neg (by rw [hok]; decide)]
  refine ⟨i + 1, A, c, A', c', by omega, hs, ?_, ?_, ?_⟩
  · rw [e]
  · rw [e]
  · rw [e]; exact h
theorem lp_good {W0 : World} {N1 : Nat} {P La : List (List Tm)} {vf : Value} {F : List (List Tm)} {g i : Nat} {ts : List Tm} (hig : i + (g + 1) = La.length) (hts : La[i]? = some ts) (hok : okL ts = true) {A A' : Option Addr} {c c' : Nat} {s39 : Value} {W : World}
    (hs : s39 = .int .i64 ((i + 1 : Nat) : Int)) (h : J0 W0 N1 (.slice A ((P ++ goodL (La.take i)).length + 1) c) (P ++ goodL (La.take i) ++ [ts]) vf F (.slice A' ((goodL (La.take i)).length + 1) c') (goodL (La.take i) ++ [ts]) W) :
    LpI W0 N1 P La vf F g (.slice A ((P ++ goodL (La.take i)).length + 1) c) (.slice A' ((goodL (La.take i)).length + 1) c') s39 W := by
  have e : goodL (La.take (i + 1)) = goodL (La.take i) ++ [ts] := by
    rw [List.take_add_one, hts]
    show goodL (La.take i ++ [ts]) = _
    rw [goodL_snoc, if_pos hok]
  have e9 : (P ++ goodL (La.take (i + 1))).length = (P ++ goodL (La.take i)).length + 1 := by rw [e, ← List.append_assoc, List.length_append]; rfl
  have e10 : (goodL (La.take (i + 1))).length = (goodL (La.take i)).length + 1 := by rw [e, List.length_append]; rfl
  refine ⟨i + 1, A, c, A', c', by omega, hs, ?_, ?_, ?_⟩
  · rw [e9]
  · rw [e10]
  · rw [e9, e10, e, ← List.append_assoc]; exact h
theorem few_true {l : List Dt} (h : fewB l = true) (hok : ∀ t ∈ l, t.ok) (A : Option Addr) (cap : Nat) (hc : l.length ≤ cap) (hm : cap ≤ maxLen) (w : World) (hs : SlAt w A 12 (l.map Dt.cells)) {W : World} (hb : Below w.heap.size w W) :
    Calls Tryz.prog 24 #[.slice A l.length cap] W fun e w' => ∃ A' c', e = .returned (.tuple #[.slice A' (fewL l).length c', .bool true]) ∧ DtV W.heap.size w' (.slice A' (fewL l).length c') (fewL l) ∧ Below W.heap.size W w' :=
  (nfew_any l hok A cap hc hm W (hs.below hb)).mono fun e w' ⟨v, e1, h1, h2⟩ => by
    obtain ⟨A', c', rfl⟩ := (h1 h).shape
    exact ⟨A', c', by rw [e1, h], h1 h, h2⟩
theorem few_false {l : List Dt} (h : fewB l = false) (hok : ∀ t ∈ l, t.ok) (A : Option Addr) (cap : Nat) (hc : l.length ≤ cap) (hm : cap ≤ maxLen) (w : World) (hs : SlAt w A 12 (l.map Dt.cells)) {W : World} (hb : Below w.heap.size w W) :
    Calls Tryz.prog 24 #[.slice A l.length cap] W fun e w' => ∃ v, e = .returned (.tuple #[v, .bool false]) ∧ Below W.heap.size W w' :=
  (nfew_any l hok A cap hc hm W (hs.below hb)).mono fun e w' ⟨v, e1, h1, h2⟩ => ⟨v, by rw [e1, h], h2⟩
theorem few_any {l : List Dt} (hok : ∀ t ∈ l, t.ok) (A : Option Addr) (cap : Nat) (hc : l.length ≤ cap) (hm : cap ≤ maxLen) (w : World) (hs : SlAt w A 12 (l.map Dt.cells)) {W : World} (hb : Below w.heap.size w W) :
    Calls Tryz.prog 24 #[.slice A l.length cap] W fun e w' => ∃ v, e = .returned (.tuple #[v, .bool (fewB l)]) ∧ Below W.heap.size W w' :=
  (nfew_any l hok A cap hc hm W (hs.below hb)).mono fun e w' ⟨v, e1, h1, h2⟩ => ⟨v, e1, h2⟩
/-- Lines of good triples, behind one another, parsed. -/
theorem parse_lines {F : List (List Tm)} (hF : ∀ ts ∈ F, Sm ts ∧ Gd ts) (hn : F.length ≤ 30) {s : ByteArray} (hs : s = textOf (lnsS F)) (W : World) (t : TypeId) (fr : Nat × Nat) (htab : W.heap[0]? = some (.cells escCells t fr)) :
    Calls Tryz.prog 33 #[.string s] W fun e w' => ∃ A c, e = .returned (.tuple #[.slice A F.length c, .int .i64 0, .int .i64 0]) ∧ TrsV W.heap.size w' (.slice A F.length c) F ∧ Below W.heap.size W w' := by
  have h1 := lns_size F hF
  have hp := nparse_any s (lnsS F) [] (by rw [hs]; exact parts_text (lnsS_all F)) (by rw [hs]; omega) W t fr htab
  rw [prsB_lines F fun ts h => (hF ts h).2] at hp
  exact hp.mono fun e w' ⟨v, e1, h1, h2⟩ => by
    obtain ⟨A, c, rfl⟩ := h1.shape
    exact ⟨A, c, e1, h1, h2⟩
end Go.Proofs.YtjalhcbomjgkoaaGreatDoor

/-
  THE DOCUMENT's 'Quote' of signs: what the program's Quote writes of their text.
-/
namespace Go.Proofs.YtjalhcbomjgkoaaGreatDoor
open Go.RowKit
set_option linter.unusedVariables false

def QXI (B : Nat) (w : World) (l : List Int) (g : Nat) (v i : Value) (wr : World) : Prop :=
  ∃ a b, l = a ++ b ∧ b.length = g ∧ i = .int .i64 a.length ∧ U8s B wr v (34 :: escL a) ∧ Below B w wr
theorem qxi_step {B : Nat} {w wr W w5 : World} {l a b : List Int} {n : Int} {g m : Nat} {v v' : Value} {news : List Value} (hl : l = a ++ n :: b) (hg : (n :: b).length = g + 1) (hb : Below B w wr) (hbs : B ≤ wr.heap.size) (hW : Below wr.heap.size wr W) (hWB : B ≤ W.heap.size)
    (hown : w5.ownsRow B 5 1 v' ((34 :: escL a).length + m) (Lib.byteCells (34 :: escL a) ++ news)) (hgr : W.grownBy w5 v.ownBlock) (hv : ∀ k, v.ownBlock = some k → B ≤ k) (hnews : news = Lib.byteCells (esc n)) (hm : m = (esc n).length) :
    QXI B w l g v' (.int .i64 ((a.length : Int) + 1)) w5 := by
  refine ⟨a ++ [n], b, by rw [hl]; simp, by simpa using hg, by simp, ?_, ((hb.trans (hW.mono hbs)).grown hgr hWB hv)⟩
  subst hnews hm
  unfold U8s
  rw [escL_append, escL_one, ← List.cons_append, Lib.byteCells_append, List.length_append]
  exact hown
theorem new_cells {wr : World} {cs : Array Value} {news : List Value} (h : cs.toList = news) : ∀ j u, news[j]? = some u → (wr.alloc (.cells cs 5)).cell? ((⟨wr.heap.size, 0, none⟩ : Addr).add j) = some u := by
  intro j u hj
  have hh : (wr.alloc (.cells cs 5)).heap[wr.heap.size]? = some (.cells cs 5 (0, 0)) := heap_alloc_new _ _
  have ha : (⟨wr.heap.size, 0, none⟩ : Addr).add j = ⟨wr.heap.size, j, none⟩ := by
    by_cases hj0 : j = 0
    · subst hj0; simp [Addr.add]
    · simp [Addr.add, hj0]
  rw [ha, Lib.cell_of_heap hh, ← Array.getElem?_toList, h]
  exact hj

set_option maxHeartbeats 8000000 in
set_option maxRecDepth 100000 in
theorem rquote_any (l : List Int) (hall : AllS l) (hl : l.length ≤ 1000000) (ao : Option Addr) (gc oc cap : Nat) (w : World) (hao : 0 < l.length → ao = some ⟨gc, oc, none⟩ ∧ gc < w.heap.size)
    (hc : ∀ (j : Nat) (x : Int), l[j]? = some x → w.cell? ⟨gc, oc + j, none⟩ = some (.int .i64 x)) :
    Calls Tryz.prog 54 #[.slice ao l.length cap] w fun e w' => e = .returned (.string (quo l)) ∧ Below w.heap.size w w' := by
  have HC := Lib.hid hc
  have HA := Lib.hid hall
  have HO := Lib.hid hao
  obtain ⟨i0, hi, hz0, hz1, hz2⟩ := info_parts byteInfo
  clear hc hall hao
  go_enter Tryz.func54, Tryz.ntmps54
  go_wp2
  go_loopg [4, 11] l.length (fun g v i wr => QXI w.heap.size w l g v i wr)
  case atStart =>
    refine ⟨[], l, rfl, rfl, rfl, ⟨rfl, .inr ⟨w.heap.size, 1, #[.int .u8 34], rfl, Nat.le_refl _, heap_alloc_new _ _, Nat.le_refl _, by unfold maxLen; omega, rfl, rfl⟩⟩, (Below.refl _ _).alloc (Nat.le_refl _) _⟩
  case round =>
    obtain ⟨a, b, hab, hbl, rfl, hU, hbw⟩ := hrel
    obtain ⟨av, cv, rfl⟩ := u8s_shape hU
    have hla : a.length + b.length = l.length := by rw [hab]; simp
    have hen := escL_len a
    have HAB := Lib.hid hab
    have HBL := Lib.hid hbl
    have hbs := hbw.size
    cases gk with
    | zero =>
      obtain rfl : b = [] := List.length_eq_zero_iff.1 hbl
      have hal : a.length = l.length := by simp at hla; omega
      have hge : ¬ ((a.length : Int) < (l.length : Int)) := by omega
      have HU := Lib.hid hU
      have hla2 : l = a := by rw [hab, List.append_nil]
      have HLA := Lib.hid hla2
      have hal2 : a.length ≤ 1000000 := by omega
      clear hab hbl hla hal hla2
      go_wp2_with (at_builtin; refine wpList_append_own _ rfl _ _ 103 rfl w.heap.size 5 i0 (.int .u8 0) 1 1 Tryz.underlying103 hi hz0 hz1 hz2 rfl (by decide) _ _ _ rfl (World.ownsRow.alloc hU _) ⟨wr.heap.size, 0, none⟩ 1 1 [.int .u8 34] rfl rfl ?z1 ?z2 ?z3 ?z4 ?z5 ?_)
      case z2 => first | rfl | (intro u hu; simp at hu; subst hu; rfl)
      case z3 => unfold maxLen; simp; omega
      case z4 => first | omega | (simp; omega)
      case z5 => first | omega | (simp; omega)
      intro v' w5 hown' hgrow' _
      have hU5 : U8s w.heap.size w5 v' (quoteL a) := by
        unfold U8s quoteL
        rw [List.length_append, Lib.byteCells_append]
        exact hown'
      have hcv := bytes_text hU5
      obtain ⟨av5, cv5, rfl⟩ := u8s_shape hU5
      have hb5 : Below w.heap.size w w5 := (hbw.alloc hbs _).grown hgrow' (by simp; omega) (fun k hk => (World.ownsRow.lt HU.out k hk).1)
      have hres : (⟨(quoteL a).toArray⟩ : ByteArray) = quo l := by rw [HLA.out]; rfl
      rw [hres] at hcv
      clear hown' hgrow' hU5 hU hres
      go_wp2
      go_ret
      exact ⟨rfl, hb5⟩
    | succ g =>
      obtain ⟨n, b', rfl⟩ : ∃ n b', b = n :: b' := by
        match b, hbl with
        | n :: b', _ => exact ⟨n, b', rfl⟩
      have hlt : (a.length : Int) < (l.length : Int) := by simp at hla; omega
      have hn : l[a.length]? = some n := by rw [hab]; simp
      obtain ⟨rfl, hgc⟩ := HO.out (by simp at hla; omega)
      have hcell : wr.cell? ⟨gc, oc + a.length, none⟩ = some (.int .i64 n) := (hbw.cell (p := ⟨gc, oc + a.length, none⟩) hgc).trans (HC.out _ _ hn)
      have hsg := HA.out n (List.mem_of_getElem? hn)
      have HSG := Lib.hid hsg
      have hB := bytes_any n hsg wr
      have HU := Lib.hid hU
      have hvk : ∀ k, (Value.slice av (34 :: escL a).length cv).ownBlock = some k → w.heap.size ≤ k := fun k hk => (World.ownsRow.lt hU k hk).1
      have HVK := Lib.hid hvk
      clear hab hbl hla hn hsg hvk
      by_cases hlt0 : lett n = 0
      · by_cases hc4 : cls n = 4
        · have e1 : (lett n == 0) = true := by simpa using hlt0
          have e1' : (lett n != 0) = false := by simpa using hlt0
          have e2 : (cls n == 4) = true := by simpa using hc4
          have hr4 := cls4_range n hc4
          have hes4 : esc n = numL n := by unfold esc; rw [if_neg (by simpa using hlt0), if_pos hc4]
          have HES4 : Hid ([Value.int .u8 92, .int .u8 117, .int .u8 48, .int .u8 48, .int .u8 ((hexd (n / 16)).toNat : Int), .int .u8 ((hexd (n % 16)).toNat : Int)] = Lib.byteCells (esc n)) := Lib.hid (by rw [hes4]; rfl)
          have HEL4 : Hid (6 = (esc n).length) := Lib.hid (by rw [hes4]; rfl)
          clear hlt0 hc4 hes4
          go_wp2_with (first
            | (go_at_call 81; (with_reducible refine (refLetter_any n _).mono ?_); rintro e w' ⟨rfl, rfl⟩)
            | (go_at_call 78; (with_reducible refine (refClass_any n _).mono ?_); rintro e w' ⟨rfl, rfl⟩))
          have q0 : (0 : Int) ≤ n / 16 := by omega
          have q1 : n / 16 < 16 := by omega
          have q2 : (0 : Int) ≤ n % 16 := by omega
          have q3 : n % 16 < 16 := by omega
          have d2 := hexd_atZ (n / 16) (by omega) (by omega)
          have d3 := hexd_atZ (n % 16) (by omega) (by omega)
          have t1 : n.tdiv 16 = n / 16 := Int.tdiv_eq_ediv_of_nonneg hr4.1
          have t2 : n.tmod 16 = n % 16 := Int.tmod_eq_emod_of_nonneg hr4.1
          have t3 : IntKind.i64.wrap (n / 16) = n / 16 := IntWalk.i64_in _ (by omega)
          have t4 : IntKind.i64.wrap (n % 16) = n % 16 := IntWalk.i64_in _ (by omega)
          have hn1 : ∀ j u, [Value.int .u8 92, .int .u8 117, .int .u8 48, .int .u8 48, .int .u8 ((hexd (n / 16)).toNat : Int), .int .u8 ((hexd (n % 16)).toNat : Int)][j]? = some u → (wr.alloc (.cells #[Value.int .u8 92, .int .u8 117, .int .u8 48, .int .u8 48, .int .u8 ((hexd (n / 16)).toNat : Int), .int .u8 ((hexd (n % 16)).toNat : Int)] 5)).drew.cell? ((⟨wr.heap.size, 0, none⟩ : Addr).add j) = some u := new_cells rfl
          have hn2 : ∀ u ∈ [Value.int .u8 92, .int .u8 117, .int .u8 48, .int .u8 48, .int .u8 ((hexd (n / 16)).toNat : Int), .int .u8 ((hexd (n % 16)).toNat : Int)], u.oneCell' = true := by
            intro u hu
            simp at hu
            rcases hu with rfl | rfl | rfl | rfl | rfl <;> rfl
          have hown0 := (World.ownsRow.alloc hU (.cells #[Value.int .u8 92, .int .u8 117, .int .u8 48, .int .u8 48, .int .u8 ((hexd (n / 16)).toNat : Int), .int .u8 ((hexd (n % 16)).toNat : Int)] 5)).drew
          have N1 := Lib.hid hn1
          have N2 := Lib.hid hn2
          have N0 := Lib.hid hown0
          have hsz1 : (34 :: escL a).length + 6 ≤ 10000000 := by simp; omega
          have N3 := Lib.hid hsz1
          clear hn1 hn2 hown0 hU hsz1
          go_region_law (refine step_append_lies _ rfl (.tmp 29) (.tmp 38) 103 rfl w.heap.size 5 i0 (.int .u8 0) 1 1 Tryz.underlying103 hi hz0 hz1 hz2 rfl (by decide) (.slice av (34 :: escL a).length cv) (34 :: escL a).length (Lib.byteCells (34 :: escL a)) (by simp [Act.eval]) N0.out ⟨wr.heap.size, 0, none⟩ 6 6 [Value.int .u8 92, .int .u8 117, .int .u8 48, .int .u8 48, .int .u8 ((hexd (n / 16)).toNat : Int), .int .u8 ((hexd (n % 16)).toNat : Int)] (by simp [Act.eval]) rfl N1.out N2.out (by decide) (by have := N3.out; unfold maxLen; omega) (by have := N3.out; omega) (by simp; omega) (wr.heap.size + 1) (by simp) ?_; intro g5 cap5 w5 hown' hgrow' _ _)
          all_goals
            have hfin := qxi_step (v := .slice av (34 :: escL a).length cv) HAB.out HBL.out hbw hbs (((Below.refl _ _).alloc (Nat.le_refl _) _).drew) (by simp; omega) hown' hgrow' HVK.out HES4.out HEL4.out
            have HF := Lib.hid hfin
            clear hfin hown' hgrow'
            go_wp2
            go_roundg g
            case measure => omega
            case rel => exact HF.out
        · have e1 : (lett n == 0) = true := by simpa using hlt0
          have e1' : (lett n != 0) = false := by simpa using hlt0
          have e2 : (cls n == 4) = false := by simpa using hc4
          have hes : Lib.runeCells n = Lib.byteCells (esc n) := by unfold esc; rw [if_neg (by simpa using hlt0), if_neg hc4, Lib.byteCells_encodeRune]
          have hel : (Lib.encodeRune n).length = (esc n).length := by unfold esc; rw [if_neg (by simpa using hlt0), if_neg hc4]
          have HES := Lib.hid hes
          have HEL := Lib.hid hel
          have hk := enc_len n
          clear hlt0 hc4 hes hel
          go_wp2_with (first
            | (go_at_call 81; (with_reducible refine (refLetter_any n _).mono ?_); rintro e w' ⟨rfl, rfl⟩)
            | (go_at_call 78; (with_reducible refine (refClass_any n _).mono ?_); rintro e w' ⟨rfl, rfl⟩)
            | (go_at_call 82; (with_reducible refine hB.mono ?_); rintro e w2 ⟨rfl, rfl⟩)
            | (at_builtin; refine wpList_append_own _ rfl _ _ 103 rfl w.heap.size 5 i0 (.int .u8 0) 1 1 Tryz.underlying103 hi hz0 hz1 hz2 rfl (by decide) _ _ _ rfl (World.ownsRow.alloc hU _) ⟨wr.heap.size, 0, none⟩ (Lib.encodeRune n).length (Lib.encodeRune n).length (Lib.runeCells n) rfl ?c0 ?c1 ?c2 ?c3 ?c4 ?c5 ?_))
          case c0 => rw [Lib.runeCells_length, Nat.mul_one]
          case c1 => exact new_cells (by simp [rowOf])
          case c2 =>
            intro u hu
            simp only [Lib.runeCells, List.mem_map] at hu
            obtain ⟨x, _, rfl⟩ := hu
            rfl
          case c3 => unfold maxLen; simp; omega
          case c4 => simp; omega
          case c5 => simp; omega
          intro v' w5 hown' hgrow' _
          have hfin := qxi_step (v := .slice av (34 :: escL a).length cv) HAB.out HBL.out hbw hbs ((Below.refl _ _).alloc (Nat.le_refl _) _) (by simp; omega) hown' hgrow' HVK.out HES.out HEL.out
          have HF := Lib.hid hfin
          clear hfin hown' hgrow' hU
          go_wp2
          go_roundg g
          case measure => omega
          case rel => exact HF.out
      · have e1 : (lett n == 0) = false := by simpa using hlt0
        have e1' : (lett n != 0) = true := by simpa using hlt0
        have hlr := lett_range n hlt0
        have hes : [Value.int .u8 92, .int .u8 (lett n)] = Lib.byteCells (esc n) := by
          unfold esc
          rw [if_pos hlt0]
          have : (((lett n).toNat.toUInt8).toNat : Int) = lett n := by rw [u8n _ hlr.1 (by omega)]; omega
          simp only [Lib.byteCells, List.map_cons, List.map_nil, this]
          rfl
        have hel : 2 = (esc n).length := by unfold esc; rw [if_pos hlt0]; rfl
        have HES := Lib.hid hes
        have HEL := Lib.hid hel
        clear hlt0 hes hel
        go_wp2_with (first
          | (go_at_call 81; (with_reducible refine (refLetter_any n _).mono ?_); rintro e w' ⟨rfl, rfl⟩)
          | (at_builtin; refine wpList_append_own _ rfl _ _ 103 rfl w.heap.size 5 i0 (.int .u8 0) 1 1 Tryz.underlying103 hi hz0 hz1 hz2 rfl (by decide) _ _ _ rfl (World.ownsRow.alloc hU _) ⟨wr.heap.size, 0, none⟩ 2 2 [.int .u8 92, .int .u8 (lett n)] rfl rfl ?y1 ?y2 ?y3 ?y4 ?y5 ?_))
        case y1 => exact new_cells rfl
        case y2 => intro u hu; simp at hu; rcases hu with rfl | rfl <;> rfl
        case y3 => unfold maxLen; simp; omega
        case y4 => simp; omega
        case y5 => simp; omega
        intro v' w5 hown' hgrow' _
        have hfin := qxi_step (v := .slice av (34 :: escL a).length cv) HAB.out HBL.out hbw hbs ((Below.refl _ _).alloc (Nat.le_refl _) _) (by simp; omega) hown' hgrow' HVK.out HES.out HEL.out
        have HF := Lib.hid hfin
        clear hfin hown' hgrow' hU
        go_wp2
        go_roundg g
        case measure => omega
        case rel => exact HF.out
end Go.Proofs.YtjalhcbomjgkoaaGreatDoor

/-
  THE DOCUMENT's 'Quoted': the plain part; what can't stand there at all.
-/
namespace Go.Proofs.YtjalhcbomjgkoaaGreatDoor
open Go.RowKit
set_option linter.unusedVariables false

/-- The last number below m whose letter is c. -/
def pl (c : Int) : Nat → Int
  | 0 => -1
  | m + 1 => if lett m ≠ 0 ∧ lett m = c then m else pl c m
theorem lett_unl (c m : Int) (h39 : c ≠ 39) (h0 : 0 ≤ m) : (lett m ≠ 0 ∧ lett m = c) ↔ unl c = m := by
  constructor
  · rintro ⟨h1, h2⟩
    unfold lett at h1 h2
    unfold unl
    omega
  · intro h
    unfold unl at h
    unfold lett
    omega
theorem pl_inv (c : Int) (h39 : c ≠ 39) : ∀ m : Nat, pl c m = if 0 ≤ unl c ∧ unl c < m then unl c else -1
  | 0 => by unfold pl; rw [if_neg (by omega)]
  | m + 1 => by
    unfold pl
    rw [pl_inv c h39 m]
    by_cases hm : unl c = m
    · rw [if_pos ((lett_unl c m h39 (by omega)).2 hm), if_pos (by omega), hm]
    · rw [if_neg (fun h => hm ((lett_unl c m h39 (by omega)).1 h))]
      by_cases h : 0 ≤ unl c ∧ unl c < m
      · rw [if_pos h, if_pos (by omega)]
      · rw [if_neg h, if_neg (by omega)]
theorem pl_all (c : Int) (h39 : c ≠ 39) : pl c 160 = unl c := by
  rw [pl_inv c h39 160]
  have : unl c ≤ 92 := by unfold unl; omega
  have h2 : -1 ≤ unl c := by unfold unl; omega
  split <;> omega
def QxPost (B : Nat) (w : World) (r : Nat × Option (List Int)) (e : Ending) (w' : World) : Prop :=
  ∃ v, e = .returned (.tuple #[v, .int .i64 r.1, .bool r.2.isSome]) ∧ Ints B w' v (r.2.getD []) ∧ Below B w w'
theorem ints_nil (B : Nat) (w : World) : Ints B w (.slice none 0 0) [] := ⟨rfl, .inl ⟨rfl, rfl⟩⟩
set_option maxHeartbeats 4000000 in
theorem rquoted_far (sl : List Int) (k : Nat) (hk : sl.length ≤ k) (ao : Option Addr) (cap : Nat) (w : World) :
    Calls Tryz.prog 92 #[.slice ao sl.length cap, .int .i64 k] w (QxPost w.heap.size w (qd sl k)) := by
  have hq : qd sl k = (k, none) := by unfold qd; rw [List.getElem?_eq_none hk]; rfl
  have hge : (sl.length : Int) ≤ (k : Int) := by omega
  rw [hq]
  clear hq hk
  go_enter Tryz.func92, Tryz.ntmps92
  go_wp2
  go_ret3
  exact ⟨_, rfl, ints_nil _ _, Below.refl _ _⟩
end Go.Proofs.YtjalhcbomjgkoaaGreatDoor
