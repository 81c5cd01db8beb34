/-
  MERGED (a claim has at most 60 files): NJn, NBd.
-/
import Derived.Test.YtpnfjjgihkmjmaaGreatDoorZ27
import Derived.Test.YtpnfjjgihkmjmaaGreatDoorZ28
import Derived.Deep.AppendLies
import Derived.Test.YtpnfjjgihkmjmaaGreatDoorZ21
/-
  WHAT STANDS WHILE GOOD TRIPLES ARE GATHERED: plain lists; lines' sizes; the rows.
-/
namespace Go.Proofs.YtpnfjjgihkmjmaaGreatDoor
open Go.RowKit
set_option linter.unusedVariables false
set_option linter.unusedSimpArgs false

/-! ### Plain -/
noncomputable def okL : List Tm → Bool
  | [a, b, c] => okR a b c 0
  | _ => false
noncomputable def goodL (L : List (List Tm)) : List (List Tm) := L.filter okL
theorem goodL_snoc (L : List (List Tm)) (ts : List Tm) : goodL (L ++ [ts]) = if okL ts = true then goodL L ++ [ts] else goodL L := by
  unfold goodL
  rw [List.filter_append]
  split
  · rename_i h; simp [h]
  · rename_i h; simp [h]
/-- Terms of kinds that there are, not long. -/
def Sm (ts : List Tm) : Prop := ∃ a b c, ts = [a, b, c] ∧ ∀ t ∈ ts, t.kind < 3 ∧ t.ta.size ≤ 300 ∧ t.tb.size ≤ 300 ∧ t.tc.size ≤ 100
theorem Sm.few {ts : List Tm} (h : Sm ts) : ∀ t ∈ ts, t.few := fun t ht => by
  obtain ⟨a, b, c, rfl, h⟩ := h
  have := h t ht
  exact ⟨by omega, by omega, by omega⟩
theorem Sm.len {ts : List Tm} (h : Sm ts) : ts.length = 3 := by obtain ⟨a, b, c, rfl, _⟩ := h; rfl
theorem pl3_kind (k : Int) (a b c : ByteArray) : (pl3 k a b c).kind < 3 := by
  unfold pl3
  split
  · simp [Tm.kind]
  split
  · simp [Tm.kind]
  · simp [Tm.kind]
theorem few_sm {l : List Dt} (h : fewB l = true) : ∀ ts ∈ fewL l, Sm ts := fun ts hts => by
  unfold fewB at h
  unfold fewL at hts
  obtain ⟨t, ht, rfl⟩ := List.mem_map.1 hts
  have hs := List.all_eq_true.1 h t ht
  unfold Dt.sh at hs
  have hs := List.all_eq_true.1 hs
  refine ⟨t.s.pl, t.p.pl, t.o.pl, rfl, fun u hu => ?_⟩
  obtain ⟨r, hr, rfl⟩ := List.mem_map.1 hu
  have hr2 := hs r hr
  unfold Dw.sh at hr2
  simp only [Bool.and_eq_true, decide_eq_true_eq] at hr2
  have hp := pl3_small r.k r.a r.b r.c
  exact ⟨pl3_kind _ _ _ _, by unfold Dw.pl; omega, by unfold Dw.pl; omega, by unfold Dw.pl; omega⟩
theorem few_len (l : List Dt) : (fewL l).length ≤ 10 := by unfold fewL; rw [List.length_map, List.length_take]; omega
theorem ok_gd {ts : List Tm} (h : okL ts = true) : Gd ts := by
  match ts, h with
  | [a, b, c], h =>
    have h' : okR a b c 0 = true := h
    unfold okR okP at h'
    simp only [Bool.and_eq_true] at h'
    exact ⟨a, b, c, rfl, ⟨h'.1.1, h'.2.1.1, h'.2.2.1⟩, ⟨h'.1.2, h'.2.1.2, h'.2.2.2⟩⟩
theorem goodL_gd {L : List (List Tm)} : ∀ ts ∈ goodL L, Gd ts := fun ts h => ok_gd (List.mem_filter.1 h).2
theorem goodL_sm {L : List (List Tm)} (h : ∀ ts ∈ L, Sm ts) : ∀ ts ∈ goodL L, Sm ts := fun ts ht => h ts (List.mem_filter.1 ht).1
theorem goodL_len (L : List (List Tm)) : (goodL L).length ≤ L.length := List.length_filter_le _ _
/-! ### Sizes -/
theorem quoT_size (l : List Int) : (textOf (quoS l)).size ≤ 6 * l.length + 2 := by
  have e : (textOf (quoS l)).data.toList = quoteL l := by rw [textOf_list, quoS_bytes]
  have h1 : (textOf (quoS l)).size = (quoteL l).length := by rw [← e, Array.length_toList]; rfl
  have h2 := escL_len l
  rw [h1]
  unfold quoteL
  simp
  omega
theorem tS_size (t : Tm) (hg : goodT t = true) : (textOf (tS t)).size ≤ 6 * t.ta.size + t.tb.size + t.tc.size + 6 ∧ (t.kind < 2 → (textOf (tS t)).size ≤ t.ta.size + 2) := by
  cases t with
  | iri s =>
    have e := sg_text (iri_signs (s := s) hg).1
    have hz : textOf (tS (.iri s)) = (⟨#[60]⟩ ++ s) ++ ⟨#[62]⟩ := by unfold tS; rw [text_cons, textOf_app, e, ← ByteArray.append_assoc]; rfl
    rw [hz, ByteArray.size_append, ByteArray.size_append]
    have h1 : (⟨#[60]⟩ : ByteArray).size = 1 := rfl
    have h2 : (⟨#[62]⟩ : ByteArray).size = 1 := rfl
    rw [h1, h2]
    simp only [Tm.ta, Tm.tb, Tm.tc]
    exact ⟨by omega, fun _ => by omega⟩
  | blank s =>
    have e := sg_text (label_signs (s := s) hg).1
    have hz : textOf (tS (.blank s)) = ⟨#[95, 58]⟩ ++ s := by
      unfold tS
      have e3 : textOf (95 :: 58 :: (sgP s).1) = textOf [95, 58] ++ textOf (sgP s).1 := by rw [← textOf_app]; rfl
      rw [e3, e]; rfl
    rw [hz, ByteArray.size_append]
    have h1 : (⟨#[95, 58]⟩ : ByteArray).size = 2 := rfl
    rw [h1]
    simp only [Tm.ta, Tm.tb, Tm.tc]
    exact ⟨by omega, fun _ => by omega⟩
  | lit a b c =>
    refine ⟨?_, fun h => absurd h (by simp [Tm.kind])⟩
    have hg' : litG a b c = true := hg
    unfold litG at hg'
    rw [Bool.and_eq_true] at hg'
    have hq := quoT_size (sgP a).1
    have ha := sg_small a
    have ht : (textOf (tailS b c)).size ≤ b.size + c.size + 4 := by
      unfold tailS
      by_cases h0 : c.size = 0
      · rw [if_pos h0]
        rw [if_pos h0, Bool.and_eq_true] at hg'
        by_cases hx : b = XS
        · rw [if_pos hx]
          have h1 : (textOf []).size = 0 := rfl
          rw [h1]; omega
        · rw [if_neg hx]
          have e := sg_text (iri_signs hg'.2.2).1
          have e3 : textOf (94 :: 94 :: 60 :: ((sgP b).1 ++ [62])) = (textOf [94, 94, 60] ++ textOf (sgP b).1) ++ textOf [62] := by rw [← textOf_app, ← textOf_app]; rfl
          rw [e3, e, ByteArray.size_append, ByteArray.size_append]
          have h1 : (textOf [94, 94, 60]).size = 3 := rfl
          have h2 : (textOf [62]).size = 1 := rfl
          rw [h1, h2]; omega
      · rw [if_neg h0]
        rw [if_neg h0, Bool.and_eq_true] at hg'
        have e := sg_text (lang_signs hg'.2.2).1
        rw [text_cons, e, ByteArray.size_append]
        have h1 : (textOf [64]).size = 1 := rfl
        rw [h1]; omega
    have hz : textOf (tS (.lit a b c)) = textOf (quoS (sgP a).1) ++ textOf (tailS b c) := by unfold tS; exact textOf_app _ _
    rw [hz, ByteArray.size_append]
    simp only [Tm.ta, Tm.tb, Tm.tc]
    omega
  | odd n => cases hg
  | none => cases hg
theorem may_low {t : Tm} {part : Nat} (h : mayB t part = true) (hp : part < 2) : t.kind < 2 := by
  have := kind_nn t
  unfold mayB at h
  simp at h
  omega
theorem ln_size {ts : List Tm} (hs : Sm ts) (hg : Gd ts) : (textOf (lnS ts)).size ≤ 2820 := by
  obtain ⟨a, b, c, rfl, hg, hm⟩ := hg
  obtain ⟨a', b', c', e, hs⟩ := hs
  have h0 := hs a (by simp)
  have h1 := hs b (by simp)
  have h2 := hs c (by simp)
  have sa := (tS_size a hg.1).2 (may_low hm.1 (by decide))
  have sb := (tS_size b hg.2.1).2 (may_low hm.2.1 (by decide))
  have sc := (tS_size c hg.2.2).1
  rw [lnS_T, textOf_app, tri_text]
  simp only [ByteArray.size_append]
  have n1 : (⟨#[32]⟩ : ByteArray).size = 1 := rfl
  have n2 : (⟨#[32, 46]⟩ : ByteArray).size = 2 := rfl
  have n3 : (textOf [10]).size = 1 := rfl
  rw [n1, n2, n3]
  omega
theorem lns_size : ∀ L : List (List Tm), (∀ ts ∈ L, Sm ts ∧ Gd ts) → (textOf (lnsS L)).size ≤ 2820 * L.length
  | [], _ => by
    have h : (textOf (lnsS [])).size = 0 := rfl
    rw [h]; omega
  | ts :: L, h => by
    have h1 := ln_size (h ts List.mem_cons_self).1 (h ts List.mem_cons_self).2
    have ih := lns_size L fun x hx => h x (List.mem_cons_of_mem _ hx)
    rw [lnsS_cons, textOf_app, ByteArray.size_append, List.length_cons]
    omega
/-! ### Rows -/
theorem rows_apart {W : World} {B B' : Nat} {e e' : TypeId} {m m' n n' : Nat} {v v' : Value} {xs xs' : List Value} (h : W.ownsRow B e m v n xs) (h' : W.ownsRow B' e' m' v' n' xs') (hne : e ≠ e') : v.ownBlock = none ∨ v.ownBlock ≠ v'.ownBlock := by
  rcases h.2 with ⟨hv, _⟩ | ⟨g, cap, cur, hv, _, hg, _⟩
  · left; rw [hv]; rfl
  · right
    intro eq
    rcases h'.2 with ⟨hv', _⟩ | ⟨g', cap', cur', hv', _, hg', _⟩
    · rw [hv, hv'] at eq; cases eq
    · rw [hv, hv'] at eq
      simp [Value.ownBlock] at eq
      subst eq
      rw [hg] at hg'
      cases hg'
      exact hne rfl
theorem row_box {W : World} {B : Nat} {e t : TypeId} {m n : Nat} {v : Value} {xs : List Value} {g : Nat} {cs : Array Value} (h : W.ownsRow B e m v n xs) (hb : Fb W g t cs) (hne : e ≠ t) : v.ownBlock ≠ some g := by
  rcases h.2 with ⟨hv, _⟩ | ⟨g', cap, cur, hv, _, hg, _⟩
  · rw [hv]; intro e; cases e
  · rw [hv]
    intro e
    simp [Value.ownBlock] at e
    subst e
    unfold Fb at hb
    rw [hg] at hb
    cases hb
    exact hne rfl
theorem types_ne : 71 ≠ 38 := by decide
/-- The loop's world: a box; all good ones so far (the document's); a row that is done; the row that grows. -/
structure Jw (W0 : World) (N1 g : Nat) (cs : Array Value) (v9 : Value) (L9 : List (List Tm)) (vf : Value) (F : List (List Tm)) (v10 : Value) (L10 : List (List Tm)) (W : World) : Prop where
  b : Below W0.heap.size W0 W
  n0 : W0.heap.size ≤ N1
  n1 : N1 ≤ W.heap.size
  box : Fb W g 38 cs
  all : DtV W0.heap.size W v9 L9
  done : TrsV W0.heap.size W vf F
  row : TrsV N1 W v10 L10
  far : ∀ k, vf.ownBlock = some k → k < N1
  ne : v9.ownBlock ≠ some g
section
variable {W0 : World} {N1 g : Nat} {cs : Array Value} {v9 vf v10 : Value} {L9 F L10 : List (List Tm)}
theorem Jw.below {W W' : World} (h : Jw W0 N1 g cs v9 L9 vf F v10 L10 W) (hb : Below W.heap.size W W') : Jw W0 N1 g cs v9 L9 vf F v10 L10 W' :=
  ⟨h.b.trans (hb.mono h.b.size), h.n0, Nat.le_trans h.n1 hb.size, h.box.below hb, h.all.below hb, h.done.below hb, h.row.below hb, h.far, h.ne⟩
theorem Jw.alloc {W : World} (h : Jw W0 N1 g cs v9 L9 vf F v10 L10 W) (o : Obj) : Jw W0 N1 g cs v9 L9 vf F v10 L10 (W.alloc o) := h.below ((Below.refl _ _).alloc (Nat.le_refl _) o)
theorem Jw.drew {W : World} (h : Jw W0 N1 g cs v9 L9 vf F v10 L10 W) : Jw W0 N1 g cs v9 L9 vf F v10 L10 W.drew := ⟨Below.drew h.b, h.n0, h.n1, h.box, h.all, h.done, h.row, h.far, h.ne⟩
theorem jw_of {W : World} {f : Nat} {args : Array Value} {y : Value} (h : Jw W0 N1 g cs v9 L9 vf F v10 L10 W) (k : Calls Tryz.prog f args W fun e w' => e = .returned y ∧ Below W.heap.size W w') :
    Calls Tryz.prog f args W fun e w' => e = .returned y ∧ Jw W0 N1 g cs v9 L9 vf F v10 L10 w' := k.mono fun _ _ ⟨x, z⟩ => ⟨x, h.below z⟩
theorem Jw.app9 {W w5 : World} {n cap g5 : Nat} {news : List Value} {ts : List Tm} (h : Jw W0 N1 g cs v9 L9 vf F v10 L10 W) (hn : n = L9.length + 1) (hw : news = ts.flatMap c4)
    (hown : w5.ownsRow W0.heap.size 38 12 (.slice (some ⟨g5, 0, none⟩) n cap) n (cellsD L9 ++ news)) (hg : W.grownBy w5 v9.ownBlock) (hloc : v9.ownBlock = some g5 ∨ g5 = W.heap.size) :
    Jw W0 N1 g cs (.slice (some ⟨g5, 0, none⟩) n cap) (L9 ++ [ts]) vf F v10 L10 w5 := by
  subst hw
  refine ⟨h.b.grown hg h.b.size (fun j hj => (World.ownsRow.lt h.all j hj).1), h.n0, Nat.le_trans h.n1 hg.size, (hg.block g h.box.lt (fun e => h.ne e.symm)).trans h.box, ?_,
    World.ownsRow.kept h.done hg (rows_apart h.done h.all types_ne), World.ownsRow.kept h.row hg (rows_apart h.row h.all types_ne), h.far, ?_⟩
  · unfold DtV
    rw [cellsD_snoc, List.length_append]
    subst hn
    exact hown
  · intro e
    have e' : some g5 = some g := e
    rcases hloc with hl | hl
    · exact h.ne (by rw [hl, e'])
    · have := h.box.lt
      have := Option.some.inj e'
      omega
theorem Jw.app10 {W w5 : World} {n cap g5 : Nat} {news : List Value} {ts : List Tm} (h : Jw W0 N1 g cs v9 L9 vf F v10 L10 W) (hn : n = L10.length + 1) (hw : news = ts.map Tm.val)
    (hown : w5.ownsRow N1 71 3 (.slice (some ⟨g5, 0, none⟩) n cap) n (cellsT L10 ++ news)) (hg : W.grownBy w5 v10.ownBlock) :
    Jw W0 N1 g cs v9 L9 vf F (.slice (some ⟨g5, 0, none⟩) n cap) (L10 ++ [ts]) w5 := by
  subst hw
  have hne : vf.ownBlock = none ∨ vf.ownBlock ≠ v10.ownBlock := by
    cases hv : vf.ownBlock with
    | none => exact .inl rfl
    | some k =>
      right
      intro e
      have h1 := h.far k hv
      have h2 := (World.ownsRow.lt h.row k e.symm).1
      omega
  refine ⟨h.b.grown hg h.b.size (fun j hj => Nat.le_trans h.n0 (World.ownsRow.lt h.row j hj).1), h.n0, Nat.le_trans h.n1 hg.size, (hg.block g h.box.lt (fun e => row_box h.row h.box types_ne e.symm)).trans h.box,
    World.ownsRow.kept h.all hg (rows_apart h.all h.row types_ne.symm), World.ownsRow.kept h.done hg hne, ?_, h.far, h.ne⟩
  unfold TrsV
  rw [cellsT_snoc, List.length_append]
  subst hn
  exact hown
end
end Go.Proofs.YtpnfjjgihkmjmaaGreatDoor

/-
  PLAIN LEAN, NO RUN: what is printed of what was parsed isn't long.
-/
namespace Go.Proofs.YtpnfjjgihkmjmaaGreatDoor
set_option linter.unusedVariables false
set_option linter.unusedSimpArgs false

theorem irf_len (sl : List Int) : ∀ (f p : Nat) (acc l : List Int), p ≤ sl.length → (irf sl f p acc).2 = some l → l.length + p ≤ acc.length + (irf sl f p acc).1
  | 0, p, acc, l, _, h => by cases h
  | f + 1, p, acc, l, hp, h => by
    unfold irf at h ⊢
    cases hx : sl[p]? with
    | none => rw [hx] at h; cases h
    | some c =>
      rw [hx] at h
      have hpl := (List.getElem?_eq_some_iff.1 hx).1
      dsimp only at h ⊢
      by_cases h1 : c = 62
      · rw [if_pos h1] at h ⊢
        simp at h; subst h; dsimp only; omega
      rw [if_neg h1] at h ⊢
      by_cases h2 : c = 10
      · rw [if_pos h2] at h; cases h
      rw [if_neg h2] at h ⊢
      by_cases h3 : c = 92
      · rw [if_pos h3] at h ⊢
        have hn := nef_le sl (p + 1) (by omega)
        cases ho : (nef sl (p + 1)).2 with
        | none => rw [ho] at h; cases h
        | some n =>
          rw [ho] at h
          dsimp only at h ⊢
          have ih := irf_len sl f _ _ l hn.1 h
          rw [List.length_append] at ih
          simp at ih; omega
      · rw [if_neg h3] at h ⊢
        have ih := irf_len sl f _ _ l (by omega) h
        simp at ih; omega
theorem irP_len (sl : List Int) (k : Nat) (l : List Int) (h : (irP sl k).2 = some l) : l.length + k ≤ (irP sl k).1 := by
  unfold irP at h ⊢
  by_cases hx : sl[k]? = some 60
  · have hk := (List.getElem?_eq_some_iff.1 hx).1
    rw [if_pos hx] at h ⊢
    have := irf_len sl _ (k + 1) [] l (by omega) h
    simp at this; omega
  · rw [if_neg hx] at h; cases h
theorem qf_len (sl : List Int) : ∀ (f p : Nat) (acc l : List Int), p ≤ sl.length → (qf sl f p acc).2 = some l → l.length + p ≤ acc.length + (qf sl f p acc).1
  | 0, p, acc, l, _, h => by cases h
  | f + 1, p, acc, l, hp, h => by
    unfold qf at h ⊢
    cases hx : sl[p]? with
    | none => rw [hx] at h; cases h
    | some c =>
      rw [hx] at h
      have hpl := (List.getElem?_eq_some_iff.1 hx).1
      dsimp only at h ⊢
      by_cases h1 : c = 34
      · rw [if_pos h1] at h ⊢
        simp at h; subst h; dsimp only; omega
      rw [if_neg h1] at h ⊢
      by_cases h2 : c = 10 ∨ c = 13
      · rw [if_pos h2] at h; cases h
      rw [if_neg h2] at h ⊢
      by_cases h3 : c = 92
      · rw [if_pos h3] at h ⊢
        have hn := ef_le sl (p + 1) (by omega)
        cases ho : (ef sl (p + 1)).2 with
        | none => rw [ho] at h; cases h
        | some n =>
          rw [ho] at h
          dsimp only at h ⊢
          have ih := qf_len sl f _ _ l hn.1 h
          rw [List.length_append] at ih
          simp at ih; omega
      · rw [if_neg h3] at h ⊢
        have ih := qf_len sl f _ _ l (by omega) h
        simp at ih; omega
theorem qd_len (sl : List Int) (k : Nat) (l : List Int) (h : (qd sl k).2 = some l) : l.length + k ≤ (qd sl k).1 := by
  unfold qd at h ⊢
  by_cases hx : sl[k]? = some 34
  · have hk := (List.getElem?_eq_some_iff.1 hx).1
    rw [if_pos hx] at h ⊢
    have := qf_len sl _ (k + 1) [] l (by omega) h
    simp at this; omega
  · rw [if_neg hx] at h; cases h
/-- What a term's text costs at most, by what was read for it. -/
def Ct (n : Nat) (t : Tm) : Prop := 6 * t.ta.size + t.tb.size + t.tc.size ≤ 24 * n + 60 ∧ (t.kind < 2 → t.ta.size ≤ 4 * n)
theorem tailP_cost (sl l : List Int) (p k : Nat) (t : Tm) (hk : l.length + k ≤ p) (h : (tailP sl l p).2 = some t) : Ct ((tailP sl l p).1 - k) t := by
  have z1 := text_size l
  unfold tailP at h ⊢
  by_cases h1 : sl[p]? = some 94 ∧ sl[p + 1]? = some 94
  · rw [if_pos h1] at h ⊢
    cases ho : (irP sl (p + 2)).2 with
    | none => rw [ho] at h; cases h
    | some u =>
      rw [ho] at h
      simp at h
      subst h
      have hu := irP_len sl (p + 2) u ho
      have := text_size u
      exact ⟨by simp only [Tm.ta, Tm.tb, Tm.tc, show mt.size = 0 from rfl]; omega, fun hh => absurd hh (by simp only [Tm.kind]; decide)⟩
  rw [if_neg h1] at h ⊢
  by_cases h2 : sl[p]? = some 64
  · rw [if_pos h2] at h ⊢
    simp at h
    subst h
    have := text_size (wmL msL (sl.drop (p + 1)))
    have hX : XL.size ≤ 60 := by decide
    exact ⟨by simp only [Tm.ta, Tm.tb, Tm.tc]; omega, fun hh => absurd hh (by simp only [Tm.kind]; decide)⟩
  · rw [if_neg h2] at h ⊢
    simp at h
    subst h
    have hX : XS.size ≤ 60 := by decide
    exact ⟨by simp only [Tm.ta, Tm.tb, Tm.tc, show mt.size = 0 from rfl]; omega, fun hh => absurd hh (by simp only [Tm.kind]; decide)⟩
theorem formP_cost (sl : List Int) (k : Nat) (t : Tm) (h : (formP sl k).2 = some t) : Ct ((formP sl k).1 - k) t := by
  unfold formP at h ⊢
  by_cases h1 : sl[k]? = some 60
  · rw [if_pos h1] at h ⊢
    cases ho : (irP sl k).2 with
    | none => rw [ho] at h; cases h
    | some u =>
      rw [ho] at h
      simp at h
      subst h
      have hu := irP_len sl k u ho
      have := text_size u
      exact ⟨by simp only [Tm.ta, Tm.tb, Tm.tc, show mt.size = 0 from rfl]; omega, fun _ => by simp only [Tm.ta]; omega⟩
  rw [if_neg h1] at h ⊢
  by_cases h2 : sl[k]? = some 34
  · rw [if_pos h2] at h ⊢
    unfold litP at h ⊢
    cases ho : (qd sl k).2 with
    | none => rw [ho] at h; cases h
    | some l =>
      rw [ho] at h
      exact tailP_cost sl l _ k t (qd_len sl k l ho) h
  rw [if_neg h2] at h ⊢
  by_cases h3 : sl[k]? = some 95
  · rw [if_pos h3] at h ⊢
    by_cases h4 : sl[k + 1]? = some 58
    · rw [if_pos h4] at h ⊢
      simp at h
      subst h
      have := text_size (wmL msB (sl.drop (k + 2)))
      exact ⟨by simp only [Tm.ta, Tm.tb, Tm.tc, show mt.size = 0 from rfl]; omega, fun _ => by simp only [Tm.ta]; omega⟩
    · rw [if_neg h4] at h; cases h
  · rw [if_neg h3] at h; cases h
theorem readP_cost (sl : List Int) (k : Nat) (t : Tm) (h : (readP sl k).1 = some t) : Ct ((readP sl k).2.1 - k) t := by
  unfold readP at h ⊢
  cases ho : (formP sl k).2 with
  | none => rw [ho] at h; cases h
  | some u =>
    rw [ho] at h
    dsimp only at h ⊢
    by_cases hg : goodT u = true
    · rw [if_pos hg] at h ⊢
      simp at h
      subst h
      exact formP_cost sl k _ ho
    · rw [if_neg hg] at h; cases h
/-- How long a term's text is. -/
noncomputable def tZ (t : Tm) : Nat := (textOf (tS t)).size
theorem partP_cost (sl : List Int) (hs : AllS sl) (k part : Nat) (hk : k ≤ sl.length) (t : Tm) (h : (partP sl k part).1 = some t) : tZ t ≤ 24 * ((partP sl k part).2.1 - k) + (if part < 2 then 0 else 66) := by
  have hl := (partP_le sl k part hk hs).2.2 t h
  have hgp := gapP_le sl k hk
  unfold partP at h hl ⊢
  cases ho : (readP sl (gapP sl k)).1 with
  | none => rw [ho] at h; dsimp only at h; rw [ho] at h; cases h
  | some u =>
    rw [ho] at h hl
    dsimp only at h hl ⊢
    by_cases hm : mayB u part = true
    · rw [if_pos hm] at h hl ⊢
      simp at h
      subst h
      have hc := readP_cost sl _ _ ho
      have hr := (readP_le sl (gapP sl k) hgp.1 hs).2.2 _ ho
      have hz := tS_size u hl.2.2.1
      dsimp only at hl ⊢
      unfold tZ
      split
      · rename_i hp
        have h1 := may_low hm hp
        have h2 := hz.2 h1
        have h3 := hc.2 h1
        omega
      · have := hc.1
        have := hz.1
        omega
    · rw [if_neg hm] at h; cases h
def cst : Nat → Nat → Nat
  | 0, _ => 0
  | g + 1, part => (if part < 2 then 0 else 66) + cst g (part + 1)
noncomputable def sumZ : List Tm → Nat
  | [] => 0
  | t :: l => tZ t + sumZ l
theorem triC_mono (sl : List Int) (hs : AllS sl) : ∀ (g part p : Nat) (ts : List Tm), p ≤ sl.length → p ≤ (triC sl g part p ts).2.1
  | 0, part, p, ts, h => by
    have hg := gapP_le sl p h
    unfold triC
    split
    · dsimp only; omega
    · exact hg.2
  | g + 1, part, p, ts, h => by
    have hp := partP_le sl p part h hs
    unfold triC
    cases ho : (partP sl p part).1 with
    | none => exact hp.2.1
    | some t => exact Nat.le_trans hp.2.1 (triC_mono sl hs g _ _ _ hp.1)
theorem triC_cost (sl : List Int) (hs : AllS sl) : ∀ (g part p : Nat) (ts us : List Tm), p ≤ sl.length → (triC sl g part p ts).1 = some us → ∃ vs, us = ts ++ vs ∧ vs.length = g ∧ sumZ vs ≤ 24 * ((triC sl g part p ts).2.1 - p) + cst g part
  | 0, part, p, ts, us, hp, h => by
    unfold triC at h
    split at h
    · simp at h
      subst h
      exact ⟨[], by simp, rfl, by unfold sumZ; exact Nat.zero_le _⟩
    · cases h
  | g + 1, part, p, ts, us, hp, h => by
    have hl := partP_le sl p part hp hs
    unfold triC at h ⊢
    cases ho : (partP sl p part).1 with
    | none => rw [ho] at h; cases h
    | some t =>
      rw [ho] at h
      dsimp only at h ⊢
      obtain ⟨vs, rfl, hv, hz⟩ := triC_cost sl hs g (part + 1) _ (ts ++ [t]) us hl.1 h
      have hc := partP_cost sl hs p part hp t ho
      have hm := triC_mono sl hs g (part + 1) (partP sl p part).2.1 (ts ++ [t]) hl.1
      refine ⟨t :: vs, by simp, by simp [hv], ?_⟩
      show tZ t + sumZ vs ≤ _ + ((if part < 2 then 0 else 66) + cst g (part + 1))
      have := hl.2.1
      omega
theorem triP_cost (sl : List Int) (hs : AllS sl) (k : Nat) (hk : k ≤ sl.length) (us : List Tm) (h : (triP sl k).1 = some us) : (textOf (lnS us)).size ≤ 24 * ((triP sl k).2.1 - k) + 71 := by
  obtain ⟨vs, e, hv, hz⟩ := triC_cost sl hs 3 0 k [] us hk h
  have e : us = vs := e
  subst e
  match us, hv with
  | [a, b, c], _ =>
    have hz : tZ a + (tZ b + (tZ c + 0)) ≤ 24 * ((triP sl k).2.1 - k) + 66 := hz
    unfold tZ at hz
    rw [lnS_T, textOf_app, tri_text]
    simp only [ByteArray.size_append]
    have n1 : (⟨#[32]⟩ : ByteArray).size = 1 := rfl
    have n2 : (⟨#[32, 46]⟩ : ByteArray).size = 2 := rfl
    have n3 : (textOf [10]).size = 1 := rfl
    rw [n1, n2, n3]
    omega
theorem prsC_cost (sl : List Int) (hs : AllS sl) : ∀ (g k : Nat) (acc : List (List Tm)), k ≤ sl.length → (textOf (lnsS (prsC sl g k acc).1)).size ≤ (textOf (lnsS acc)).size + 24 * (sl.length - k) + 71 * g
  | 0, k, acc, h => by
    show (textOf (lnsS acc)).size ≤ _
    omega
  | g + 1, k, acc, h => by
    have ho := overP_le sl k h
    have ht := triP_le sl hs (overP sl k).1 ho.1
    have h0 : (textOf (lnsS [])).size = 0 := rfl
    unfold prsC
    split
    · dsimp only; omega
    split
    · have := prsC_cost sl hs g (overP sl k).1 acc ho.1
      have := ho.2.1
      omega
    · cases hu : (triP sl (overP sl k).1).1 with
      | none => dsimp only; omega
      | some ts =>
        have hc := triP_cost sl hs (overP sl k).1 ho.1 ts hu
        have ho2 := overP_le sl _ ht.1
        have a := ht.2.1
        have b := ho2.2.1
        have c := ho.2.1
        dsimp only
        split
        · have ih := prsC_cost sl hs g _ (acc ++ [ts]) ho2.1
          have e1 : lnsS [ts] = lnS ts := by simp [lnsS]
          rw [lnsS_app, textOf_app, ByteArray.size_append, e1] at ih
          omega
        · dsimp only; omega
theorem trs_gd {N : Nat} {L : List (List Tm)} (h : Trs N L) (hN : N ≤ 100000) : ∀ ts ∈ L, Gd ts ∧ ∀ t ∈ ts, t.few := fun ts ht => by
  obtain ⟨h3, hT⟩ := h ts ht
  match ts, h3 with
  | [a, b, c], _ =>
    have x := hT 0 a rfl
    have y := hT 1 b rfl
    have z := hT 2 c rfl
    refine ⟨⟨a, b, c, rfl, ⟨x.2.1, y.2.1, z.2.1⟩, x.2.2, y.2.2, z.2.2⟩, fun t ht => ?_⟩
    simp at ht
    obtain rfl | rfl | rfl := ht
    · exact x.1.few hN
    · exact y.1.few hN
    · exact z.1.few hN
theorem trs_kind {N : Nat} {L : List (List Tm)} (h : Trs N L) : ∀ ts ∈ L, ts.length = 3 ∧ ∀ t ∈ ts, t.kind < 3 := fun ts ht => by
  obtain ⟨h3, hT⟩ := h ts ht
  refine ⟨h3, fun t hm => ?_⟩
  obtain ⟨j, hj⟩ := List.getElem?_of_mem hm
  exact (hT j t hj).1.2
/-- What is parsed of a text that isn't long. -/
theorem prsB_few {sl : List Int} (hs : AllS sl) (hl : sl.length ≤ 600) (rest : List UInt8) : Trs sl.length (prsB sl rest).1 ∧ (prsB sl rest).1.length ≤ 600 ∧ (textOf (lnsS (prsB sl rest).1)).size ≤ 60000 := by
  unfold prsB
  split
  · have h1 := prsC_trs sl hs sl.length 0 [] (Nat.zero_le _) (trs_nil _)
    have h2 := prsC_cost sl hs sl.length 0 [] (Nat.zero_le _)
    have h0 : (textOf (lnsS [])).size = 0 := rfl
    rw [h0] at h2
    have h3 := h1.2
    simp at h3
    exact ⟨h1.1, by omega, by omega⟩
  · have h0 : (textOf (lnsS [])).size = 0 := rfl
    exact ⟨trs_nil _, Nat.zero_le _, by dsimp only; omega⟩
end Go.Proofs.YtpnfjjgihkmjmaaGreatDoor
