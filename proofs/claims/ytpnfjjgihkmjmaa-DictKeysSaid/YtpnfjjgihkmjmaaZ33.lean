/-
  MERGED (a claim has at most 60 files): NJn, DKs, DKeysW.
-/
import Derived.Test.YtpnfjjgihkmjmaaZ32
import Derived.Test.YtpnfjjgihkmjmaaZ30
import Derived.Deep.AppendLies
import Derived.Test.YtpnfjjgihkmjmaaZ25
import Derived.Test.YtpnfjjgihkmjmaaZ26
import Derived.ChangeKeysEq
/-
  WHAT STANDS WHILE GOOD TRIPLES ARE GATHERED: plain lists; lines' sizes; the rows.
-/
namespace Go.Proofs.Ytpnfjjgihkmjmaa
open Go.RowKit
set_option linter.unusedVariables false
set_option linter.unusedSimpArgs false

/-! ### Plain -/
noncomputable def okL : List Tm → Bool
  | [a, b, c] => okR a b c 0
  | _ => false
noncomputable def goodL (L : List (List Tm)) : List (List Tm) := L.filter okL
theorem goodL_snoc (L : List (List Tm)) (ts : List Tm) : goodL (L ++ [ts]) = if okL ts = true then goodL L ++ [ts] else goodL L := by
  unfold goodL
  rw [List.filter_append]
  split
  · rename_i h; simp [h]
  · rename_i h; simp [h]
/-- Terms of kinds that there are, not long. -/
def Sm (ts : List Tm) : Prop := ∃ a b c, ts = [a, b, c] ∧ ∀ t ∈ ts, t.kind < 3 ∧ t.ta.size ≤ 300 ∧ t.tb.size ≤ 300 ∧ t.tc.size ≤ 100
theorem Sm.few {ts : List Tm} (h : Sm ts) : ∀ t ∈ ts, t.few := fun t ht => by
  obtain ⟨a, b, c, rfl, h⟩ := h
  have := h t ht
  exact ⟨by omega, by omega, by omega⟩
theorem Sm.len {ts : List Tm} (h : Sm ts) : ts.length = 3 := by obtain ⟨a, b, c, rfl, _⟩ := h; rfl
theorem pl3_kind (k : Int) (a b c : ByteArray) : (pl3 k a b c).kind < 3 := by
  unfold pl3
  split
  · simp [Tm.kind]
  split
  · simp [Tm.kind]
  · simp [Tm.kind]
theorem few_sm {l : List Dt} (h : fewB l = true) : ∀ ts ∈ fewL l, Sm ts := fun ts hts => by
  unfold fewB at h
  unfold fewL at hts
  obtain ⟨t, ht, rfl⟩ := List.mem_map.1 hts
  have hs := List.all_eq_true.1 h t ht
  unfold Dt.sh at hs
  have hs := List.all_eq_true.1 hs
  refine ⟨t.s.pl, t.p.pl, t.o.pl, rfl, fun u hu => ?_⟩
  obtain ⟨r, hr, rfl⟩ := List.mem_map.1 hu
  have hr2 := hs r hr
  unfold Dw.sh at hr2
  simp only [Bool.and_eq_true, decide_eq_true_eq] at hr2
  have hp := pl3_small r.k r.a r.b r.c
  exact ⟨pl3_kind _ _ _ _, by unfold Dw.pl; omega, by unfold Dw.pl; omega, by unfold Dw.pl; omega⟩
theorem few_len (l : List Dt) : (fewL l).length ≤ 10 := by unfold fewL; rw [List.length_map, List.length_take]; omega
theorem ok_gd {ts : List Tm} (h : okL ts = true) : Gd ts := by
  match ts, h with
  | [a, b, c], h =>
    have h' : okR a b c 0 = true := h
    unfold okR okP at h'
    simp only [Bool.and_eq_true] at h'
    exact ⟨a, b, c, rfl, ⟨h'.1.1, h'.2.1.1, h'.2.2.1⟩, ⟨h'.1.2, h'.2.1.2, h'.2.2.2⟩⟩
theorem goodL_gd {L : List (List Tm)} : ∀ ts ∈ goodL L, Gd ts := fun ts h => ok_gd (List.mem_filter.1 h).2
theorem goodL_sm {L : List (List Tm)} (h : ∀ ts ∈ L, Sm ts) : ∀ ts ∈ goodL L, Sm ts := fun ts ht => h ts (List.mem_filter.1 ht).1
theorem goodL_len (L : List (List Tm)) : (goodL L).length ≤ L.length := List.length_filter_le _ _
/-! ### Sizes -/
theorem quoT_size (l : List Int) : (textOf (quoS l)).size ≤ 6 * l.length + 2 := by
  have e : (textOf (quoS l)).data.toList = quoteL l := by rw [textOf_list, quoS_bytes]
  have h1 : (textOf (quoS l)).size = (quoteL l).length := by rw [← e, Array.length_toList]; rfl
  have h2 := escL_len l
  rw [h1]
  unfold quoteL
  simp
  omega
theorem tS_size (t : Tm) (hg : goodT t = true) : (textOf (tS t)).size ≤ 6 * t.ta.size + t.tb.size + t.tc.size + 6 ∧ (t.kind < 2 → (textOf (tS t)).size ≤ t.ta.size + 2) := by
  cases t with
  | iri s =>
    have e := sg_text (iri_signs (s := s) hg).1
    have hz : textOf (tS (.iri s)) = (⟨#[60]⟩ ++ s) ++ ⟨#[62]⟩ := by unfold tS; rw [text_cons, textOf_app, e, ← ByteArray.append_assoc]; rfl
    rw [hz, ByteArray.size_append, ByteArray.size_append]
    have h1 : (⟨#[60]⟩ : ByteArray).size = 1 := rfl
    have h2 : (⟨#[62]⟩ : ByteArray).size = 1 := rfl
    rw [h1, h2]
    simp only [Tm.ta, Tm.tb, Tm.tc]
    exact ⟨by omega, fun _ => by omega⟩
  | blank s =>
    have e := sg_text (label_signs (s := s) hg).1
    have hz : textOf (tS (.blank s)) = ⟨#[95, 58]⟩ ++ s := by
      unfold tS
      have e3 : textOf (95 :: 58 :: (sgP s).1) = textOf [95, 58] ++ textOf (sgP s).1 := by rw [← textOf_app]; rfl
      rw [e3, e]; rfl
    rw [hz, ByteArray.size_append]
    have h1 : (⟨#[95, 58]⟩ : ByteArray).size = 2 := rfl
    rw [h1]
    simp only [Tm.ta, Tm.tb, Tm.tc]
    exact ⟨by omega, fun _ => by omega⟩
  | lit a b c =>
    refine ⟨?_, fun h => absurd h (by simp [Tm.kind])⟩
    have hg' : litG a b c = true := hg
    unfold litG at hg'
    rw [Bool.and_eq_true] at hg'
    have hq := quoT_size (sgP a).1
    have ha := sg_small a
    have ht : (textOf (tailS b c)).size ≤ b.size + c.size + 4 := by
      unfold tailS
      by_cases h0 : c.size = 0
      · rw [if_pos h0]
        rw [if_pos h0, Bool.and_eq_true] at hg'
        by_cases hx : b = XS
        · rw [if_pos hx]
          have h1 : (textOf []).size = 0 := rfl
          rw [h1]; omega
        · rw [if_neg hx]
          have e := sg_text (iri_signs hg'.2.2).1
          have e3 : textOf (94 :: 94 :: 60 :: ((sgP b).1 ++ [62])) = (textOf [94, 94, 60] ++ textOf (sgP b).1) ++ textOf [62] := by rw [← textOf_app, ← textOf_app]; rfl
          rw [e3, e, ByteArray.size_append, ByteArray.size_append]
          have h1 : (textOf [94, 94, 60]).size = 3 := rfl
          have h2 : (textOf [62]).size = 1 := rfl
          rw [h1, h2]; omega
      · rw [if_neg h0]
        rw [if_neg h0, Bool.and_eq_true] at hg'
        have e := sg_text (lang_signs hg'.2.2).1
        rw [text_cons, e, ByteArray.size_append]
        have h1 : (textOf [64]).size = 1 := rfl
        rw [h1]; omega
    have hz : textOf (tS (.lit a b c)) = textOf (quoS (sgP a).1) ++ textOf (tailS b c) := by unfold tS; exact textOf_app _ _
    rw [hz, ByteArray.size_append]
    simp only [Tm.ta, Tm.tb, Tm.tc]
    omega
  | odd n => cases hg
  | none => cases hg
theorem may_low {t : Tm} {part : Nat} (h : mayB t part = true) (hp : part < 2) : t.kind < 2 := by
  have := kind_nn t
  unfold mayB at h
  simp at h
  omega
theorem ln_size {ts : List Tm} (hs : Sm ts) (hg : Gd ts) : (textOf (lnS ts)).size ≤ 2820 := by
  obtain ⟨a, b, c, rfl, hg, hm⟩ := hg
  obtain ⟨a', b', c', e, hs⟩ := hs
  have h0 := hs a (by simp)
  have h1 := hs b (by simp)
  have h2 := hs c (by simp)
  have sa := (tS_size a hg.1).2 (may_low hm.1 (by decide))
  have sb := (tS_size b hg.2.1).2 (may_low hm.2.1 (by decide))
  have sc := (tS_size c hg.2.2).1
  rw [lnS_T, textOf_app, tri_text]
  simp only [ByteArray.size_append]
  have n1 : (⟨#[32]⟩ : ByteArray).size = 1 := rfl
  have n2 : (⟨#[32, 46]⟩ : ByteArray).size = 2 := rfl
  have n3 : (textOf [10]).size = 1 := rfl
  rw [n1, n2, n3]
  omega
theorem lns_size : ∀ L : List (List Tm), (∀ ts ∈ L, Sm ts ∧ Gd ts) → (textOf (lnsS L)).size ≤ 2820 * L.length
  | [], _ => by
    have h : (textOf (lnsS [])).size = 0 := rfl
    rw [h]; omega
  | ts :: L, h => by
    have h1 := ln_size (h ts List.mem_cons_self).1 (h ts List.mem_cons_self).2
    have ih := lns_size L fun x hx => h x (List.mem_cons_of_mem _ hx)
    rw [lnsS_cons, textOf_app, ByteArray.size_append, List.length_cons]
    omega
/-! ### Rows -/
theorem rows_apart {W : World} {B B' : Nat} {e e' : TypeId} {m m' n n' : Nat} {v v' : Value} {xs xs' : List Value} (h : W.ownsRow B e m v n xs) (h' : W.ownsRow B' e' m' v' n' xs') (hne : e ≠ e') : v.ownBlock = none ∨ v.ownBlock ≠ v'.ownBlock := by
  rcases h.2 with ⟨hv, _⟩ | ⟨g, cap, cur, hv, _, hg, _⟩
  · left; rw [hv]; rfl
  · right
    intro eq
    rcases h'.2 with ⟨hv', _⟩ | ⟨g', cap', cur', hv', _, hg', _⟩
    · rw [hv, hv'] at eq; cases eq
    · rw [hv, hv'] at eq
      simp [Value.ownBlock] at eq
      subst eq
      rw [hg] at hg'
      cases hg'
      exact hne rfl
theorem row_box {W : World} {B : Nat} {e t : TypeId} {m n : Nat} {v : Value} {xs : List Value} {g : Nat} {cs : Array Value} (h : W.ownsRow B e m v n xs) (hb : Fb W g t cs) (hne : e ≠ t) : v.ownBlock ≠ some g := by
  rcases h.2 with ⟨hv, _⟩ | ⟨g', cap, cur, hv, _, hg, _⟩
  · rw [hv]; intro e; cases e
  · rw [hv]
    intro e
    simp [Value.ownBlock] at e
    subst e
    unfold Fb at hb
    rw [hg] at hb
    cases hb
    exact hne rfl
theorem types_ne : 57 ≠ 34 := by decide
/-- The loop's world: a box; all good ones so far (the document's); a row that is done; the row that grows. -/
structure Jw (W0 : World) (N1 g : Nat) (cs : Array Value) (v9 : Value) (L9 : List (List Tm)) (vf : Value) (F : List (List Tm)) (v10 : Value) (L10 : List (List Tm)) (W : World) : Prop where
  b : Below W0.heap.size W0 W
  n0 : W0.heap.size ≤ N1
  n1 : N1 ≤ W.heap.size
  box : Fb W g 34 cs
  all : DtV W0.heap.size W v9 L9
  done : TrsV W0.heap.size W vf F
  row : TrsV N1 W v10 L10
  far : ∀ k, vf.ownBlock = some k → k < N1
  ne : v9.ownBlock ≠ some g
section
variable {W0 : World} {N1 g : Nat} {cs : Array Value} {v9 vf v10 : Value} {L9 F L10 : List (List Tm)}
theorem Jw.below {W W' : World} (h : Jw W0 N1 g cs v9 L9 vf F v10 L10 W) (hb : Below W.heap.size W W') : Jw W0 N1 g cs v9 L9 vf F v10 L10 W' :=
  ⟨h.b.trans (hb.mono h.b.size), h.n0, Nat.le_trans h.n1 hb.size, h.box.below hb, h.all.below hb, h.done.below hb, h.row.below hb, h.far, h.ne⟩
theorem Jw.alloc {W : World} (h : Jw W0 N1 g cs v9 L9 vf F v10 L10 W) (o : Obj) : Jw W0 N1 g cs v9 L9 vf F v10 L10 (W.alloc o) := h.below ((Below.refl _ _).alloc (Nat.le_refl _) o)
theorem Jw.drew {W : World} (h : Jw W0 N1 g cs v9 L9 vf F v10 L10 W) : Jw W0 N1 g cs v9 L9 vf F v10 L10 W.drew := ⟨Below.drew h.b, h.n0, h.n1, h.box, h.all, h.done, h.row, h.far, h.ne⟩
theorem jw_of {W : World} {f : Nat} {args : Array Value} {y : Value} (h : Jw W0 N1 g cs v9 L9 vf F v10 L10 W) (k : Calls Try.prog f args W fun e w' => e = .returned y ∧ Below W.heap.size W w') :
    Calls Try.prog f args W fun e w' => e = .returned y ∧ Jw W0 N1 g cs v9 L9 vf F v10 L10 w' := k.mono fun _ _ ⟨x, z⟩ => ⟨x, h.below z⟩
theorem Jw.app9 {W w5 : World} {n cap g5 : Nat} {news : List Value} {ts : List Tm} (h : Jw W0 N1 g cs v9 L9 vf F v10 L10 W) (hn : n = L9.length + 1) (hw : news = ts.flatMap c4)
    (hown : w5.ownsRow W0.heap.size 34 12 (.slice (some ⟨g5, 0, none⟩) n cap) n (cellsD L9 ++ news)) (hg : W.grownBy w5 v9.ownBlock) (hloc : v9.ownBlock = some g5 ∨ g5 = W.heap.size) :
    Jw W0 N1 g cs (.slice (some ⟨g5, 0, none⟩) n cap) (L9 ++ [ts]) vf F v10 L10 w5 := by
  subst hw
  refine ⟨h.b.grown hg h.b.size (fun j hj => (World.ownsRow.lt h.all j hj).1), h.n0, Nat.le_trans h.n1 hg.size, (hg.block g h.box.lt (fun e => h.ne e.symm)).trans h.box, ?_,
    World.ownsRow.kept h.done hg (rows_apart h.done h.all types_ne), World.ownsRow.kept h.row hg (rows_apart h.row h.all types_ne), h.far, ?_⟩
  · unfold DtV
    rw [cellsD_snoc, List.length_append]
    subst hn
    exact hown
  · intro e
    have e' : some g5 = some g := e
    rcases hloc with hl | hl
    · exact h.ne (by rw [hl, e'])
    · have := h.box.lt
      have := Option.some.inj e'
      omega
theorem Jw.app10 {W w5 : World} {n cap g5 : Nat} {news : List Value} {ts : List Tm} (h : Jw W0 N1 g cs v9 L9 vf F v10 L10 W) (hn : n = L10.length + 1) (hw : news = ts.map Tm.val)
    (hown : w5.ownsRow N1 57 3 (.slice (some ⟨g5, 0, none⟩) n cap) n (cellsT L10 ++ news)) (hg : W.grownBy w5 v10.ownBlock) :
    Jw W0 N1 g cs v9 L9 vf F (.slice (some ⟨g5, 0, none⟩) n cap) (L10 ++ [ts]) w5 := by
  subst hw
  have hne : vf.ownBlock = none ∨ vf.ownBlock ≠ v10.ownBlock := by
    cases hv : vf.ownBlock with
    | none => exact .inl rfl
    | some k =>
      right
      intro e
      have h1 := h.far k hv
      have h2 := (World.ownsRow.lt h.row k e.symm).1
      omega
  refine ⟨h.b.grown hg h.b.size (fun j hj => Nat.le_trans h.n0 (World.ownsRow.lt h.row j hj).1), h.n0, Nat.le_trans h.n1 hg.size, (hg.block g h.box.lt (fun e => row_box h.row h.box types_ne e.symm)).trans h.box,
    World.ownsRow.kept h.all hg (rows_apart h.all h.row types_ne.symm), World.ownsRow.kept h.done hg hne, ?_, h.far, h.ne⟩
  unfold TrsV
  rw [cellsT_snoc, List.length_append]
  subst hn
  exact hown
end
end Go.Proofs.Ytpnfjjgihkmjmaa

/-
  TRIPLES' KEYS: plain; a dictionary's world beside boxes.
-/
namespace Go.Proofs.Ytpnfjjgihkmjmaa
open Go.RowKit
set_option linter.unusedVariables false
set_option linter.unusedSimpArgs false
set_option maxRecDepth 100000

theorem d_nm_app {t : Tm} : ∀ {A : List Tm} {j : Nat} (B : List Tm), nm t A = some j → nm t (A ++ B) = some j
  | [], j, B, h => by cases h
  | a :: A, j, B, h => by
    show (if sameB t a = true then some 0 else (nm t (A ++ B)).map (· + 1)) = _
    have h' : (if sameB t a = true then some 0 else (nm t A).map (· + 1)) = some j := h
    by_cases hs : sameB t a = true
    · rw [if_pos hs] at h' ⊢; exact h'
    · rw [if_neg hs] at h' ⊢
      cases hn : nm t A with
      | none => rw [hn] at h'; cases h'
      | some q => rw [hn] at h'; rw [d_nm_app B hn]; exact h'
theorem nm_last {t : Tm} (ht : t.kind < 3) : ∀ {A : List Tm}, nm t A = none → nm t (A ++ [t]) = some A.length
  | [], h => by
    show (if sameB t t = true then some 0 else _) = _
    rw [if_pos (d_refl ht)]; rfl
  | a :: A, h => by
    have h' : (if sameB t a = true then some 0 else (nm t A).map (· + 1)) = none := h
    show (if sameB t a = true then some 0 else (nm t (A ++ [t])).map (· + 1)) = _
    by_cases hs : sameB t a = true
    · rw [if_pos hs] at h'; cases h'
    · rw [if_neg hs] at h' ⊢
      cases hn : nm t A with
      | some q => rw [hn] at h'; cases h'
      | none => rw [nm_last ht hn]; rfl
/-- A term put where there is room. -/
theorem putG_room {room : Int} {L : List Tm} {t : Tm} (ht : t.kind < 3) (hr : (L.length : Int) < room) : ∃ L1 j M, putG room L t = (L1, ((j : Nat) : Int), 0) ∧ nm t L1 = some j ∧ L1 = L ++ M ∧ L1.length ≤ L.length + 1 := by
  unfold putG
  cases hn : nm t L with
  | some j => exact ⟨L, j, [], rfl, hn, by simp, by omega⟩
  | none =>
    dsimp only
    rw [if_neg (by omega)]
    exact ⟨L ++ [t], L.length, [t], rfl, nm_last ht hn, rfl, by simp⟩
theorem putG_there {room : Int} {L : List Tm} {t : Tm} {j : Nat} (h : nm t L = some j) : putG room L t = (L, (j : Int), 0) := by unfold putG; rw [h]
/-- A good triple's key where there is room; the same again; its terms. -/
theorem key_room {room : Int} {L : List Tm} {a b c : Tm} (hok : okR a b c 0 = true) (ka : a.kind < 3) (kb : b.kind < 3) (kc : c.kind < 3) (hr : (L.length : Int) + 3 ≤ room) :
    ∃ (L' : List Tm) (j0 j1 j2 : Nat), keyP room L a b c = (L', ((j0 : Int), (j1 : Int), (j2 : Int)), 0) ∧ keyP room L' a b c = (L', ((j0 : Int), (j1 : Int), (j2 : Int)), 0) ∧ tripD L' j0 j1 j2 = ((a, b, c), 0) ∧ nm a L' = some j0 ∧ L'.length ≤ L.length + 3 ∧ ∃ M, L' = L ++ M := by
  obtain ⟨L1, j0, M1, e1, n1, p1, l1⟩ := putG_room (L := L) ka (show (L.length : Int) < room by omega)
  obtain ⟨L2, j1, M2, e2, n2, p2, l2⟩ := putG_room (L := L1) kb (show (L1.length : Int) < room by omega)
  obtain ⟨L3, j2, M3, e3, n3, p3, l3⟩ := putG_room (L := L2) kc (show (L2.length : Int) < room by omega)
  have q1 : nm a L3 = some j0 := by rw [p3, p2, List.append_assoc]; exact d_nm_app _ n1
  have q2 : nm b L3 = some j1 := by rw [p3]; exact d_nm_app _ n2
  have hat : ∀ (t : Tm) (j : Nat), nm t L3 = some j → hasB L3 j = true ∧ atN L3 j = t := fun t j h => by
    have h1 := (nm_some h).1
    have h2 := nm_lt h
    refine ⟨hasB_iff.2 ⟨by omega, by omega⟩, ?_⟩
    unfold atN
    rw [Int.toNat_natCast, h1]; rfl
  refine ⟨L3, j0, j1, j2, ?_, ?_, ?_, q1, by omega, M1 ++ (M2 ++ M3), by rw [p3, p2, p1]; simp⟩
  · unfold keyP key3
    rw [if_pos hok, e1, e2, e3]
    simp
  · unfold keyP key3
    rw [if_pos hok, putG_there q1, putG_there q2, putG_there n3]
    simp
  · unfold tripD
    obtain ⟨h0, a0⟩ := hat a j0 q1
    obtain ⟨h1, a1⟩ := hat b j1 q2
    obtain ⟨h2, a2⟩ := hat c j2 n3
    rw [if_pos ⟨h0, h1, h2⟩, a0, a1, a2, if_pos hok]
theorem putG_mem {room : Int} {L : List Tm} {t u : Tm} (h : u ∈ (putG room L t).1) : u ∈ L ∨ u = t := by
  unfold putG at h
  cases hn : nm t L with
  | some j => rw [hn] at h; exact .inl h
  | none =>
    rw [hn] at h
    dsimp only at h
    split at h
    · exact .inl h
    · rcases List.mem_append.1 h with h | h
      · exact .inl h
      · exact .inr (by simpa using h)
theorem keyP_mem {room : Int} {L : List Tm} {a b c u : Tm} (h : u ∈ (keyP room L a b c).1) : u ∈ L ∨ u = a ∨ u = b ∨ u = c := by
  unfold keyP key3 at h
  split at h
  · split at h
    · exact .inl h
    split at h
    · exact .inl h
    split at h
    · exact .inl h
    · rcases putG_mem h with h | h
      · rcases putG_mem h with h | h
        · rcases putG_mem h with h | h
          · exact .inl h
          · exact .inr (.inl h)
        · exact .inr (.inr (.inl h))
      · exact .inr (.inr (.inr h))
  · exact .inl h
theorem good_of_ok {a b c : Tm} (h : okR a b c 0 = true) : goodT a = true := by
  unfold okR okP at h
  simp only [Bool.and_eq_true] at h
  exact h.1.1
/-! ### A dictionary's world -/
structure Dl (W0 : World) (d m : Nat) (room : Int) (v : Value) (L : List Tm) (W : World) : Prop where
  b : Below W0.heap.size W0 W
  dc : Dc W0.heap.size d m room v L W
section
variable {W0 : World} {d m : Nat} {room : Int} {v : Value} {L : List Tm}
theorem Dl.below {W W' : World} (h : Dl W0 d m room v L W) (hb : Below W.heap.size W W') : Dl W0 d m room v L W' := ⟨h.b.trans (hb.mono h.b.size), h.dc.below hb⟩
theorem Dl.turn {W W' : World} {v' : Value} {L' : List Tm} (h : Dl W0 d m room v L W) (hd : Dc W0.heap.size d m room v' L' W') (ht : Tn d m v v' W W') : Dl W0 d m room v' L' W' := ⟨ht.below h.dc h.b, hd⟩
theorem dl_of {W : World} {f : Nat} {args : Array Value} {y : Value} (h : Dl W0 d m room v L W) (kk : Calls Try.prog f args W fun e w' => e = .returned y ∧ Below W.heap.size W w') :
    Calls Try.prog f args W fun e w' => e = .returned y ∧ Dl W0 d m room v L w' ∧ Below W.heap.size W w' := kk.mono fun _ _ ⟨x, z⟩ => ⟨x, h.below z, z⟩
end
theorem r12_ne_dict : 34 ≠ 89 := by decide
theorem r12_ne_term : 34 ≠ 41 := by decide
theorem tr_ne_dict : 57 ≠ 89 := by decide
theorem tr_ne_term : 57 ≠ 41 := by decide
/-- One triple in a row of its own. -/
theorem one_trs (W : World) (a b c : Tm) : TrsV W.heap.size (W.alloc (.cells #[a.val, b.val, c.val] 57)) (.slice (some ⟨W.heap.size, 0, none⟩) 1 1) [[a, b, c]] :=
  ⟨rfl, .inr ⟨W.heap.size, 1, _, rfl, Nat.le_refl _, heap_alloc_new W _, Nat.le_refl _, by decide, rfl, rfl⟩⟩
theorem one_dtv (W : World) (a b c : Tm) : DtV W.heap.size (W.alloc (.cells #[.int .i64 a.kind, .string a.ta, .string a.tb, .string a.tc, .int .i64 b.kind, .string b.ta, .string b.tb, .string b.tc, .int .i64 c.kind, .string c.ta, .string c.tb, .string c.tc] 34)) (.slice (some ⟨W.heap.size, 0, none⟩) 1 1) [[a, b, c]] :=
  ⟨rfl, .inr ⟨W.heap.size, 1, _, rfl, Nat.le_refl _, heap_alloc_new W _, Nat.le_refl _, by decide, rfl, rfl⟩⟩
theorem infoIntK : ∃ i, Try.prog.info? 3 = some i := Option.isSome_iff_exists.1 (by kernel_rfl)
theorem eqKey (x y z x' y' z' : Int) (w : World) : (Op.equalIn 10000 53 (.agg #[.int .i64 x, .int .i64 y, .int .i64 z]) (.agg #[.int .i64 x', .int .i64 y', .int .i64 z'])).run Try.prog w = .ok ((x == x') && ((y == y') && (z == z'))) w := by
  obtain ⟨i, hi⟩ := infoIntK
  have hs : Try.prog.cellsOf 3 = 1 := by kernel_rfl
  have hu : Try.prog.underlying 53 = some (.array 3 3) := by kernel_rfl
  rw [run_equalIn_array (w := w) 9999 _ _ hu hi, hs]
  simp only [show List.range 3 = [0, 1, 2] by decide, Op.eqItems]
  go_simp
  by_cases h1 : x = x' <;> by_cases h2 : y = y' <;> by_cases h3 : z = z' <;> simp [h1, h2, h3]
theorem neqKey (x y z x' y' z' : Int) (w : World) : (binOp .neq 53 (.agg #[.int .i64 x, .int .i64 y, .int .i64 z]) (.agg #[.int .i64 x', .int .i64 y', .int .i64 z'])).run Try.prog w = .ok (.bool (!((x == x') && ((y == y') && (z == z'))))) w := by
  have hE := eqKey x y z x' y' z'
  go_simp
end Go.Proofs.Ytpnfjjgihkmjmaa

/-
  DictKeys's walk.
-/
namespace Go.Proofs.Ytpnfjjgihkmjmaa
open Go.RowKit
set_option linter.unusedVariables false
set_option linter.unusedSimpArgs false
set_option maxRecDepth 100000

theorem dfew_true {l : List Dt} (h : fewB l = true) (hok : ∀ t ∈ l, t.ok) (A : Option Addr) (cap : Nat) (hc : l.length ≤ cap) (hm : cap ≤ maxLen) (w : World) (hs : SlAt w A 12 (l.map Dt.cells)) {W : World} (hb : Below w.heap.size w W) :
    Calls Try.prog 32 #[.slice A l.length cap] W fun e w' => ∃ A' c', e = .returned (.tuple #[.slice A' (fewL l).length c', .bool true]) ∧ DtV W.heap.size w' (.slice A' (fewL l).length c') (fewL l) ∧ Below W.heap.size W w' :=
  (nfew_any l hok A cap hc hm W (hs.below hb)).mono fun e w' ⟨v, e1, h1, h2⟩ => by
    obtain ⟨A', c', rfl⟩ := (h1 h).shape
    exact ⟨A', c', by rw [e1, h], h1 h, h2⟩
theorem dfew_false {l : List Dt} (h : fewB l = false) (hok : ∀ t ∈ l, t.ok) (A : Option Addr) (cap : Nat) (hc : l.length ≤ cap) (hm : cap ≤ maxLen) (w : World) (hs : SlAt w A 12 (l.map Dt.cells)) {W : World} (hb : Below w.heap.size w W) :
    Calls Try.prog 32 #[.slice A l.length cap] W fun e w' => ∃ v, e = .returned (.tuple #[v, .bool false]) ∧ Below W.heap.size W w' :=
  (nfew_any l hok A cap hc hm W (hs.below hb)).mono fun e w' ⟨v, e1, h1, h2⟩ => ⟨v, by rw [e1, h], h2⟩
/-- The loop: i triples behind it. -/
def DkI (W0 : World) (d m : Nat) (n : Nat) (g : Nat) (s33 : Value) (wr : World) : Prop :=
  ∃ (i : Nat) (v : Value) (L : List Tm), i + g = n ∧ s33 = .int .i64 i ∧ Dl W0 d m 100 v L wr ∧ Hid (L.length ≤ 3 * i ∧ ∀ t ∈ L, t.few)
set_option maxHeartbeats 64000000 in
theorem dkeys_walk (l : List Dt) (hl : ∀ t ∈ l, t.ok) (A : Option Addr) (cap : Nat) (hc : l.length ≤ cap) (hm : cap ≤ maxLen) (w : World) (hs : SlAt w A 12 (l.map Dt.cells)) :
    Calls Try.prog 7 #[.slice A l.length cap] w fun e w' => e = .returned (.bool true) ∧ Below w.heap.size w w' := by
  have cA : ∀ {W : World}, Below w.heap.size w W → Calls Try.prog 8 #[] W fun e w' => e = .returned (.bool true) ∧ Below w.heap.size w w' := fun {W} hb => (dawake_ok W).mono fun _ _ ⟨x, y⟩ => ⟨x, hb.trans (y.mono hb.size)⟩
  have hB0 : Below w.heap.size w w := Below.refl _ _
  have HS := Lib.hid hs
  have HL := Lib.hid hl
  have HC := Lib.hid hc
  have HM := Lib.hid hm
  clear hs hl hc hm
  cases hf : fewB l with
  | false =>
    have HF := Lib.hid hf
    clear hf
    go_enter Try.func7, Try.ntmps7
    go_wp2_with (first
      | (go_at_call 8; (with_reducible refine (cA hB0).mono ?_); rintro e w1 ⟨rfl, hB1⟩)
      | (go_at_call 32; (with_reducible refine (dfew_false HF.out HL.out A cap HC.out HM.out w HS.out hB1).mono ?_); rintro e w2 ⟨v2, rfl, hb2⟩; have hB2 := hB1.trans (hb2.mono hB1.size)))
    go_ret
    exact ⟨rfl, hB2⟩
  | true =>
    have c1 : ∀ {W : World}, Below w.heap.size w W → Calls Try.prog 32 #[.slice A l.length cap] W fun e w' => ∃ A' c', e = .returned (.tuple #[.slice A' (fewL l).length c', .bool true]) ∧ DtV W.heap.size w' (.slice A' (fewL l).length c') (fewL l) ∧ Below W.heap.size W w' := fun {W} hb => dfew_true hf HL.out A cap HC.out HM.out w HS.out hb
    have hSa := few_sm hf
    have hna := few_len l
    generalize fewL l = La at c1 hSa hna
    have HSA := Lib.hid hSa
    have HNA := Lib.hid hna
    have cN := fun W => dnew_ok 100 (by decide) (by decide) W
    clear hf hSa hna
    go_enter Try.func7, Try.ntmps7
    go_wp2_with (first
      | (go_at_call 8; (with_reducible refine (cA hB0).mono ?_); rintro e w1 ⟨rfl, hB1⟩)
      | (go_at_call 32; (with_reducible refine (c1 hB1).mono ?_); rintro e w3 ⟨A3, c3, rfl, hd2, hb2⟩; have hB3 := hB1.trans (hb2.mono hB1.size))
      | (go_at_call 9; (with_reducible refine (cN _).mono ?_); rintro e w4 ⟨d, m, rfl, hD4, hb4⟩))
    have HDA := Lib.hid hd2
    have HB3 := Lib.hid hB3
    have HST : Hid (Dl w3 d m 100 (.slice none 0 0) [] w4) := Lib.hid ⟨hb4, hD4⟩
    clear hd2 hb2 hB0 hB1 hB3 c1 cA HS HL HC HM cN hD4 hb4
    go_loopg [33] La.length (fun g s33 wr => DkI w3 d m La.length g s33 wr)
    case atStart => exact ⟨0, _, [], by omega, rfl, HST.out, Lib.hid ⟨Nat.zero_le _, fun t h => by cases h⟩⟩
    case round =>
      clear HST
      obtain ⟨i, v5, L, hig, rfl, hK, HK⟩ := hrel
      cases gk with
      | zero =>
        have hin : ¬ (i : Int) < (La.length : Int) := by omega
        clear hig
        go_wp2
        go_ret
        exact ⟨rfl, HB3.out.trans (hK.b.mono HB3.out.size)⟩
      | succ g =>
        have hin : (i : Int) < (La.length : Int) := by omega
        have hi0 : (0 : Int) ≤ (i : Int) := by omega
        obtain ⟨ts, hts⟩ : ∃ ts, La[i]? = some ts := ⟨_, List.getElem?_eq_getElem (by omega)⟩
        have hsm := HSA.out ts (List.mem_of_getElem? hts)
        have h10 := HNA.out
        obtain ⟨gb, cb, eb, hgb, hq⟩ := dtV_at HDA.out (fun ts h => (HSA.out ts h).len) hts
        injection eb with eb1 eb2 eb3
        subst eb1 eb3
        have hi9 : i < 10 := by omega
        obtain ⟨x0, x1, x2, rfl, hx⟩ := hsm
        have f0 := hx x0 (by simp)
        have f1 := hx x1 (by simp)
        have f2 := hx x2 (by simp)
        have cG := qgood_any x0 x1 x2 ⟨by omega, by omega, by omega⟩ ⟨by omega, by omega, by omega⟩ ⟨by omega, by omega, by omega⟩
        have hnD : [.int .i64 x0.kind, .string x0.ta, .string x0.tb, .string x0.tc, .int .i64 x1.kind, .string x1.ta, .string x1.tb, .string x1.tc, .int .i64 x2.kind, .string x2.ta, .string x2.tb, .string x2.tc] = [x0, x1, x2].flatMap c4 := rfl
        have w0 : x0.few := ⟨by omega, by omega, by omega⟩
        have w1' : x1.few := ⟨by omega, by omega, by omega⟩
        have w2' : x2.few := ⟨by omega, by omega, by omega⟩
        have cR := nreal_any x0 x1 x2 f0.1 f1.1 f2.1
        have r0 := real_kind x0 f0.1
        unfold T12 at cG cR
        unfold T4 at r0
        obtain ⟨k0, yk0⟩ : ∃ y, y = x0.kind := ⟨_, rfl⟩
        obtain ⟨a0, ya0⟩ : ∃ y, y = x0.ta := ⟨_, rfl⟩
        obtain ⟨b0, yb0⟩ : ∃ y, y = x0.tb := ⟨_, rfl⟩
        obtain ⟨d0, yd0⟩ : ∃ y, y = x0.tc := ⟨_, rfl⟩
        rw [← yk0, ← ya0, ← yb0, ← yd0] at cG cR r0 hnD
        obtain ⟨k1, yk1⟩ : ∃ y, y = x1.kind := ⟨_, rfl⟩
        obtain ⟨a1, ya1⟩ : ∃ y, y = x1.ta := ⟨_, rfl⟩
        obtain ⟨b1, yb1⟩ : ∃ y, y = x1.tb := ⟨_, rfl⟩
        obtain ⟨d1, yd1⟩ : ∃ y, y = x1.tc := ⟨_, rfl⟩
        rw [← yk1, ← ya1, ← yb1, ← yd1] at cG cR hnD
        obtain ⟨k2, yk2⟩ : ∃ y, y = x2.kind := ⟨_, rfl⟩
        obtain ⟨a2, ya2⟩ : ∃ y, y = x2.ta := ⟨_, rfl⟩
        obtain ⟨b2, yb2⟩ : ∃ y, y = x2.tb := ⟨_, rfl⟩
        obtain ⟨d2, yd2⟩ : ∃ y, y = x2.tc := ⟨_, rfl⟩
        rw [← yk2, ← ya2, ← yb2, ← yd2] at cG cR hnD
        have q0 : wr.cell? ⟨gb, i * 12, none⟩ = some (.int .i64 k0) := by rw [yk0]; exact (hK.b.cell (p := ⟨gb, i * 12, none⟩) hgb).trans (hq 0 _ rfl)
        have q1 : wr.cell? ⟨gb, i * 12 + 1, none⟩ = some (.string a0) := by rw [ya0]; exact (hK.b.cell (p := ⟨gb, i * 12 + 1, none⟩) hgb).trans (hq 1 _ rfl)
        have q2 : wr.cell? ⟨gb, i * 12 + 2, none⟩ = some (.string b0) := by rw [yb0]; exact (hK.b.cell (p := ⟨gb, i * 12 + 2, none⟩) hgb).trans (hq 2 _ rfl)
        have q3 : wr.cell? ⟨gb, i * 12 + 3, none⟩ = some (.string d0) := by rw [yd0]; exact (hK.b.cell (p := ⟨gb, i * 12 + 3, none⟩) hgb).trans (hq 3 _ rfl)
        have q4 : wr.cell? ⟨gb, i * 12 + 4, none⟩ = some (.int .i64 k1) := by rw [yk1]; exact (hK.b.cell (p := ⟨gb, i * 12 + 4, none⟩) hgb).trans (hq 4 _ rfl)
        have q5 : wr.cell? ⟨gb, i * 12 + 5, none⟩ = some (.string a1) := by rw [ya1]; exact (hK.b.cell (p := ⟨gb, i * 12 + 5, none⟩) hgb).trans (hq 5 _ rfl)
        have q6 : wr.cell? ⟨gb, i * 12 + 6, none⟩ = some (.string b1) := by rw [yb1]; exact (hK.b.cell (p := ⟨gb, i * 12 + 6, none⟩) hgb).trans (hq 6 _ rfl)
        have q7 : wr.cell? ⟨gb, i * 12 + 7, none⟩ = some (.string d1) := by rw [yd1]; exact (hK.b.cell (p := ⟨gb, i * 12 + 7, none⟩) hgb).trans (hq 7 _ rfl)
        have q8 : wr.cell? ⟨gb, i * 12 + 8, none⟩ = some (.int .i64 k2) := by rw [yk2]; exact (hK.b.cell (p := ⟨gb, i * 12 + 8, none⟩) hgb).trans (hq 8 _ rfl)
        have q9 : wr.cell? ⟨gb, i * 12 + 9, none⟩ = some (.string a2) := by rw [ya2]; exact (hK.b.cell (p := ⟨gb, i * 12 + 9, none⟩) hgb).trans (hq 9 _ rfl)
        have q10 : wr.cell? ⟨gb, i * 12 + 10, none⟩ = some (.string b2) := by rw [yb2]; exact (hK.b.cell (p := ⟨gb, i * 12 + 10, none⟩) hgb).trans (hq 10 _ rfl)
        have q11 : wr.cell? ⟨gb, i * 12 + 11, none⟩ = some (.string d2) := by rw [yd2]; exact (hK.b.cell (p := ⟨gb, i * 12 + 11, none⟩) hgb).trans (hq 11 _ rfl)
        have hLl := HK.out.1
        have hLf := HK.out.2
        have hbx := Fb.new wr 34 #[.int .i64 k0, .string a0, .string b0, .string d0, .int .i64 k1, .string a1, .string b1, .string d1, .int .i64 k2, .string a2, .string b2, .string d2]
        have hK0 := hK.below ((Below.refl _ _).alloc (Nat.le_refl _) (.cells #[.int .i64 k0, .string a0, .string b0, .string d0, .int .i64 k1, .string a1, .string b1, .string d1, .int .i64 k2, .string a2, .string b2, .string d2] 34))
        have hnx : ∀ (v : Value) (L' : List Tm) (s33 : Value) (W : World), s33 = .int .i64 ((i + 1 : Nat) : Int) → Dl w3 d m 100 v L' W → L'.length ≤ 3 * i + 3 → (∀ t ∈ L', t.few) → DkI w3 d m La.length g s33 W := fun v L' s33 W h1 h2 h3 h4 => ⟨i + 1, v, L', by omega, h1, h2, Lib.hid ⟨by omega, h4⟩⟩
        have HNX := Lib.hid hnx
        have HI9 := Lib.hid hi9
        obtain ⟨ok, hok⟩ : ∃ ok, ok = okR x0 x1 x2 0 := ⟨_, rfl⟩
        rw [← hok] at cG
        cases ok with
        | false =>
          have HX := Lib.hid (show L.length ≤ 3 * i + 3 from by omega)
          have HLF := Lib.hid hLf
          clear hok cR r0 hnD hK hq hgb hts hig h10 hx f0 f1 f2 hi9 hLl hLf hnx hbx w0 w1' w2' yk0 ya0 yb0 yd0 yk1 ya1 yb1 yd1 yk2 ya2 yb2 yd2
          go_wp2_with (go_at_call 33; (with_reducible refine (cG _).mono ?_); rintro e w5 ⟨rfl, hb5⟩; have hK5 := hK0.below hb5)
          go_roundg g
          case measure => exact Nat.lt_succ_self g
          case rel => exact HNX.out _ _ _ _ (by have := HI9.out; first | rfl | (rw [IntWalk.wrap64_in _ ⟨by omega, by omega⟩, Int.natCast_succ])) hK5 HX.out HLF.out
        | true =>
          obtain ⟨L', j0, j1, j2, e1, e2, e3, e4, e5, M, e6⟩ := key_room (room := 100) (L := L) hok.symm f0.1 f1.1 f2.1 (by omega)
          obtain ⟨ta, va, hva⟩ := iface_of f0.1
          obtain ⟨tb, vb, hvb⟩ := iface_of f1.1
          obtain ⟨tc, vc, hvc⟩ := iface_of f2.1
          have hLf' : ∀ t ∈ L', t.few := by
            have hsub : ∀ t ∈ (keyP 100 L x0 x1 x2).1, t ∈ L ∨ t = x0 ∨ t = x1 ∨ t = x2 := fun t ht => keyP_mem ht
            rw [e1] at hsub
            intro t ht
            rcases hsub t ht with h | rfl | rfl | rfl
            · exact hLf t h
            · exact w0
            · exact w1'
            · exact w2'
          have cK1 : ∀ {W : World}, Dl w3 d m 100 v5 L W → Calls Try.prog 20 #[.pointer (some ⟨d, 0, none⟩), .agg #[.iface ta va, .iface tb vb, .iface tc vc]] W (KeyPost w3.heap.size d m 100 v5 W (L', ((j0 : Int), (j1 : Int), (j2 : Int)), 0)) := fun {W} h => by
            have := dkey_any h.dc h.b.size (by omega) x0 x1 x2 w0 w1' w2' f0.1 f1.1 f2.1
            rw [e1, hva, hvb, hvc] at this
            exact this
          have cK2 : ∀ {v : Value} {W : World}, Dl w3 d m 100 v L' W → Calls Try.prog 20 #[.pointer (some ⟨d, 0, none⟩), .agg #[.iface ta va, .iface tb vb, .iface tc vc]] W (KeyPost w3.heap.size d m 100 v W (L', ((j0 : Int), (j1 : Int), (j2 : Int)), 0)) := fun {v W} h => by
            have := dkey_any h.dc h.b.size (by omega) x0 x1 x2 w0 w1' w2' f0.1 f1.1 f2.1
            rw [e2, hva, hvb, hvc] at this
            exact this
          unfold KeyPost at cK1 cK2
          have cL : ∀ {v : Value} {W : World}, Dl w3 d m 100 v L' W → Calls Try.prog 31 #[.pointer (some ⟨d, 0, none⟩)] W fun e w' => e = .returned (.int .i64 L'.length) ∧ w' = W := fun {v W} h => dlen_any h.dc (by omega)
          have cT : ∀ {v : Value} {W : World}, Dl w3 d m 100 v L' W → Calls Try.prog 23 #[.pointer (some ⟨d, 0, none⟩), .agg #[.int .i64 j0, .int .i64 j1, .int .i64 j2]] W fun e w' => e = .returned (.tuple #[.agg #[.iface ta va, .iface tb vb, .iface tc vc], .int .i64 0]) ∧ Below W.heap.size W w' := fun {v W} h => by
            have := dtriple_any h.dc (by omega) hLf' j0 j1 j2
            rw [e3] at this
            unfold TriPost at this
            rw [hva, hvb, hvc] at this
            exact this
          have cF : ∀ {v : Value} {W : World}, Dl w3 d m 100 v L' W → Calls Try.prog 15 #[.pointer (some ⟨d, 0, none⟩), .iface ta va] W fun e w' => e = .returned (.tuple #[.int .i64 j0, .int .i64 0]) ∧ Below W.heap.size W w' := fun {v W} h => by
            have := dfind_any h.dc (by omega) x0 w0
            have e9 : findP L' x0 = some j0 := by unfold findP; rw [if_pos (good_of_ok hok.symm), e4]
            rw [e9, hva] at this
            exact this
          have cIs : ∀ (W : World) (g g' : Nat) (B B' : Nat), TrsV B W (.slice (some ⟨g, 0, none⟩) 1 1) [[x0, x1, x2]] → DtV B' W (.slice (some ⟨g', 0, none⟩) 1 1) [[x0, x1, x2]] → Calls Try.prog 24 #[.slice (some ⟨g, 0, none⟩) 1 1, .slice (some ⟨g', 0, none⟩) 1 1] W fun e w' => e = .returned (.bool true) ∧ Below W.heap.size W w' := fun W g g' B B' h1 h2 =>
            nis_same [[x0, x1, x2]] (fun ts ht => by
              obtain rfl : ts = [x0, x1, x2] := by simpa using ht
              exact ⟨rfl, fun u hu => by simp at hu; rcases hu with rfl | rfl | rfl <;> first | exact f0.1 | exact f1.1 | exact f2.1⟩) (by simp) W h1 h2
          have hot := fun (W : World) => one_trs W x0 x1 x2
          have hod := fun (W : World) => one_dtv W x0 x1 x2
          rw [← yk0, ← ya0, ← yb0, ← yd0, ← yk1, ← ya1, ← yb1, ← yd1, ← yk2, ← ya2, ← yb2, ← yd2] at hod
          rw [hva, hvb, hvc] at hot cR
          rw [hva] at r0
          have hnk := neqKey j0 j1 j2 j0 j1 j2
          rw [beq_self_eq_true, beq_self_eq_true, beq_self_eq_true] at hnk
          have cIs2 : ∀ (W : World), Calls Try.prog 24 #[.slice (some ⟨W.heap.size, 0, none⟩) 1 1, .slice (some ⟨W.heap.size + 1, 0, none⟩) 1 1] ((W.alloc (.cells #[.iface ta va, .iface tb vb, .iface tc vc] 57)).alloc (.cells #[.int .i64 k0, .string a0, .string b0, .string d0, .int .i64 k1, .string a1, .string b1, .string d1, .int .i64 k2, .string a2, .string b2, .string d2] 34)) fun e w' => e = .returned (.bool true) ∧ Below ((W.alloc (.cells #[.iface ta va, .iface tb vb, .iface tc vc] 57)).alloc (.cells #[.int .i64 k0, .string a0, .string b0, .string d0, .int .i64 k1, .string a1, .string b1, .string d1, .int .i64 k2, .string a2, .string b2, .string d2] 34)).heap.size ((W.alloc (.cells #[.iface ta va, .iface tb vb, .iface tc vc] 57)).alloc (.cells #[.int .i64 k0, .string a0, .string b0, .string d0, .int .i64 k1, .string a1, .string b1, .string d1, .int .i64 k2, .string a2, .string b2, .string d2] 34)) w' := fun W => by
            have h1 := (hot W).below ((Below.refl _ _).alloc (Nat.le_refl _) (.cells #[.int .i64 k0, .string a0, .string b0, .string d0, .int .i64 k1, .string a1, .string b1, .string d1, .int .i64 k2, .string a2, .string b2, .string d2] 34))
            have h2 := hod (W.alloc (.cells #[.iface ta va, .iface tb vb, .iface tc vc] 57))
            have e : (W.alloc (.cells #[.iface ta va, .iface tb vb, .iface tc vc] 57)).heap.size = W.heap.size + 1 := by simp
            rw [e] at h2
            exact cIs _ _ _ _ _ h1 h2
          have HX := Lib.hid (show L'.length ≤ 3 * i + 3 from by omega)
          have HLF := Lib.hid hLf'
          have HLE := Lib.hid (show L'.length ≤ 100 from by omega)
          generalize L'.length = nL at cL HLE
          have hj0 : (0 : Int) ≤ (j0 : Int) := by omega
          clear e1 e2 e3 e4 e5 e6 hok hnD hK hq hgb hts hig h10 hx f0 f1 f2 hi9 hLl hLf hLf' hnx hva hvb hvc w0 w1' w2' hot hod cIs yk0 ya0 yb0 yd0 yk1 ya1 yb1 yd1 yk2 ya2 yb2 yd2
          go_wp2_with (first
            | (go_at_call 33; (with_reducible refine (cG _).mono ?_); rintro e w5 ⟨rfl, hb5⟩; have hK5 := hK0.below hb5; have hx5 := hbx.below hb5; obtain ⟨x0, x1, x2, x3, x4, x5, x6, x7, x8, x9, xa, xb⟩ := Fb.c12 hx5)
            | (go_at_call 21; (with_reducible refine (cR _).mono ?_); rintro e w6 ⟨rfl, hb6⟩; have hK6 := hK5.below hb6; have hx6 := hx5.below hb6; clear x0 x1 x2 x3 x4 x5 x6 x7 x8 x9 xa xb)
            | (go_at_call 20; (with_reducible refine (cK1 hK6).mono ?_); rintro e w7 ⟨v7, rfl, hD7, hT7⟩; have hK7 := (hK6.turn hD7 hT7).below ((Below.refl _ _).alloc (Nat.le_refl _) (.cells #[.int .i64 j0, .int .i64 j1, .int .i64 j2] 53)); have hx7 := (hT7.fb hK6.dc hx6 r12_ne_dict r12_ne_term).below ((Below.refl _ _).alloc (Nat.le_refl _) (.cells #[.int .i64 j0, .int .i64 j1, .int .i64 j2] 53)); have hk7 := Fb.new w7 53 #[.int .i64 j0, .int .i64 j1, .int .i64 j2])
            | (go_at_call 31; (with_reducible refine (cL hK7).mono ?_); rintro e w8 ⟨rfl, rfl⟩; obtain ⟨x0, x1, x2, x3, x4, x5, x6, x7, x8, x9, xa, xb⟩ := Fb.c12 hx7)
            | (go_at_call 21; (with_reducible refine (cR _).mono ?_); rintro e w9 ⟨rfl, hb9⟩; have hK9 := hK7.below hb9; have hx9 := hx7.below hb9; have hk9 := hk7.below hb9; clear x0 x1 x2 x3 x4 x5 x6 x7 x8 x9 xa xb)
            | (go_at_call 20; (with_reducible refine (cK2 hK9).mono ?_); rintro e wa ⟨va', rfl, hDa, hTa⟩; have hKa := (hK9.turn hDa hTa).below ((Below.refl _ _).alloc (Nat.le_refl _) (.cells #[.int .i64 j0, .int .i64 j1, .int .i64 j2] 53)); have hxa := (hTa.fb hK9.dc hx9 r12_ne_dict r12_ne_term).below ((Below.refl _ _).alloc (Nat.le_refl _) (.cells #[.int .i64 j0, .int .i64 j1, .int .i64 j2] 53)); have hka := (hTa.fb hK9.dc hk9 key_ne_dict key_ne_term).below ((Below.refl _ _).alloc (Nat.le_refl _) (.cells #[.int .i64 j0, .int .i64 j1, .int .i64 j2] 53)); have hla := Fb.new wa 53 #[.int .i64 j0, .int .i64 j1, .int .i64 j2]; have u0 := hka.cell 0; have u1 := hka.cell 1; have u2 := hka.cell 2)
            | (go_at_call 23; (with_reducible refine (cT hKa).mono ?_); rintro e wb ⟨rfl, hbb⟩; have hKb := (hKa.below hbb).below ((Below.refl _ _).alloc (Nat.le_refl _) (.cells #[.iface ta va, .iface tb vb, .iface tc vc] 57)); have hxb := (hxa.below hbb).below ((Below.refl _ _).alloc (Nat.le_refl _) (.cells #[.iface ta va, .iface tb vb, .iface tc vc] 57)); have hkb := (hka.below hbb).below ((Below.refl _ _).alloc (Nat.le_refl _) (.cells #[.iface ta va, .iface tb vb, .iface tc vc] 57)); have hlb := (hla.below hbb).below ((Below.refl _ _).alloc (Nat.le_refl _) (.cells #[.iface ta va, .iface tb vb, .iface tc vc] 57)); have htb := Fb.new wb 57 #[.iface ta va, .iface tb vb, .iface tc vc]; clear u0 u1 u2; have x0 := hxb.cell 0; have x1 := hxb.cell 1; have x2 := hxb.cell 2; have x3 := hxb.cell 3)
            | (go_at_call 12; (with_reducible refine (r0 _).mono ?_); rintro e wc ⟨rfl, hbc⟩; have hKc := hKb.below hbc; have hxc := hxb.below hbc; have hkc := hkb.below hbc; have hlc := hlb.below hbc; have htc := htb.below hbc; clear x0 x1 x2 x3)
            | (go_at_call 15; (with_reducible refine (cF hKc).mono ?_); rintro e wd ⟨rfl, hbd⟩; have hKd := hKc.below hbd; have hxd := hxc.below hbd; have hkd := hkc.below hbd; have hld := hlc.below hbd; have htd := htc.below hbd; obtain ⟨x0, x1, x2, x3, x4, x5, x6, x7, x8, x9, xa, xb⟩ := Fb.c12 hxd; have u0 := hkd.cell 0; have u1 := hkd.cell 1; have u2 := hkd.cell 2; have y0 := hld.cell 0; have y1 := hld.cell 1; have y2 := hld.cell 2; have z0 := htd.cell 0; have z1 := htd.cell 1; have z2 := htd.cell 2; have gx := hxd.lt; have gk := hkd.lt)
            | (go_at_call 31; (with_reducible refine (cL hKd).mono ?_); rintro e we ⟨rfl, rfl⟩)
            | (go_at_call 24; (with_reducible refine (cIs2 _).mono ?_); rintro e wf ⟨rfl, hbf⟩; have hKf := (hKd.below ((Below.refl _ _).alloc (Nat.le_refl _) (.cells #[.iface ta va, .iface tb vb, .iface tc vc] 57))).below ((Below.refl _ _).alloc (Nat.le_refl _) (.cells #[.int .i64 k0, .string a0, .string b0, .string d0, .int .i64 k1, .string a1, .string b1, .string d1, .int .i64 k2, .string a2, .string b2, .string d2] 34)); have hKg := hKf.below hbf))
          go_roundg g
          case measure => exact Nat.lt_succ_self g
          case rel => exact HNX.out _ _ _ _ (by have := HI9.out; first | rfl | (rw [IntWalk.wrap64_in _ ⟨by omega, by omega⟩, Int.natCast_succ])) hKg HX.out HLF.out
end Go.Proofs.Ytpnfjjgihkmjmaa
