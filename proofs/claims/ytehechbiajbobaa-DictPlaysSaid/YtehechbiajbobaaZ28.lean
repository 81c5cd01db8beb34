/-
  MERGED (a claim has at most 60 files): NJn, DKs, EArg, DPx, DPC, DP14.
-/
import Derived.Test.YtehechbiajbobaaZ20
import Derived.Test.YtehechbiajbobaaZ27
import Derived.Deep.AppendLies
import Derived.Test.YtehechbiajbobaaZ24
import Derived.Test.YtehechbiajbobaaZ19
import Derived.ChangeKeysEq
import Derived.Test.YtehechbiajbobaaZ11
import Derived.Laws.IdiomArrays
import Derived.Test.YtehechbiajbobaaZ21
import Derived.Test.YtehechbiajbobaaZ22
import Derived.Test.YtehechbiajbobaaZ25
import Derived.Test.YtehechbiajbobaaZ26
import Derived.IntWalk
import Derived.Deep.RegionHeld3
import Derived.Deep.CutRange
import Derived.Deep.CutBlock
/-
  WHAT STANDS WHILE GOOD TRIPLES ARE GATHERED: plain lists; lines' sizes; the rows.
-/
namespace Go.Proofs.Ytehechbiajbobaa
open Go.RowKit
set_option linter.unusedVariables false
set_option linter.unusedSimpArgs false

/-! ### Plain -/
noncomputable def okL : List Tm → Bool
  | [a, b, c] => okR a b c 0
  | _ => false
noncomputable def goodL (L : List (List Tm)) : List (List Tm) := L.filter okL
theorem goodL_snoc (L : List (List Tm)) (ts : List Tm) : goodL (L ++ [ts]) = if okL ts = true then goodL L ++ [ts] else goodL L := by
  unfold goodL
  rw [List.filter_append]
  split
  · rename_i h; simp [h]
  · rename_i h; simp [h]
/-- Terms of kinds that there are, not long. -/
def Sm (ts : List Tm) : Prop := ∃ a b c, ts = [a, b, c] ∧ ∀ t ∈ ts, t.kind < 3 ∧ t.ta.size ≤ 300 ∧ t.tb.size ≤ 300 ∧ t.tc.size ≤ 100
theorem Sm.few {ts : List Tm} (h : Sm ts) : ∀ t ∈ ts, t.few := fun t ht => by
  obtain ⟨a, b, c, rfl, h⟩ := h
  have := h t ht
  exact ⟨by omega, by omega, by omega⟩
theorem Sm.len {ts : List Tm} (h : Sm ts) : ts.length = 3 := by obtain ⟨a, b, c, rfl, _⟩ := h; rfl
theorem pl3_kind (k : Int) (a b c : ByteArray) : (pl3 k a b c).kind < 3 := by
  unfold pl3
  split
  · simp [Tm.kind]
  split
  · simp [Tm.kind]
  · simp [Tm.kind]
theorem few_sm {l : List Dt} (h : fewB l = true) : ∀ ts ∈ fewL l, Sm ts := fun ts hts => by
  unfold fewB at h
  unfold fewL at hts
  obtain ⟨t, ht, rfl⟩ := List.mem_map.1 hts
  have hs := List.all_eq_true.1 h t ht
  unfold Dt.sh at hs
  have hs := List.all_eq_true.1 hs
  refine ⟨t.s.pl, t.p.pl, t.o.pl, rfl, fun u hu => ?_⟩
  obtain ⟨r, hr, rfl⟩ := List.mem_map.1 hu
  have hr2 := hs r hr
  unfold Dw.sh at hr2
  simp only [Bool.and_eq_true, decide_eq_true_eq] at hr2
  have hp := pl3_small r.k r.a r.b r.c
  exact ⟨pl3_kind _ _ _ _, by unfold Dw.pl; omega, by unfold Dw.pl; omega, by unfold Dw.pl; omega⟩
theorem few_len (l : List Dt) : (fewL l).length ≤ 10 := by unfold fewL; rw [List.length_map, List.length_take]; omega
theorem ok_gd {ts : List Tm} (h : okL ts = true) : Gd ts := by
  match ts, h with
  | [a, b, c], h =>
    have h' : okR a b c 0 = true := h
    unfold okR okP at h'
    simp only [Bool.and_eq_true] at h'
    exact ⟨a, b, c, rfl, ⟨h'.1.1, h'.2.1.1, h'.2.2.1⟩, ⟨h'.1.2, h'.2.1.2, h'.2.2.2⟩⟩
theorem goodL_gd {L : List (List Tm)} : ∀ ts ∈ goodL L, Gd ts := fun ts h => ok_gd (List.mem_filter.1 h).2
theorem goodL_sm {L : List (List Tm)} (h : ∀ ts ∈ L, Sm ts) : ∀ ts ∈ goodL L, Sm ts := fun ts ht => h ts (List.mem_filter.1 ht).1
theorem goodL_len (L : List (List Tm)) : (goodL L).length ≤ L.length := List.length_filter_le _ _
/-! ### Sizes -/
theorem quoT_size (l : List Int) : (textOf (quoS l)).size ≤ 6 * l.length + 2 := by
  have e : (textOf (quoS l)).data.toList = quoteL l := by rw [textOf_list, quoS_bytes]
  have h1 : (textOf (quoS l)).size = (quoteL l).length := by rw [← e, Array.length_toList]; rfl
  have h2 := escL_len l
  rw [h1]
  unfold quoteL
  simp
  omega
theorem tS_size (t : Tm) (hg : goodT t = true) : (textOf (tS t)).size ≤ 6 * t.ta.size + t.tb.size + t.tc.size + 6 ∧ (t.kind < 2 → (textOf (tS t)).size ≤ t.ta.size + 2) := by
  cases t with
  | iri s =>
    have e := sg_text (iri_signs (s := s) hg).1
    have hz : textOf (tS (.iri s)) = (⟨#[60]⟩ ++ s) ++ ⟨#[62]⟩ := by unfold tS; rw [text_cons, textOf_app, e, ← ByteArray.append_assoc]; rfl
    rw [hz, ByteArray.size_append, ByteArray.size_append]
    have h1 : (⟨#[60]⟩ : ByteArray).size = 1 := rfl
    have h2 : (⟨#[62]⟩ : ByteArray).size = 1 := rfl
    rw [h1, h2]
    simp only [Tm.ta, Tm.tb, Tm.tc]
    exact ⟨by omega, fun _ => by omega⟩
  | blank s =>
    have e := sg_text (label_signs (s := s) hg).1
    have hz : textOf (tS (.blank s)) = ⟨#[95, 58]⟩ ++ s := by
      unfold tS
      have e3 : textOf (95 :: 58 :: (sgP s).1) = textOf [95, 58] ++ textOf (sgP s).1 := by rw [← textOf_app]; rfl
      rw [e3, e]; rfl
    rw [hz, ByteArray.size_append]
    have h1 : (⟨#[95, 58]⟩ : ByteArray).size = 2 := rfl
    rw [h1]
    simp only [Tm.ta, Tm.tb, Tm.tc]
    exact ⟨by omega, fun _ => by omega⟩
  | lit a b c =>
    refine ⟨?_, fun h => absurd h (by simp [Tm.kind])⟩
    have hg' : litG a b c = true := hg
    unfold litG at hg'
    rw [Bool.and_eq_true] at hg'
    have hq := quoT_size (sgP a).1
    have ha := sg_small a
    have ht : (textOf (tailS b c)).size ≤ b.size + c.size + 4 := by
      unfold tailS
      by_cases h0 : c.size = 0
      · rw [if_pos h0]
        rw [if_pos h0, Bool.and_eq_true] at hg'
        by_cases hx : b = XS
        · rw [if_pos hx]
          have h1 : (textOf []).size = 0 := rfl
          rw [h1]; omega
        · rw [if_neg hx]
          have e := sg_text (iri_signs hg'.2.2).1
          have e3 : textOf (94 :: 94 :: 60 :: ((sgP b).1 ++ [62])) = (textOf [94, 94, 60] ++ textOf (sgP b).1) ++ textOf [62] := by rw [← textOf_app, ← textOf_app]; rfl
          rw [e3, e, ByteArray.size_append, ByteArray.size_append]
          have h1 : (textOf [94, 94, 60]).size = 3 := rfl
          have h2 : (textOf [62]).size = 1 := rfl
          rw [h1, h2]; omega
      · rw [if_neg h0]
        rw [if_neg h0, Bool.and_eq_true] at hg'
        have e := sg_text (lang_signs hg'.2.2).1
        rw [text_cons, e, ByteArray.size_append]
        have h1 : (textOf [64]).size = 1 := rfl
        rw [h1]; omega
    have hz : textOf (tS (.lit a b c)) = textOf (quoS (sgP a).1) ++ textOf (tailS b c) := by unfold tS; exact textOf_app _ _
    rw [hz, ByteArray.size_append]
    simp only [Tm.ta, Tm.tb, Tm.tc]
    omega
  | odd n => cases hg
  | none => cases hg
theorem may_low {t : Tm} {part : Nat} (h : mayB t part = true) (hp : part < 2) : t.kind < 2 := by
  have := kind_nn t
  unfold mayB at h
  simp at h
  omega
theorem ln_size {ts : List Tm} (hs : Sm ts) (hg : Gd ts) : (textOf (lnS ts)).size ≤ 2820 := by
  obtain ⟨a, b, c, rfl, hg, hm⟩ := hg
  obtain ⟨a', b', c', e, hs⟩ := hs
  have h0 := hs a (by simp)
  have h1 := hs b (by simp)
  have h2 := hs c (by simp)
  have sa := (tS_size a hg.1).2 (may_low hm.1 (by decide))
  have sb := (tS_size b hg.2.1).2 (may_low hm.2.1 (by decide))
  have sc := (tS_size c hg.2.2).1
  rw [lnS_T, textOf_app, tri_text]
  simp only [ByteArray.size_append]
  have n1 : (⟨#[32]⟩ : ByteArray).size = 1 := rfl
  have n2 : (⟨#[32, 46]⟩ : ByteArray).size = 2 := rfl
  have n3 : (textOf [10]).size = 1 := rfl
  rw [n1, n2, n3]
  omega
theorem lns_size : ∀ L : List (List Tm), (∀ ts ∈ L, Sm ts ∧ Gd ts) → (textOf (lnsS L)).size ≤ 2820 * L.length
  | [], _ => by
    have h : (textOf (lnsS [])).size = 0 := rfl
    rw [h]; omega
  | ts :: L, h => by
    have h1 := ln_size (h ts List.mem_cons_self).1 (h ts List.mem_cons_self).2
    have ih := lns_size L fun x hx => h x (List.mem_cons_of_mem _ hx)
    rw [lnsS_cons, textOf_app, ByteArray.size_append, List.length_cons]
    omega
/-! ### Rows -/
theorem rows_apart {W : World} {B B' : Nat} {e e' : TypeId} {m m' n n' : Nat} {v v' : Value} {xs xs' : List Value} (h : W.ownsRow B e m v n xs) (h' : W.ownsRow B' e' m' v' n' xs') (hne : e ≠ e') : v.ownBlock = none ∨ v.ownBlock ≠ v'.ownBlock := by
  rcases h.2 with ⟨hv, _⟩ | ⟨g, cap, cur, hv, _, hg, _⟩
  · left; rw [hv]; rfl
  · right
    intro eq
    rcases h'.2 with ⟨hv', _⟩ | ⟨g', cap', cur', hv', _, hg', _⟩
    · rw [hv, hv'] at eq; cases eq
    · rw [hv, hv'] at eq
      simp [Value.ownBlock] at eq
      subst eq
      rw [hg] at hg'
      cases hg'
      exact hne rfl
theorem row_box {W : World} {B : Nat} {e t : TypeId} {m n : Nat} {v : Value} {xs : List Value} {g : Nat} {cs : Array Value} (h : W.ownsRow B e m v n xs) (hb : Fb W g t cs) (hne : e ≠ t) : v.ownBlock ≠ some g := by
  rcases h.2 with ⟨hv, _⟩ | ⟨g', cap, cur, hv, _, hg, _⟩
  · rw [hv]; intro e; cases e
  · rw [hv]
    intro e
    simp [Value.ownBlock] at e
    subst e
    unfold Fb at hb
    rw [hg] at hb
    cases hb
    exact hne rfl
theorem types_ne : 57 ≠ 34 := by decide
/-- The loop's world: a box; all good ones so far (the document's); a row that is done; the row that grows. -/
structure Jw (W0 : World) (N1 g : Nat) (cs : Array Value) (v9 : Value) (L9 : List (List Tm)) (vf : Value) (F : List (List Tm)) (v10 : Value) (L10 : List (List Tm)) (W : World) : Prop where
  b : Below W0.heap.size W0 W
  n0 : W0.heap.size ≤ N1
  n1 : N1 ≤ W.heap.size
  box : Fb W g 34 cs
  all : DtV W0.heap.size W v9 L9
  done : TrsV W0.heap.size W vf F
  row : TrsV N1 W v10 L10
  far : ∀ k, vf.ownBlock = some k → k < N1
  ne : v9.ownBlock ≠ some g
section
variable {W0 : World} {N1 g : Nat} {cs : Array Value} {v9 vf v10 : Value} {L9 F L10 : List (List Tm)}
theorem Jw.below {W W' : World} (h : Jw W0 N1 g cs v9 L9 vf F v10 L10 W) (hb : Below W.heap.size W W') : Jw W0 N1 g cs v9 L9 vf F v10 L10 W' :=
  ⟨h.b.trans (hb.mono h.b.size), h.n0, Nat.le_trans h.n1 hb.size, h.box.below hb, h.all.below hb, h.done.below hb, h.row.below hb, h.far, h.ne⟩
theorem Jw.alloc {W : World} (h : Jw W0 N1 g cs v9 L9 vf F v10 L10 W) (o : Obj) : Jw W0 N1 g cs v9 L9 vf F v10 L10 (W.alloc o) := h.below ((Below.refl _ _).alloc (Nat.le_refl _) o)
theorem Jw.drew {W : World} (h : Jw W0 N1 g cs v9 L9 vf F v10 L10 W) : Jw W0 N1 g cs v9 L9 vf F v10 L10 W.drew := ⟨Below.drew h.b, h.n0, h.n1, h.box, h.all, h.done, h.row, h.far, h.ne⟩
theorem jw_of {W : World} {f : Nat} {args : Array Value} {y : Value} (h : Jw W0 N1 g cs v9 L9 vf F v10 L10 W) (k : Calls Try.prog f args W fun e w' => e = .returned y ∧ Below W.heap.size W w') :
    Calls Try.prog f args W fun e w' => e = .returned y ∧ Jw W0 N1 g cs v9 L9 vf F v10 L10 w' := k.mono fun _ _ ⟨x, z⟩ => ⟨x, h.below z⟩
theorem Jw.app9 {W w5 : World} {n cap g5 : Nat} {news : List Value} {ts : List Tm} (h : Jw W0 N1 g cs v9 L9 vf F v10 L10 W) (hn : n = L9.length + 1) (hw : news = ts.flatMap c4)
    (hown : w5.ownsRow W0.heap.size 34 12 (.slice (some ⟨g5, 0, none⟩) n cap) n (cellsD L9 ++ news)) (hg : W.grownBy w5 v9.ownBlock) (hloc : v9.ownBlock = some g5 ∨ g5 = W.heap.size) :
    Jw W0 N1 g cs (.slice (some ⟨g5, 0, none⟩) n cap) (L9 ++ [ts]) vf F v10 L10 w5 := by
  subst hw
  refine ⟨h.b.grown hg h.b.size (fun j hj => (World.ownsRow.lt h.all j hj).1), h.n0, Nat.le_trans h.n1 hg.size, (hg.block g h.box.lt (fun e => h.ne e.symm)).trans h.box, ?_,
    World.ownsRow.kept h.done hg (rows_apart h.done h.all types_ne), World.ownsRow.kept h.row hg (rows_apart h.row h.all types_ne), h.far, ?_⟩
  · unfold DtV
    rw [cellsD_snoc, List.length_append]
    subst hn
    exact hown
  · intro e
    have e' : some g5 = some g := e
    rcases hloc with hl | hl
    · exact h.ne (by rw [hl, e'])
    · have := h.box.lt
      have := Option.some.inj e'
      omega
theorem Jw.app10 {W w5 : World} {n cap g5 : Nat} {news : List Value} {ts : List Tm} (h : Jw W0 N1 g cs v9 L9 vf F v10 L10 W) (hn : n = L10.length + 1) (hw : news = ts.map Tm.val)
    (hown : w5.ownsRow N1 57 3 (.slice (some ⟨g5, 0, none⟩) n cap) n (cellsT L10 ++ news)) (hg : W.grownBy w5 v10.ownBlock) :
    Jw W0 N1 g cs v9 L9 vf F (.slice (some ⟨g5, 0, none⟩) n cap) (L10 ++ [ts]) w5 := by
  subst hw
  have hne : vf.ownBlock = none ∨ vf.ownBlock ≠ v10.ownBlock := by
    cases hv : vf.ownBlock with
    | none => exact .inl rfl
    | some k =>
      right
      intro e
      have h1 := h.far k hv
      have h2 := (World.ownsRow.lt h.row k e.symm).1
      omega
  refine ⟨h.b.grown hg h.b.size (fun j hj => Nat.le_trans h.n0 (World.ownsRow.lt h.row j hj).1), h.n0, Nat.le_trans h.n1 hg.size, (hg.block g h.box.lt (fun e => row_box h.row h.box types_ne e.symm)).trans h.box,
    World.ownsRow.kept h.all hg (rows_apart h.all h.row types_ne.symm), World.ownsRow.kept h.done hg hne, ?_, h.far, h.ne⟩
  unfold TrsV
  rw [cellsT_snoc, List.length_append]
  subst hn
  exact hown
end
end Go.Proofs.Ytehechbiajbobaa

/-
  TRIPLES' KEYS: plain; a dictionary's world beside boxes.
-/
namespace Go.Proofs.Ytehechbiajbobaa
open Go.RowKit
set_option linter.unusedVariables false
set_option linter.unusedSimpArgs false
set_option maxRecDepth 100000

theorem d_nm_app {t : Tm} : ∀ {A : List Tm} {j : Nat} (B : List Tm), nm t A = some j → nm t (A ++ B) = some j
  | [], j, B, h => by cases h
  | a :: A, j, B, h => by
    show (if sameB t a = true then some 0 else (nm t (A ++ B)).map (· + 1)) = _
    have h' : (if sameB t a = true then some 0 else (nm t A).map (· + 1)) = some j := h
    by_cases hs : sameB t a = true
    · rw [if_pos hs] at h' ⊢; exact h'
    · rw [if_neg hs] at h' ⊢
      cases hn : nm t A with
      | none => rw [hn] at h'; cases h'
      | some q => rw [hn] at h'; rw [d_nm_app B hn]; exact h'
theorem nm_last {t : Tm} (ht : t.kind < 3) : ∀ {A : List Tm}, nm t A = none → nm t (A ++ [t]) = some A.length
  | [], h => by
    show (if sameB t t = true then some 0 else _) = _
    rw [if_pos (d_refl ht)]; rfl
  | a :: A, h => by
    have h' : (if sameB t a = true then some 0 else (nm t A).map (· + 1)) = none := h
    show (if sameB t a = true then some 0 else (nm t (A ++ [t])).map (· + 1)) = _
    by_cases hs : sameB t a = true
    · rw [if_pos hs] at h'; cases h'
    · rw [if_neg hs] at h' ⊢
      cases hn : nm t A with
      | some q => rw [hn] at h'; cases h'
      | none => rw [nm_last ht hn]; rfl
/-- A term put where there is room. -/
theorem putG_room {room : Int} {L : List Tm} {t : Tm} (ht : t.kind < 3) (hr : (L.length : Int) < room) : ∃ L1 j M, putG room L t = (L1, ((j : Nat) : Int), 0) ∧ nm t L1 = some j ∧ L1 = L ++ M ∧ L1.length ≤ L.length + 1 := by
  unfold putG
  cases hn : nm t L with
  | some j => exact ⟨L, j, [], rfl, hn, by simp, by omega⟩
  | none =>
    dsimp only
    rw [if_neg (by omega)]
    exact ⟨L ++ [t], L.length, [t], rfl, nm_last ht hn, rfl, by simp⟩
theorem putG_there {room : Int} {L : List Tm} {t : Tm} {j : Nat} (h : nm t L = some j) : putG room L t = (L, (j : Int), 0) := by unfold putG; rw [h]
/-- A good triple's key where there is room; the same again; its terms. -/
theorem key_room {room : Int} {L : List Tm} {a b c : Tm} (hok : okR a b c 0 = true) (ka : a.kind < 3) (kb : b.kind < 3) (kc : c.kind < 3) (hr : (L.length : Int) + 3 ≤ room) :
    ∃ (L' : List Tm) (j0 j1 j2 : Nat), keyP room L a b c = (L', ((j0 : Int), (j1 : Int), (j2 : Int)), 0) ∧ keyP room L' a b c = (L', ((j0 : Int), (j1 : Int), (j2 : Int)), 0) ∧ tripD L' j0 j1 j2 = ((a, b, c), 0) ∧ nm a L' = some j0 ∧ L'.length ≤ L.length + 3 ∧ ∃ M, L' = L ++ M := by
  obtain ⟨L1, j0, M1, e1, n1, p1, l1⟩ := putG_room (L := L) ka (show (L.length : Int) < room by omega)
  obtain ⟨L2, j1, M2, e2, n2, p2, l2⟩ := putG_room (L := L1) kb (show (L1.length : Int) < room by omega)
  obtain ⟨L3, j2, M3, e3, n3, p3, l3⟩ := putG_room (L := L2) kc (show (L2.length : Int) < room by omega)
  have q1 : nm a L3 = some j0 := by rw [p3, p2, List.append_assoc]; exact d_nm_app _ n1
  have q2 : nm b L3 = some j1 := by rw [p3]; exact d_nm_app _ n2
  have hat : ∀ (t : Tm) (j : Nat), nm t L3 = some j → hasB L3 j = true ∧ atN L3 j = t := fun t j h => by
    have h1 := (nm_some h).1
    have h2 := nm_lt h
    refine ⟨hasB_iff.2 ⟨by omega, by omega⟩, ?_⟩
    unfold atN
    rw [Int.toNat_natCast, h1]; rfl
  refine ⟨L3, j0, j1, j2, ?_, ?_, ?_, q1, by omega, M1 ++ (M2 ++ M3), by rw [p3, p2, p1]; simp⟩
  · unfold keyP key3
    rw [if_pos hok, e1, e2, e3]
    simp
  · unfold keyP key3
    rw [if_pos hok, putG_there q1, putG_there q2, putG_there n3]
    simp
  · unfold tripD
    obtain ⟨h0, a0⟩ := hat a j0 q1
    obtain ⟨h1, a1⟩ := hat b j1 q2
    obtain ⟨h2, a2⟩ := hat c j2 n3
    rw [if_pos ⟨h0, h1, h2⟩, a0, a1, a2, if_pos hok]
theorem putG_memK {room : Int} {L : List Tm} {t u : Tm} (h : u ∈ (putG room L t).1) : u ∈ L ∨ u = t := by
  unfold putG at h
  cases hn : nm t L with
  | some j => rw [hn] at h; exact .inl h
  | none =>
    rw [hn] at h
    dsimp only at h
    split at h
    · exact .inl h
    · rcases List.mem_append.1 h with h | h
      · exact .inl h
      · exact .inr (by simpa using h)
theorem keyP_mem {room : Int} {L : List Tm} {a b c u : Tm} (h : u ∈ (keyP room L a b c).1) : u ∈ L ∨ u = a ∨ u = b ∨ u = c := by
  unfold keyP key3 at h
  split at h
  · split at h
    · exact .inl h
    split at h
    · exact .inl h
    split at h
    · exact .inl h
    · rcases putG_memK h with h | h
      · rcases putG_memK h with h | h
        · rcases putG_memK h with h | h
          · exact .inl h
          · exact .inr (.inl h)
        · exact .inr (.inr (.inl h))
      · exact .inr (.inr (.inr h))
  · exact .inl h
theorem good_of_ok {a b c : Tm} (h : okR a b c 0 = true) : goodT a = true := by
  unfold okR okP at h
  simp only [Bool.and_eq_true] at h
  exact h.1.1
/-! ### A dictionary's world -/
structure Dl (W0 : World) (d m : Nat) (room : Int) (v : Value) (L : List Tm) (W : World) : Prop where
  b : Below W0.heap.size W0 W
  dc : Dc W0.heap.size d m room v L W
section
variable {W0 : World} {d m : Nat} {room : Int} {v : Value} {L : List Tm}
theorem Dl.below {W W' : World} (h : Dl W0 d m room v L W) (hb : Below W.heap.size W W') : Dl W0 d m room v L W' := ⟨h.b.trans (hb.mono h.b.size), h.dc.below hb⟩
theorem Dl.turn {W W' : World} {v' : Value} {L' : List Tm} (h : Dl W0 d m room v L W) (hd : Dc W0.heap.size d m room v' L' W') (ht : Tn d m v v' W W') : Dl W0 d m room v' L' W' := ⟨ht.below h.dc h.b, hd⟩
theorem dl_of {W : World} {f : Nat} {args : Array Value} {y : Value} (h : Dl W0 d m room v L W) (kk : Calls Try.prog f args W fun e w' => e = .returned y ∧ Below W.heap.size W w') :
    Calls Try.prog f args W fun e w' => e = .returned y ∧ Dl W0 d m room v L w' ∧ Below W.heap.size W w' := kk.mono fun _ _ ⟨x, z⟩ => ⟨x, h.below z, z⟩
end
theorem r12_ne_dict : 34 ≠ 78 := by decide
theorem r12_ne_term : 34 ≠ 41 := by decide
theorem tr_ne_dict : 57 ≠ 78 := by decide
theorem tr_ne_term : 57 ≠ 41 := by decide
/-- One triple in a row of its own. -/
theorem one_trs (W : World) (a b c : Tm) : TrsV W.heap.size (W.alloc (.cells #[a.val, b.val, c.val] 57)) (.slice (some ⟨W.heap.size, 0, none⟩) 1 1) [[a, b, c]] :=
  ⟨rfl, .inr ⟨W.heap.size, 1, _, rfl, Nat.le_refl _, heap_alloc_new W _, Nat.le_refl _, by decide, rfl, rfl⟩⟩
theorem one_dtv (W : World) (a b c : Tm) : DtV W.heap.size (W.alloc (.cells #[.int .i64 a.kind, .string a.ta, .string a.tb, .string a.tc, .int .i64 b.kind, .string b.ta, .string b.tb, .string b.tc, .int .i64 c.kind, .string c.ta, .string c.tb, .string c.tc] 34)) (.slice (some ⟨W.heap.size, 0, none⟩) 1 1) [[a, b, c]] :=
  ⟨rfl, .inr ⟨W.heap.size, 1, _, rfl, Nat.le_refl _, heap_alloc_new W _, Nat.le_refl _, by decide, rfl, rfl⟩⟩
theorem infoIntK : ∃ i, Try.prog.info? 3 = some i := Option.isSome_iff_exists.1 (by kernel_rfl)
theorem eqKey (x y z x' y' z' : Int) (w : World) : (Op.equalIn 10000 53 (.agg #[.int .i64 x, .int .i64 y, .int .i64 z]) (.agg #[.int .i64 x', .int .i64 y', .int .i64 z'])).run Try.prog w = .ok ((x == x') && ((y == y') && (z == z'))) w := by
  obtain ⟨i, hi⟩ := infoIntK
  have hs : Try.prog.cellsOf 3 = 1 := by kernel_rfl
  have hu : Try.prog.underlying 53 = some (.array 3 3) := by kernel_rfl
  rw [run_equalIn_array (w := w) 9999 _ _ hu hi, hs]
  simp only [show List.range 3 = [0, 1, 2] by decide, Op.eqItems]
  go_simp
  by_cases h1 : x = x' <;> by_cases h2 : y = y' <;> by_cases h3 : z = z' <;> simp [h1, h2, h3]
theorem neqKey (x y z x' y' z' : Int) (w : World) : (binOp .neq 53 (.agg #[.int .i64 x, .int .i64 y, .int .i64 z]) (.agg #[.int .i64 x', .int .i64 y', .int .i64 z'])).run Try.prog w = .ok (.bool (!((x == x') && ((y == y') && (z == z'))))) w := by
  have hE := eqKey x y z x' y' z'
  go_simp
end Go.Proofs.Ytehechbiajbobaa

/-
  ARGUMENTS AS THE CALL GETS THEM: acts on a dictionary.
-/
namespace Go.Proofs.Ytehechbiajbobaa
open Go.ChangeShapes Go.WideShapes Go.ChangeAt Go.RowKit
set_option linter.unusedVariables false
set_option maxRecDepth 100000

/-- An act: its kind, a number, a triple, a key. -/
structure Da where
  k : Int
  n : Int
  t : Dt
  x : Int
  y : Int
  z : Int
def i64b (x : Int) : Prop := -9223372036854775808 ≤ x ∧ x ≤ 9223372036854775807
def Da.ok (r : Da) : Prop := (0 ≤ r.k ∧ r.k ≤ 255) ∧ i64b r.n ∧ r.t.ok ∧ i64b r.x ∧ i64b r.y ∧ i64b r.z
def Da.cells (r : Da) : List Value := .int .u8 r.k :: .int .i64 r.n :: (r.t.cells ++ [.int .i64 r.x, .int .i64 r.y, .int .i64 r.z])
theorem cellsActD : Try.prog.cellsOf 37 = 17 := by kernel_rfl
section
variable {H : Type} {enc : TypeId × Value → H} {W : World}
theorem da_opened {fuel : Nat} {cs : List Value} {z : DataW H × List MemPlace} (h : DataW.trod enc Try.prog W 0 (fun _ => true) true fuel 37 cs = some z) : ∃ r : Da, r.ok ∧ cs = r.cells := by
  obtain ⟨xs, n, _, hx, hlen, hxl, hf⟩ := DataW.trod_struct Try.underlying37 h
  rw [cellsActD] at hlen
  match xs, hxl with
  | [y0, y1, y2, y3], _ =>
    have hI : Try.prog.cellsOf 3 = 1 := by kernel_rfl
    have hU : Try.prog.cellsOf 5 = 1 := by kernel_rfl
    have hA : Try.prog.cellsOf 35 = 3 := by kernel_rfl
    have t0 : DataW.trod enc Try.prog W 0 (fun _ => true) true n 5 ((cs.drop 0).take 1) = some y0 := by
      have h := hf 0 _ rfl
      simpa [hU] using h
    have t1 : DataW.trod enc Try.prog W 0 (fun _ => true) true n 3 ((cs.drop 1).take 1) = some y1 := by
      have h := hf 1 _ rfl
      simpa [hI] using h
    have t2 : DataW.trod enc Try.prog W 0 (fun _ => true) true n 34 ((cs.drop 2).take 12) = some y2 := by
      have h := hf 2 _ rfl
      simpa [cellsR_twelve] using h
    have t3 : DataW.trod enc Try.prog W 0 (fun _ => true) true n 35 ((cs.drop 14).take 3) = some y3 := by
      have h := hf 3 _ rfl
      simpa [hA] using h
    match cs, hlen with
    | [v0, v1, u0, u1, u2, u3, u4, u5, u6, u7, u8, u9, ua, ub, w0, w1, w2], _ =>
      simp only [List.drop_zero, List.take_succ_cons, List.take_zero, List.drop_succ_cons] at t0 t1 t2 t3
      obtain ⟨k, e0, _, b0⟩ := DataW.trod_int Try.underlying5 t0
      obtain ⟨m, e1, _, b1⟩ := DataW.trod_int Try.underlying3 t1
      obtain ⟨r, o2, e2⟩ := rt_opened t2
      obtain ⟨z0, z1, z2, q, _, a0, a1, a2⟩ := trod_array3 Try.underlying35 hI t3
      obtain ⟨a, e3, _, b3⟩ := DataW.trod_int Try.underlying3 a0
      obtain ⟨b, e4, _, b4⟩ := DataW.trod_int Try.underlying3 a1
      obtain ⟨c, e5, _, b5⟩ := DataW.trod_int Try.underlying3 a2
      simp only [List.cons.injEq, and_true] at e0 e1 e3 e4 e5
      subst e0 e1 e3 e4 e5
      refine ⟨⟨k, m, r, a, b, c⟩, ⟨bounds_u8 b0, bounds_i64 b1, o2, bounds_i64 b3, bounds_i64 b4, bounds_i64 b5⟩, ?_⟩
      show _ = Value.int .u8 k :: Value.int .i64 m :: (r.cells ++ [.int .i64 a, .int .i64 b, .int .i64 c])
      rw [← e2]
      rfl
theorem das_opened {fuel : Nat} {v : Value} {y : DataW H × List MemPlace} (h : DataW.trod enc Try.prog W 0 (fun _ => true) true fuel 22 [v] = some y) (hlt : ∀ z ∈ y.2, z.block < W.heap.size) :
    ∃ A l cap, v = .slice A (List.length (α := Da) l) cap ∧ l.length ≤ cap ∧ cap ≤ maxLen ∧ SlAt W A 17 (l.map Da.cells) ∧ ∀ t ∈ l, t.ok := by
  obtain ⟨A, l, cap, hv, h1, h2, h3, h4⟩ := slice_opened Try.underlying22 cellsActD (by decide) h hlt
  obtain ⟨ts, rfl, hok⟩ := cells_map (p := Da.ok) (f := Da.cells) l fun cs hc => by
    obtain ⟨fu, z, hz⟩ := h4 cs hc
    exact da_opened hz
  rw [List.length_map] at hv h1
  exact ⟨A, ts, cap, hv, h1, h2, h3, hok⟩
end
end Go.Proofs.Ytehechbiajbobaa

/-
  A DICTIONARY AND THE DOCUMENT's, side by side, with boxes: the world of DictPlays.
-/
namespace Go.Proofs.Ytehechbiajbobaa
open Go.RowKit
set_option linter.unusedVariables false
set_option linter.unusedSimpArgs false
set_option maxRecDepth 100000

theorem pd_ne_dict : 30 ≠ 78 := by decide
theorem pd_ne_term : 30 ≠ 41 := by decide
theorem pa_ne_dict : 37 ≠ 78 := by decide
theorem pa_ne_term : 37 ≠ 41 := by decide
theorem pk_ne_dict : 53 ≠ 78 := by decide
theorem pk_ne_term : 53 ≠ 41 := by decide
theorem pr_ne_dict : 35 ≠ 78 := by decide
theorem pr_ne_term : 35 ≠ 41 := by decide
theorem Dc.setD {B d m : Nat} {room : Int} {v : Value} {L : List Tm} {W : World} (h : Dc B d m room v L W) {g : Nat} {cs : Array Value} (hg : Fb W g 30 cs) (i : Nat) (x : Value) : Dc B d m room v L (W.setCell ⟨g, i, none⟩ x) := by
  have hne : ∀ k cs t fr, W.heap[k]? = some (.cells cs t fr) → t ≠ 30 → k ≠ g := fun k cs t fr hk ht e => by
    unfold Fb at hg
    rw [← e, hk] at hg
    injection hg with hg
    injection hg with _ hg
    exact ht hg
  refine ⟨(Below.heap_setCell _ _ _ _ (hne d _ _ _ h.st pd_ne_dict.symm)).trans h.st, h.row.kept (d_grown_set W g i x) ?_, h.mp.of (Below.heap_setCell _ _ _ _ (h.mp.ne hg).symm), h.gd, h.gm, h.ks, h.nd⟩
  cases hv : v.ownBlock with
  | none => exact .inl rfl
  | some k =>
    right
    obtain ⟨cur, hc⟩ := h.row_block hv
    exact fun e => hne k _ _ _ hc pd_ne_term.symm (Option.some.inj e)
def Gok (L : List Tm) : Prop := ∀ t ∈ L, goodT t = true ∧ t.few
theorem Gok.put {L : List Tm} (h : Gok L) {t : Tm} (ht : t.few) (room : Int) : Gok (putP room L t).1 := by
  unfold putP
  by_cases hg : goodT t = true
  · rw [if_pos hg]
    unfold putG
    split
    · exact h
    · split
      · exact h
      · intro x hx
        rcases List.mem_append.1 hx with hx | hx
        · exact h x hx
        · rw [List.mem_singleton.1 hx]; exact ⟨hg, ht⟩
  · rw [if_neg hg]; exact h
theorem Gok.key {L : List Tm} (h : Gok L) {a b c : Tm} (ha : a.few) (hb : b.few) (hc : c.few) (room : Int) : Gok (keyP room L a b c).1 := by
  unfold keyP key3
  by_cases hg : okR a b c 0 = true
  · rw [if_pos hg]
    obtain ⟨ga, gb, gc⟩ := okR_goods hg
    have h1 := h.put ha room
    have h2 := h1.put hb room
    have h3 := h2.put hc room
    rw [putP_good ga] at h1 h2 h3
    rw [putP_good gb] at h2 h3
    rw [putP_good gc] at h3
    split
    · exact h
    · split
      · exact h
      · split
        · exact h
        · exact h3
  · rw [if_neg hg]; exact h
theorem keyP_len {room : Int} {L : List Tm} {a b c : Tm} : (keyP room L a b c).1.length ≤ L.length + 3 := by
  unfold keyP key3
  have l1 := (putG_len (room := room) (L := L) (t := a)).2
  have l2 := (putG_len (room := room) (L := (putG room L a).1) (t := b)).2
  have l3 := (putG_len (room := room) (L := (putG room (putG room L a).1 b).1) (t := c)).2
  split
  · split
    · exact Nat.le_add_right _ _
    · split
      · exact Nat.le_add_right _ _
      · split
        · exact Nat.le_add_right _ _
        · dsimp only; omega
  · exact Nat.le_add_right _ _
/-- The dictionary, the document's, and boxes. -/
structure Px (W0 : World) (d m g7 : Nat) (room : Int) (v : Value) (L : List Tm) (u : Value) (l : List (Nat × TypeId × Array Value)) (W : World) : Prop where
  b : Below W0.heap.size W0 W
  dc : Dc W0.heap.size d m room v L W
  dl : DtL W0.heap.size W u L
  x7 : Fb W g7 30 #[.int .i64 room, u]
  n7 : W0.heap.size ≤ g7
  bx : ∀ p ∈ l, Fb W p.1 p.2.1 p.2.2
  nt : ∀ p ∈ l, p.2.1 ≠ 78 ∧ p.2.1 ≠ 41 ∧ p.1 ≠ g7
section
variable {W0 : World} {d m g7 : Nat} {room : Int} {v : Value} {L : List Tm} {u : Value} {l : List (Nat × TypeId × Array Value)}
theorem Px.below {W W' : World} (h : Px W0 d m g7 room v L u l W) (hb : Below W.heap.size W W') : Px W0 d m g7 room v L u l W' := ⟨h.b.trans (hb.mono h.b.size), h.dc.below hb, h.dl.below hb, h.x7.below hb, h.n7, fun p hp => (h.bx p hp).below hb, h.nt⟩
theorem Px.drew {W : World} (h : Px W0 d m g7 room v L u l W) : Px W0 d m g7 room v L u l W.drew := h.below (Below.refl _ _).drew
theorem Px.drewN {W : World} (h : Px W0 d m g7 room v L u l W) (q : Nat) : Px W0 d m g7 room v L u l (W.drewN q) := h.below ⟨rfl, rfl, rfl, Nat.le_refl _, fun _ _ => rfl⟩
theorem Px.cons {W : World} (h : Px W0 d m g7 room v L u l W) {g : Nat} {t : TypeId} {cs : Array Value} (hf : Fb W g t cs) (h1 : t ≠ 78) (h2 : t ≠ 41) (h3 : g ≠ g7) : Px W0 d m g7 room v L u ((g, t, cs) :: l) W :=
  ⟨h.b, h.dc, h.dl, h.x7, h.n7, fun p hp => by
    rcases List.mem_cons.1 hp with rfl | hp
    · exact hf
    · exact h.bx p hp, fun p hp => by
    rcases List.mem_cons.1 hp with rfl | hp
    · exact ⟨h1, h2, h3⟩
    · exact h.nt p hp⟩
theorem Px.add {W : World} (h : Px W0 d m g7 room v L u l W) (t : TypeId) (cs : Array Value) (h1 : t ≠ 78) (h2 : t ≠ 41) : Px W0 d m g7 room v L u ((W.heap.size, t, cs) :: l) (W.alloc (.cells cs t)) :=
  (h.below ((Below.refl _ _).alloc (Nat.le_refl _) _)).cons (Fb.new W t cs) h1 h2 (Nat.ne_of_gt h.x7.lt)
theorem Px.alloc {W : World} (h : Px W0 d m g7 room v L u l W) (o : Obj) : Px W0 d m g7 room v L u l (W.alloc o) := h.below ((Below.refl _ _).alloc (Nat.le_refl _) o)
theorem Px.nil {W : World} (h : Px W0 d m g7 room v L u l W) : Px W0 d m g7 room v L u [] W := ⟨h.b, h.dc, h.dl, h.x7, h.n7, fun p hp => (by cases hp), fun p hp => (by cases hp)⟩
theorem Px.tail {W : World} {q : Nat × TypeId × Array Value} (h : Px W0 d m g7 room v L u (q :: l) W) : Px W0 d m g7 room v L u l W := ⟨h.b, h.dc, h.dl, h.x7, h.n7, fun p hp => h.bx p (.tail _ hp), fun p hp => h.nt p (.tail _ hp)⟩
/-- The dictionary has turned; the document's is told apart. -/
structure Py (W0 : World) (d m g7 : Nat) (room : Int) (v : Value) (L : List Tm) (u u' : Value) (L' : List Tm) (l : List (Nat × TypeId × Array Value)) (W : World) : Prop where
  b : Below W0.heap.size W0 W
  dc : Dc W0.heap.size d m room v L' W
  dl : DtL W0.heap.size W u' L'
  x7 : Fb W g7 30 #[.int .i64 room, u]
  n7 : W0.heap.size ≤ g7
  bx : ∀ p ∈ l, Fb W p.1 p.2.1 p.2.2
theorem Px.turn {W W' : World} {v' u' : Value} {L' : List Tm} (h : Px W0 d m g7 room v L u l W) (hd : Dc W0.heap.size d m room v' L' W') (ht : Tn d m v v' W W') (hl : DtL W0.heap.size W u' L') : Py W0 d m g7 room v' L u u' L' l W' :=
  ⟨ht.below h.dc h.b, hd, ht.row h.dc hl t_ne_dict t_ne_term, ht.fb h.dc h.x7 pd_ne_dict pd_ne_term, h.n7, fun p hp => ht.fb h.dc (h.bx p hp) (h.nt p hp).1 (h.nt p hp).2.1⟩
theorem Py.below {W W' : World} {u' : Value} {L' : List Tm} (h : Py W0 d m g7 room v L u u' L' l W) (hb : Below W.heap.size W W') : Py W0 d m g7 room v L u u' L' l W' := ⟨h.b.trans (hb.mono h.b.size), h.dc.below hb, h.dl.below hb, h.x7.below hb, h.n7, fun p hp => (h.bx p hp).below hb⟩
theorem Py.c {W : World} {u' : Value} {L' : List Tm} (h : Py W0 d m g7 room v L u u' L' l W) : W.cell? ⟨g7, 0, none⟩ = some (.int .i64 room) ∧ W.cell? ⟨g7, 1, none⟩ = some u ∧ W.frozen? ⟨g7, 0, none⟩ = false ∧ W.frozen? ⟨g7, 1, none⟩ = false ∧ g7 < W.heap.size := ⟨h.x7.cell 0, h.x7.cell 1, d_free h.x7 0, d_free h.x7 1, h.x7.lt⟩
theorem Py.fin {W : World} {u' : Value} {L' : List Tm} (h : Py W0 d m g7 room v L u u' L' l W) : Px W0 d m g7 room v L' u' [] ((W.setCell ⟨g7, 0, none⟩ (.int .i64 room)).setCell ⟨g7, 1, none⟩ u') := by
  have h5 : Fb (W.setCell ⟨g7, 0, none⟩ (.int .i64 room)) g7 30 #[.int .i64 room, u] := heap_setCell_same W g7 0 _ _ _ h.x7
  have h6 : Fb ((W.setCell ⟨g7, 0, none⟩ (.int .i64 room)).setCell ⟨g7, 1, none⟩ u') g7 30 #[.int .i64 room, u'] := heap_setCell_same _ g7 1 _ _ _ h5
  exact ⟨Below.setCell (Below.setCell h.b h.n7 _) h.n7 _, (h.dc.setD h.x7 _ _).setD h5 _ _, (h.dl.setc h.x7 _).setc h5 _, h6, h.n7, fun p hp => (by cases hp), fun p hp => (by cases hp)⟩
theorem Px.c7 {W : World} (h : Px W0 d m g7 room v L u l W) : W.cell? ⟨g7, 0, none⟩ = some (.int .i64 room) ∧ W.cell? ⟨g7, 1, none⟩ = some u := ⟨h.x7.cell 0, h.x7.cell 1⟩
theorem Px.c12 {W : World} {x0 x1 x2 x3 x4 x5 x6 x7 x8 x9 xa xb : Value} {g : Nat} {ty : TypeId} (h : Px W0 d m g7 room v L u ((g, ty, #[x0, x1, x2, x3, x4, x5, x6, x7, x8, x9, xa, xb]) :: l) W) : W.cell? ⟨g, 0, none⟩ = some x0 ∧ W.cell? ⟨g, 1, none⟩ = some x1 ∧ W.cell? ⟨g, 2, none⟩ = some x2 ∧ W.cell? ⟨g, 3, none⟩ = some x3 ∧ W.cell? ⟨g, 4, none⟩ = some x4 ∧ W.cell? ⟨g, 5, none⟩ = some x5 ∧ W.cell? ⟨g, 6, none⟩ = some x6 ∧ W.cell? ⟨g, 7, none⟩ = some x7 ∧ W.cell? ⟨g, 8, none⟩ = some x8 ∧ W.cell? ⟨g, 9, none⟩ = some x9 ∧ W.cell? ⟨g, 10, none⟩ = some xa ∧ W.cell? ⟨g, 11, none⟩ = some xb := Fb.c12 (h.bx _ (.head _))
theorem Px.of {W : World} {f : Nat} {args : Array Value} {y : Value} (h : Px W0 d m g7 room v L u l W) (k : Calls Try.prog f args W fun e w' => e = .returned y ∧ Below W.heap.size W w') :
    Calls Try.prog f args W fun e w' => e = .returned y ∧ Px W0 d m g7 room v L u l w' := k.mono fun _ _ ⟨x, z⟩ => ⟨x, h.below z⟩
end
/-- An act's cells. -/
theorem sl_at17 {W : World} {A : Option Addr} {l : List Da} (h : SlAt W A 17 (l.map Da.cells)) {i : Nat} {r : Da} (hi : l[i]? = some r) : ∃ g o, A = some ⟨g, o, none⟩ ∧ W.cell? ⟨g, o + i * 17, none⟩ = some (.int .u8 r.k) ∧ W.cell? ⟨g, o + i * 17 + 1, none⟩ = some (.int .i64 r.n) ∧ W.cell? ⟨g, o + i * 17 + 2, none⟩ = some (.int .i64 r.t.s.k) ∧ W.cell? ⟨g, o + i * 17 + 3, none⟩ = some (.string r.t.s.a) ∧ W.cell? ⟨g, o + i * 17 + 4, none⟩ = some (.string r.t.s.b) ∧ W.cell? ⟨g, o + i * 17 + 5, none⟩ = some (.string r.t.s.c) ∧ W.cell? ⟨g, o + i * 17 + 6, none⟩ = some (.int .i64 r.t.p.k) ∧ W.cell? ⟨g, o + i * 17 + 7, none⟩ = some (.string r.t.p.a) ∧ W.cell? ⟨g, o + i * 17 + 8, none⟩ = some (.string r.t.p.b) ∧ W.cell? ⟨g, o + i * 17 + 9, none⟩ = some (.string r.t.p.c) ∧ W.cell? ⟨g, o + i * 17 + 10, none⟩ = some (.int .i64 r.t.o.k) ∧ W.cell? ⟨g, o + i * 17 + 11, none⟩ = some (.string r.t.o.a) ∧ W.cell? ⟨g, o + i * 17 + 12, none⟩ = some (.string r.t.o.b) ∧ W.cell? ⟨g, o + i * 17 + 13, none⟩ = some (.string r.t.o.c) ∧ W.cell? ⟨g, o + i * 17 + 14, none⟩ = some (.int .i64 r.x) ∧ W.cell? ⟨g, o + i * 17 + 15, none⟩ = some (.int .i64 r.y) ∧ W.cell? ⟨g, o + i * 17 + 16, none⟩ = some (.int .i64 r.z) := by
  obtain ⟨g, o, e, _, hc⟩ := h i r.cells (by rw [List.getElem?_map, hi]; rfl)
  exact ⟨g, o, e, hc 0 _ rfl, hc 1 _ rfl, hc 2 _ rfl, hc 3 _ rfl, hc 4 _ rfl, hc 5 _ rfl, hc 6 _ rfl, hc 7 _ rfl, hc 8 _ rfl, hc 9 _ rfl, hc 10 _ rfl, hc 11 _ rfl, hc 12 _ rfl, hc 13 _ rfl, hc 14 _ rfl, hc 15 _ rfl, hc 16 _ rfl⟩
/-- Between two acts. -/
def PlI (W0 : World) (d m g7 : Nat) (room : Int) (n : Nat) (g : Nat) (s69 : Value) (wr : World) : Prop :=
  ∃ (i : Nat) (v u : Value) (L : List Tm), i + g = n ∧ s69 = .int .i64 i ∧ Px W0 d m g7 room v L u [] wr ∧ Gok L ∧ L.length ≤ 3 * i
end Go.Proofs.Ytehechbiajbobaa

/-
  DictPlays: its code's pieces. (Out of dpcut.py.)
-/
namespace Go.Proofs.Ytehechbiajbobaa
open Go.RowKit
set_option linter.unusedVariables false
set_option linter.unusedSimpArgs false
set_option maxRecDepth 100000

def dpBlockOf (n : Nat) : Code → Option Code
  | .block k c => if k = n then some c else dpBlockOf n c
  | .seq a b => match dpBlockOf n a with
    | some c => some c
    | none => dpBlockOf n b
  | .loop c => dpBlockOf n c
  | .scope c => dpBlockOf n c
  | .cond _ a b => match dpBlockOf n a with
    | some c => some c
    | none => dpBlockOf n b
  | _ => none
def dpAfter (n : Nat) : Code → Option Code
  | .seq (.region k _ _) b => if k = n then some b else dpAfter n b
  | .seq _ b => dpAfter n b
  | _ => none
def dpRegion (n : Nat) : Code → Option Code
  | .seq (.region k o q) b => if k = n then some (.region k o q) else dpRegion n b
  | .seq _ b => dpRegion n b
  | _ => none
def dpLoop : Code → Option Code
  | .loop c => some c
  | .seq a b => match dpLoop a with
    | some c => some c
    | none => dpLoop b
  | .block _ c => dpLoop c
  | .scope c => dpLoop c
  | .cond _ a b => match dpLoop a with
    | some c => some c
    | none => dpLoop b
  | _ => none
noncomputable def dpBody : Code := (Try.f3.body.bind dpLoop).getD .skip
noncomputable def dpRest : Code := ((Try.f3.body.bind (dpBlockOf 1)).bind (dpAfter 14)).getD .skip
noncomputable def dpR14 : Code := ((Try.f3.body.bind (dpBlockOf 1)).bind (dpRegion 14)).getD .skip
theorem wp_lone {P : Program} {c : Code} {K : Act → World → Prop} {Q : Exit → Act → World → Prop} {a : Act} {w : World} (h : c.wp P (Exit.then K (fun _ _ _ => False)) a w) : c.wp P (Exit.then K Q) a w := by
  refine wp_mono h ?_
  intro e a' w' hq
  cases e with
  | normal => exact hq
  | exit id => exact hq.elim
  | goto l => exact hq.elim
  | ret => exact hq.elim
  | panic ch => exact hq.elim
  | outgrown => exact hq.elim
theorem wp_lone1 {P : Program} {c : Code} {n : Nat} {K : Act → World → Prop} {Q : Exit → Act → World → Prop} {a : Act} {w : World} (h : c.wp P (Exit.then K (fun _ _ _ => False)) a w) : c.wp P (Exit.inBlock n (Exit.then K Q)) a w := by
  refine wp_mono h ?_
  intro e a' w' hq
  cases e with
  | normal => exact hq
  | exit id => exact hq.elim
  | goto l => exact hq.elim
  | ret => exact hq.elim
  | panic ch => exact hq.elim
  | outgrown => exact hq.elim
/-- What the law says of an input. -/
def DpSaid (room : Int) (A : Option Addr) (n cap : Nat) (w : World) : Prop := Calls Try.prog 3 #[.int .i64 room, .slice A n cap] w fun e w' => e = .returned (.bool true) ∧ Below w.heap.size w w'
theorem tripD_ok {L : List Tm} {x y z : Int} : (∃ a b c, tripD L x y z = ((a, b, c), 0) ∧ a ∈ L ∧ b ∈ L ∧ c ∈ L) ∨ tripD L x y z = ((.none, .none, .none), 3) ∨ tripD L x y z = ((.none, .none, .none), 4) := by
  unfold tripD
  split
  · rename_i h
    split
    · obtain ⟨i, _, hi⟩ := atN_of h.1
      obtain ⟨j, _, hj⟩ := atN_of h.2.1
      obtain ⟨k, _, hk⟩ := atN_of h.2.2
      exact .inl ⟨_, _, _, rfl, List.mem_of_getElem? hi, List.mem_of_getElem? hj, List.mem_of_getElem? hk⟩
    · exact .inr (.inl rfl)
  · exact .inr (.inr rfl)
theorem q_seven {q : Nat} (h : q < 7) : q = 0 ∨ q = 1 ∨ q = 2 ∨ q = 3 ∨ q = 4 ∨ q = 5 ∨ q = 6 := by omega
end Go.Proofs.Ytehechbiajbobaa

/-
  DictPlays: region 14: three Plain beside a box. (Out of dpcut.py.)
-/
namespace Go.Proofs.Ytehechbiajbobaa
open Go.RowKit
set_option linter.unusedVariables false
set_option linter.unusedSimpArgs false
set_option maxRecDepth 100000

set_option maxHeartbeats 64000000 in
theorem dp_r14 {R : Act → World → Prop} {Q' : Exit → Act → World → Prop} {w1 : World} {d m g7 g9 i : Nat} {room : Int} {v5 : Value} {L : List Tm} {A5 : Option Addr} {c5 : Nat} {kd an kx ky kz sk pk qk k0 k1 k2 : Int} {sa sb sc pa pb pc qa qb qc a0 a1 a2 b0 b1 b2 c0 c1 c2 : ByteArray} {w5 : World} {f0 f1 f2 f3 f4 f6 f8 f11 f12 f13 f14 f15 f16 f17 f18 f19 f20 f21 f22 f23 f24 f25 f26 f27 f28 f29 f30 f31 f32 f33 f34 f35 f36 f37 f38 f39 f40 f41 f42 f43 f44 f45 f46 f47 f48 f49 f50 f51 f52 f53 f54 f55 f56 f57 f58 f59 f60 f61 f62 f63 f64 f65 f66 f67 f68 f69 f70 f71 f72 f73 f74 f75 f76 f77 f78 f79 f80 f81 f82 f83 f84 f85 f86 f87 f88 f89 f90 f91 f92 f93 f94 f95 f96 f97 f98 f99 f100 f101 f102 f103 f104 f105 f106 f107 f108 f109 f110 f111 f112 f113 f114 f115 f116 f117 f118 f119 f120 f121 f122 f123 f124 f125 f126 f127 f128 f129 f130 f131 f132 f133 f134 f135 f136 f137 f138 f139 f140 f141 f142 f143 f144 f145 f146 f147 f148 f149 f150 f151 f152 f153 f154 f155 f156 f157 f158 f159 f160 f161 f162 f163 f164 f165 f166 f167 f168 f169 f170 f171 f172 f173 f174 f175 f176 f177 f178 f179 f180 f181 f182 f183 f184 f185 f186 f187 f188 f189 f190 f191 f192 f193 f194 f195 f196 f197 f198 f199 f200 f201 f202 f203 f204 f205 f206 f207 f208 f209 f210 f211 f212 f213 f214 f215 f216 f217 f218 f219 f220 f221 f222 f223 f224 f225 f226 f227 f228 f229 f230 f231 f232 f233 f234 f235 f236 f237 f238 f239 f240 f241 f242 f243 f244 f245 f246 f247 f248 f249 f250 f251 f252 f253 f254 f255 f256 f257 f258 f259 f260 f261 f262 f263 f264 f265 f266 f267 f268 f269 f270 f271 f272 f273 f274 f275 f276 f277 f278 f279 f280 f281 f282 f283 f284 f285 f286 f287 f288 f289 f290 f291 f292 f293 f294 f295 f296 f297 f298 f299 f300 f301 f302 f303 f304 f305 f306 f307 f10 : Value}
    (hC5 : Px w1 d m g7 room v5 L (.slice A5 L.length c5) [(g9, 37, #[.int .u8 kd, .int .i64 an, .int .i64 sk, .string sa, .string sb, .string sc, .int .i64 pk, .string pa, .string pb, .string pc, .int .i64 qk, .string qa, .string qb, .string qc, .int .i64 kx, .int .i64 ky, .int .i64 kz])] w5)
    (cP1 : ∀ w : World, Calls Try.prog 7 #[F4 sk sa sb sc] w fun e w' => e = .returned (F4 k0 a0 a1 a2) ∧ Below w.heap.size w w')
    (cP2 : ∀ w : World, Calls Try.prog 7 #[F4 pk pa pb pc] w fun e w' => e = .returned (F4 k1 b0 b1 b2) ∧ Below w.heap.size w w')
    (cP3 : ∀ w : World, Calls Try.prog 7 #[F4 qk qa qb qc] w fun e w' => e = .returned (F4 k2 c0 c1 c2) ∧ Below w.heap.size w w')
    (HR : Hid (∀ (e92 e93 e94 e95 e96 e97 e98 e99 e100 e101 e102 e103 e104 : Value) (g10 : Nat) (W : World), Px w1 d m g7 room v5 L (.slice A5 L.length c5) [(g10, 34, #[.int .i64 k0, .string a0, .string a1, .string a2, .int .i64 k1, .string b0, .string b1, .string b2, .int .i64 k2, .string c0, .string c1, .string c2]), (g9, 37, #[.int .u8 kd, .int .i64 an, .int .i64 sk, .string sa, .string sb, .string sc, .int .i64 pk, .string pa, .string pb, .string pc, .int .i64 qk, .string qa, .string qb, .string qc, .int .i64 kx, .int .i64 ky, .int .i64 kz])] W → R ⟨(f0 :: f1 :: f2 :: f3 :: f4 :: .pointer (some ⟨d, 0, none⟩) :: f6 :: .pointer (some ⟨g7, 0, none⟩) :: f8 :: .pointer (some ⟨g9, 0, none⟩) :: .pointer (some ⟨g10, 0, none⟩) :: f11 :: f12 :: f13 :: f14 :: f15 :: f16 :: f17 :: f18 :: f19 :: f20 :: f21 :: f22 :: f23 :: f24 :: f25 :: f26 :: f27 :: f28 :: f29 :: f30 :: f31 :: f32 :: f33 :: f34 :: f35 :: f36 :: f37 :: f38 :: f39 :: f40 :: f41 :: f42 :: f43 :: f44 :: f45 :: f46 :: f47 :: f48 :: f49 :: f50 :: f51 :: f52 :: f53 :: f54 :: f55 :: f56 :: f57 :: f58 :: f59 :: f60 :: f61 :: f62 :: f63 :: f64 :: f65 :: f66 :: f67 :: f68 :: f69 :: f70 :: f71 :: f72 :: f73 :: f74 :: f75 :: f76 :: f77 :: f78 :: f79 :: f80 :: f81 :: f82 :: f83 :: f84 :: f85 :: f86 :: f87 :: f88 :: f89 :: f90 :: f91 :: e92 :: e93 :: e94 :: e95 :: e96 :: e97 :: e98 :: e99 :: e100 :: e101 :: e102 :: e103 :: e104 :: f105 :: f106 :: f107 :: f108 :: f109 :: f110 :: f111 :: f112 :: f113 :: f114 :: f115 :: f116 :: f117 :: f118 :: f119 :: f120 :: f121 :: f122 :: f123 :: f124 :: f125 :: f126 :: f127 :: f128 :: f129 :: f130 :: f131 :: f132 :: f133 :: f134 :: f135 :: f136 :: f137 :: f138 :: f139 :: f140 :: f141 :: f142 :: f143 :: f144 :: f145 :: f146 :: f147 :: f148 :: f149 :: f150 :: f151 :: f152 :: f153 :: f154 :: f155 :: f156 :: f157 :: f158 :: f159 :: f160 :: f161 :: f162 :: f163 :: f164 :: f165 :: f166 :: f167 :: f168 :: f169 :: f170 :: f171 :: f172 :: f173 :: f174 :: f175 :: f176 :: f177 :: f178 :: f179 :: f180 :: f181 :: f182 :: f183 :: f184 :: f185 :: f186 :: f187 :: f188 :: f189 :: f190 :: f191 :: f192 :: f193 :: f194 :: f195 :: f196 :: f197 :: f198 :: f199 :: f200 :: f201 :: f202 :: f203 :: f204 :: f205 :: f206 :: f207 :: f208 :: f209 :: f210 :: f211 :: f212 :: f213 :: f214 :: f215 :: f216 :: f217 :: f218 :: f219 :: f220 :: f221 :: f222 :: f223 :: f224 :: f225 :: f226 :: f227 :: f228 :: f229 :: f230 :: f231 :: f232 :: f233 :: f234 :: f235 :: f236 :: f237 :: f238 :: f239 :: f240 :: f241 :: f242 :: f243 :: f244 :: f245 :: f246 :: f247 :: f248 :: f249 :: f250 :: f251 :: f252 :: f253 :: f254 :: f255 :: f256 :: f257 :: f258 :: f259 :: f260 :: f261 :: f262 :: f263 :: f264 :: f265 :: f266 :: f267 :: f268 :: f269 :: f270 :: f271 :: f272 :: f273 :: f274 :: f275 :: f276 :: f277 :: f278 :: f279 :: f280 :: f281 :: f282 :: f283 :: f284 :: f285 :: f286 :: f287 :: f288 :: f289 :: f290 :: f291 :: f292 :: f293 :: f294 :: f295 :: f296 :: f297 :: f298 :: f299 :: f300 :: f301 :: f302 :: f303 :: f304 :: f305 :: f306 :: f307 :: []).toArray, []⟩ W)) :
    Code.wp Try.prog dpR14 (Exit.then R Q') ⟨(f0 :: f1 :: f2 :: f3 :: f4 :: .pointer (some ⟨d, 0, none⟩) :: f6 :: .pointer (some ⟨g7, 0, none⟩) :: f8 :: .pointer (some ⟨g9, 0, none⟩) :: f10 :: f11 :: f12 :: f13 :: f14 :: f15 :: f16 :: f17 :: f18 :: f19 :: f20 :: f21 :: f22 :: f23 :: f24 :: f25 :: f26 :: f27 :: f28 :: f29 :: f30 :: f31 :: f32 :: f33 :: f34 :: f35 :: f36 :: f37 :: f38 :: f39 :: f40 :: f41 :: f42 :: f43 :: f44 :: f45 :: f46 :: f47 :: f48 :: f49 :: f50 :: f51 :: f52 :: f53 :: f54 :: f55 :: f56 :: f57 :: f58 :: f59 :: f60 :: f61 :: f62 :: f63 :: f64 :: f65 :: f66 :: f67 :: f68 :: f69 :: f70 :: f71 :: f72 :: f73 :: f74 :: f75 :: f76 :: f77 :: f78 :: f79 :: f80 :: f81 :: f82 :: f83 :: f84 :: f85 :: f86 :: f87 :: f88 :: f89 :: f90 :: f91 :: f92 :: f93 :: f94 :: f95 :: f96 :: f97 :: f98 :: f99 :: f100 :: f101 :: f102 :: f103 :: f104 :: f105 :: f106 :: f107 :: f108 :: f109 :: f110 :: f111 :: f112 :: f113 :: f114 :: f115 :: f116 :: f117 :: f118 :: f119 :: f120 :: f121 :: f122 :: f123 :: f124 :: f125 :: f126 :: f127 :: f128 :: f129 :: f130 :: f131 :: f132 :: f133 :: f134 :: f135 :: f136 :: f137 :: f138 :: f139 :: f140 :: f141 :: f142 :: f143 :: f144 :: f145 :: f146 :: f147 :: f148 :: f149 :: f150 :: f151 :: f152 :: f153 :: f154 :: f155 :: f156 :: f157 :: f158 :: f159 :: f160 :: f161 :: f162 :: f163 :: f164 :: f165 :: f166 :: f167 :: f168 :: f169 :: f170 :: f171 :: f172 :: f173 :: f174 :: f175 :: f176 :: f177 :: f178 :: f179 :: f180 :: f181 :: f182 :: f183 :: f184 :: f185 :: f186 :: f187 :: f188 :: f189 :: f190 :: f191 :: f192 :: f193 :: f194 :: f195 :: f196 :: f197 :: f198 :: f199 :: f200 :: f201 :: f202 :: f203 :: f204 :: f205 :: f206 :: f207 :: f208 :: f209 :: f210 :: f211 :: f212 :: f213 :: f214 :: f215 :: f216 :: f217 :: f218 :: f219 :: f220 :: f221 :: f222 :: f223 :: f224 :: f225 :: f226 :: f227 :: f228 :: f229 :: f230 :: f231 :: f232 :: f233 :: f234 :: f235 :: f236 :: f237 :: f238 :: f239 :: f240 :: f241 :: f242 :: f243 :: f244 :: f245 :: f246 :: f247 :: f248 :: f249 :: f250 :: f251 :: f252 :: f253 :: f254 :: f255 :: f256 :: f257 :: f258 :: f259 :: f260 :: f261 :: f262 :: f263 :: f264 :: f265 :: f266 :: f267 :: f268 :: f269 :: f270 :: f271 :: f272 :: f273 :: f274 :: f275 :: f276 :: f277 :: f278 :: f279 :: f280 :: f281 :: f282 :: f283 :: f284 :: f285 :: f286 :: f287 :: f288 :: f289 :: f290 :: f291 :: f292 :: f293 :: f294 :: f295 :: f296 :: f297 :: f298 :: f299 :: f300 :: f301 :: f302 :: f303 :: f304 :: f305 :: f306 :: f307 :: []).toArray, []⟩ w5 := by
  have HC5 := Lib.hid hC5
  have hg75 := hC5.x7.lt
  have hl9 : g9 < w5.heap.size := (hC5.bx _ (.head _)).lt
  have K : ∀ W, Below w5.heap.size w5 W → W.cell? ⟨g9, 2, none⟩ = some (.int .i64 sk) ∧ W.cell? ⟨g9, 3, none⟩ = some (.string sa) ∧ W.cell? ⟨g9, 4, none⟩ = some (.string sb) ∧ W.cell? ⟨g9, 5, none⟩ = some (.string sc) ∧ W.cell? ⟨g9, 6, none⟩ = some (.int .i64 pk) ∧ W.cell? ⟨g9, 7, none⟩ = some (.string pa) ∧ W.cell? ⟨g9, 8, none⟩ = some (.string pb) ∧ W.cell? ⟨g9, 9, none⟩ = some (.string pc) ∧ W.cell? ⟨g9, 10, none⟩ = some (.int .i64 qk) ∧ W.cell? ⟨g9, 11, none⟩ = some (.string qa) ∧ W.cell? ⟨g9, 12, none⟩ = some (.string qb) ∧ W.cell? ⟨g9, 13, none⟩ = some (.string qc) := fun W hb => by
    have h := (HC5.out.below hb).bx _ (.head _)
    dsimp only at h
    exact ⟨h.cell 2, h.cell 3, h.cell 4, h.cell 5, h.cell 6, h.cell 7, h.cell 8, h.cell 9, h.cell 10, h.cell 11, h.cell 12, h.cell 13⟩
  clear hC5
  conv => arg 2; whnf
  refine wp_region_noPanic ?_
  refine wp_region_held_drew (S := (fun W => W.cell? ⟨g9, 2, none⟩ = some (.int .i64 sk) ∧ W.cell? ⟨g9, 3, none⟩ = some (.string sa) ∧ W.cell? ⟨g9, 4, none⟩ = some (.string sb) ∧ W.cell? ⟨g9, 5, none⟩ = some (.string sc) ∧ W.cell? ⟨g9, 6, none⟩ = some (.int .i64 pk) ∧ W.cell? ⟨g9, 7, none⟩ = some (.string pa) ∧ W.cell? ⟨g9, 8, none⟩ = some (.string pb) ∧ W.cell? ⟨g9, 9, none⟩ = some (.string pc) ∧ W.cell? ⟨g9, 10, none⟩ = some (.int .i64 qk) ∧ W.cell? ⟨g9, 11, none⟩ = some (.string qa) ∧ W.cell? ⟨g9, 12, none⟩ = some (.string qb) ∧ W.cell? ⟨g9, 13, none⟩ = some (.string qc))) (by kernel_rfl) (by refine K _ ?_; repeat (first | with_reducible assumption | with_reducible exact Below.refl _ _ | with_reducible refine Below.drew ?_ | with_reducible refine Below.alloc ?_ (by first | exact Nat.le_refl _ | with_reducible assumption | (simp; done) | (simp; omega) | (have := hY1.size; simp; omega) | (have := hY2.size; simp; omega) | (have := hY3.size; simp; omega)) _ | with_reducible refine Below.setCell ?_ (by first | exact Nat.le_refl _ | with_reducible assumption | (simp; done) | (simp; omega) | (have := hY1.size; simp; omega) | (have := hY2.size; simp; omega) | (have := hY3.size; simp; omega)) _)) (fun hHeld => ?_)
  refine wpAnyH_take (i := 0) (oi := { dst := some 92, op := Go.Op.fieldAddr 37 (Go.Operand.tmp 9) 2, type := 0, pos := "law.go:69", after := #[], guard := none }) (v := ?_) rfl (by kernel_rfl) (by kernel_rfl) (by kernel_rfl) (fun _ _ _ h => h) (Or.inl ⟨by rfl, ?_⟩) (by assumption) ?_
  rotate_left
  · (intro w hSw; (try dsimp only at hSw); go_simp; try with_reducible rfl)
  try simp only [Act.put, List.setIfInBounds_toArray, List.set_cons_zero, List.set_cons_succ]
  refine wpAnyH_take (i := 1) (oi := { dst := some 93, op := Go.Op.fieldAddr 34 (Go.Operand.tmp 92) 0, type := 0, pos := "law.go:69", after := #[{ on := 0, ground := Go.Ground.data }], guard := none }) (v := ?_) rfl (by kernel_rfl) (by kernel_rfl) (by kernel_rfl) (fun _ _ _ h => h) (Or.inl ⟨by rfl, ?_⟩) (by assumption) ?_
  rotate_left
  · (intro w hSw; (try dsimp only at hSw); go_simp; try with_reducible rfl)
  try simp only [Act.put, List.setIfInBounds_toArray, List.set_cons_zero, List.set_cons_succ]
  refine wpAnyH_take (i := 2) (oi := { dst := some 94, op := Go.Op.load 32 (Go.Operand.tmp 93), type := 32, pos := "law.go:69", after := #[{ on := 1, ground := Go.Ground.data }], guard := none }) (v := ?_) rfl (by kernel_rfl) (by kernel_rfl) (by kernel_rfl) (fun _ _ _ h => h) (Or.inl ⟨by rfl, ?_⟩) (by assumption) ?_
  rotate_left
  · (intro w hSw; (try dsimp only at hSw); go_simp; try with_reducible rfl)
  try simp only [Act.put, List.setIfInBounds_toArray, List.set_cons_zero, List.set_cons_succ]
  refine wpAnyH_take (i := 4) (oi := { dst := some 96, op := Go.Op.fieldAddr 37 (Go.Operand.tmp 9) 2, type := 0, pos := "law.go:69", after := #[], guard := none }) (v := ?_) rfl (by kernel_rfl) (by kernel_rfl) (by kernel_rfl) (fun _ _ _ h => h) (Or.inl ⟨by rfl, ?_⟩) (by assumption) ?_
  rotate_left
  · (intro w hSw; (try dsimp only at hSw); go_simp; try with_reducible rfl)
  try simp only [Act.put, List.setIfInBounds_toArray, List.set_cons_zero, List.set_cons_succ]
  refine wpAnyH_take (i := 5) (oi := { dst := some 97, op := Go.Op.fieldAddr 34 (Go.Operand.tmp 96) 1, type := 0, pos := "law.go:69", after := #[{ on := 4, ground := Go.Ground.data }], guard := none }) (v := ?_) rfl (by kernel_rfl) (by kernel_rfl) (by kernel_rfl) (fun _ _ _ h => h) (Or.inl ⟨by rfl, ?_⟩) (by assumption) ?_
  rotate_left
  · (intro w hSw; (try dsimp only at hSw); go_simp; try with_reducible rfl)
  try simp only [Act.put, List.setIfInBounds_toArray, List.set_cons_zero, List.set_cons_succ]
  refine wpAnyH_take (i := 6) (oi := { dst := some 98, op := Go.Op.load 32 (Go.Operand.tmp 97), type := 32, pos := "law.go:69", after := #[{ on := 5, ground := Go.Ground.data }], guard := none }) (v := ?_) rfl (by kernel_rfl) (by kernel_rfl) (by kernel_rfl) (fun _ _ _ h => h) (Or.inl ⟨by rfl, ?_⟩) (by assumption) ?_
  rotate_left
  · (intro w hSw; (try dsimp only at hSw); go_simp; try with_reducible rfl)
  try simp only [Act.put, List.setIfInBounds_toArray, List.set_cons_zero, List.set_cons_succ]
  refine wpAnyH_take (i := 8) (oi := { dst := some 100, op := Go.Op.fieldAddr 37 (Go.Operand.tmp 9) 2, type := 0, pos := "law.go:69", after := #[], guard := none }) (v := ?_) rfl (by kernel_rfl) (by kernel_rfl) (by kernel_rfl) (fun _ _ _ h => h) (Or.inl ⟨by rfl, ?_⟩) (by assumption) ?_
  rotate_left
  · (intro w hSw; (try dsimp only at hSw); go_simp; try with_reducible rfl)
  try simp only [Act.put, List.setIfInBounds_toArray, List.set_cons_zero, List.set_cons_succ]
  refine wpAnyH_take (i := 9) (oi := { dst := some 101, op := Go.Op.fieldAddr 34 (Go.Operand.tmp 100) 2, type := 0, pos := "law.go:69", after := #[{ on := 8, ground := Go.Ground.data }], guard := none }) (v := ?_) rfl (by kernel_rfl) (by kernel_rfl) (by kernel_rfl) (fun _ _ _ h => h) (Or.inl ⟨by rfl, ?_⟩) (by assumption) ?_
  rotate_left
  · (intro w hSw; (try dsimp only at hSw); go_simp; try with_reducible rfl)
  try simp only [Act.put, List.setIfInBounds_toArray, List.set_cons_zero, List.set_cons_succ]
  refine wpAnyH_take (i := 10) (oi := { dst := some 102, op := Go.Op.load 32 (Go.Operand.tmp 101), type := 32, pos := "law.go:69", after := #[{ on := 9, ground := Go.Ground.data }], guard := none }) (v := ?_) rfl (by kernel_rfl) (by kernel_rfl) (by kernel_rfl) (fun _ _ _ h => h) (Or.inl ⟨by rfl, ?_⟩) (by assumption) ?_
  rotate_left
  · (intro w hSw; (try dsimp only at hSw); go_simp; try with_reducible rfl)
  try simp only [Act.put, List.setIfInBounds_toArray, List.set_cons_zero, List.set_cons_succ]
  refine wpAnyH_ready (rs := [3, 13]) (by kernel_rfl) (by simp) ?_
  refine AllReadyH.cons (o := { dst := some 95, op := Go.Op.call { callee := Go.Callee.value (Go.Operand.func 7), args := #[Go.Operand.tmp 94], argTypes := #[32] }, type := 32, pos := "law.go:69", after := #[{ on := 2, ground := Go.Ground.data }], guard := none }) rfl (fun K' hK => ?_) ?_
  · skip
    go_simp
    go_at_call 7; (with_reducible refine (cP1 _).mono ?_); rintro e y1 ⟨rfl, hz1⟩; have hY1 : Below w5.heap.size w5 y1 := Below.trans (by repeat (first | with_reducible assumption | with_reducible exact Below.refl _ _ | with_reducible refine Below.drew ?_ | with_reducible refine Below.alloc ?_ (by first | exact Nat.le_refl _ | with_reducible assumption | (simp; done) | (simp; omega) | (have := hY1.size; simp; omega) | (have := hY2.size; simp; omega) | (have := hY3.size; simp; omega)) _ | with_reducible refine Below.setCell ?_ (by first | exact Nat.le_refl _ | with_reducible assumption | (simp; done) | (simp; omega) | (have := hY1.size; simp; omega) | (have := hY2.size; simp; omega) | (have := hY3.size; simp; omega)) _)) (hz1.mono (by first | exact Nat.le_refl _ | (simp; done) | (simp; omega))); (try (first | (have hN1 := Fb.below (Fb.drew (Fb.new _ 34 #[.int .i64 0, .string mt, .string mt, .string mt, .int .i64 0, .string mt, .string mt, .string mt, .int .i64 0, .string mt, .string mt, .string mt])) hz1) | (have hN1 := Fb.below (Fb.new _ 34 #[.int .i64 0, .string mt, .string mt, .string mt, .int .i64 0, .string mt, .string mt, .string mt, .int .i64 0, .string mt, .string mt, .string mt]) hz1)))
    (try go_wp2_with fail)
    refine hK.out _ _ (by refine K _ ?_; repeat (first | with_reducible assumption | with_reducible exact Below.refl _ _ | with_reducible refine Below.drew ?_ | with_reducible refine Below.alloc ?_ (by first | exact Nat.le_refl _ | with_reducible assumption | (simp; done) | (simp; omega) | (have := hY1.size; simp; omega) | (have := hY2.size; simp; omega) | (have := hY3.size; simp; omega)) _ | with_reducible refine Below.setCell ?_ (by first | exact Nat.le_refl _ | with_reducible assumption | (simp; done) | (simp; omega) | (have := hY1.size; simp; omega) | (have := hY2.size; simp; omega) | (have := hY3.size; simp; omega)) _)) (fun hHeld => ?_)
    clear hK
    try simp only [Act.put, List.setIfInBounds_toArray, List.set_cons_zero, List.set_cons_succ]
    refine wpAnyH_ready (rs := [7, 13]) (by kernel_rfl) (by simp) ?_
    refine AllReadyH.cons (o := { dst := some 99, op := Go.Op.call { callee := Go.Callee.value (Go.Operand.func 7), args := #[Go.Operand.tmp 98], argTypes := #[32] }, type := 32, pos := "law.go:69", after := #[{ on := 6, ground := Go.Ground.data }, { on := 3, ground := Go.Ground.chain }], guard := none }) rfl (fun K' hK => ?_) ?_
    · skip
      go_simp
      go_at_call 7; (with_reducible refine (cP2 _).mono ?_); rintro e y2 ⟨rfl, hz2⟩; have hY2 : Below w5.heap.size w5 y2 := Below.trans (by repeat (first | with_reducible assumption | with_reducible exact Below.refl _ _ | with_reducible refine Below.drew ?_ | with_reducible refine Below.alloc ?_ (by first | exact Nat.le_refl _ | with_reducible assumption | (simp; done) | (simp; omega) | (have := hY1.size; simp; omega) | (have := hY2.size; simp; omega) | (have := hY3.size; simp; omega)) _ | with_reducible refine Below.setCell ?_ (by first | exact Nat.le_refl _ | with_reducible assumption | (simp; done) | (simp; omega) | (have := hY1.size; simp; omega) | (have := hY2.size; simp; omega) | (have := hY3.size; simp; omega)) _)) (hz2.mono (by have := hY1.size; first | exact this | (simp; done) | (simp; omega))); (try (first | (have hN2 := Fb.below hN1 hz2) | (have hN2 := Fb.below (Fb.drew hN1) hz2) | (first | (have hN2 := Fb.below (Fb.drew (Fb.new _ 34 #[.int .i64 0, .string mt, .string mt, .string mt, .int .i64 0, .string mt, .string mt, .string mt, .int .i64 0, .string mt, .string mt, .string mt])) hz2) | (have hN2 := Fb.below (Fb.new _ 34 #[.int .i64 0, .string mt, .string mt, .string mt, .int .i64 0, .string mt, .string mt, .string mt, .int .i64 0, .string mt, .string mt, .string mt]) hz2))))
      (try go_wp2_with fail)
      refine hK.out _ _ (by refine K _ ?_; repeat (first | with_reducible assumption | with_reducible exact Below.refl _ _ | with_reducible refine Below.drew ?_ | with_reducible refine Below.alloc ?_ (by first | exact Nat.le_refl _ | with_reducible assumption | (simp; done) | (simp; omega) | (have := hY1.size; simp; omega) | (have := hY2.size; simp; omega) | (have := hY3.size; simp; omega)) _ | with_reducible refine Below.setCell ?_ (by first | exact Nat.le_refl _ | with_reducible assumption | (simp; done) | (simp; omega) | (have := hY1.size; simp; omega) | (have := hY2.size; simp; omega) | (have := hY3.size; simp; omega)) _)) (fun hHeld => ?_)
      clear hK
      try simp only [Act.put, List.setIfInBounds_toArray, List.set_cons_zero, List.set_cons_succ]
      refine wpAnyH_ready (rs := [11, 13]) (by kernel_rfl) (by simp) ?_
      refine AllReadyH.cons (o := { dst := some 103, op := Go.Op.call { callee := Go.Callee.value (Go.Operand.func 7), args := #[Go.Operand.tmp 102], argTypes := #[32] }, type := 32, pos := "law.go:69", after := #[{ on := 10, ground := Go.Ground.data }, { on := 7, ground := Go.Ground.chain }], guard := none }) rfl (fun K' hK => ?_) ?_
      · skip
        go_simp
        go_at_call 7; (with_reducible refine (cP3 _).mono ?_); rintro e y3 ⟨rfl, hz3⟩; have hY3 : Below w5.heap.size w5 y3 := Below.trans (by repeat (first | with_reducible assumption | with_reducible exact Below.refl _ _ | with_reducible refine Below.drew ?_ | with_reducible refine Below.alloc ?_ (by first | exact Nat.le_refl _ | with_reducible assumption | (simp; done) | (simp; omega) | (have := hY1.size; simp; omega) | (have := hY2.size; simp; omega) | (have := hY3.size; simp; omega)) _ | with_reducible refine Below.setCell ?_ (by first | exact Nat.le_refl _ | with_reducible assumption | (simp; done) | (simp; omega) | (have := hY1.size; simp; omega) | (have := hY2.size; simp; omega) | (have := hY3.size; simp; omega)) _)) (hz3.mono (by have := hY2.size; first | exact this | (simp; done) | (simp; omega))); (try (first | (have hN3 := Fb.below hN2 hz3; have n0 := hN3.cell 0; have nf0 := d_free hN3 0; have n1 := hN3.cell 1; have nf1 := d_free hN3 1; have n2 := hN3.cell 2; have nf2 := d_free hN3 2; have n3 := hN3.cell 3; have nf3 := d_free hN3 3; have n4 := hN3.cell 4; have nf4 := d_free hN3 4; have n5 := hN3.cell 5; have nf5 := d_free hN3 5; have n6 := hN3.cell 6; have nf6 := d_free hN3 6; have n7 := hN3.cell 7; have nf7 := d_free hN3 7; have n8 := hN3.cell 8; have nf8 := d_free hN3 8; have n9 := hN3.cell 9; have nf9 := d_free hN3 9; have n10 := hN3.cell 10; have nf10 := d_free hN3 10; have n11 := hN3.cell 11; have nf11 := d_free hN3 11; have nl := hN3.lt) | (have hN3 := Fb.below (Fb.drew hN2) hz3; have n0 := hN3.cell 0; have nf0 := d_free hN3 0; have n1 := hN3.cell 1; have nf1 := d_free hN3 1; have n2 := hN3.cell 2; have nf2 := d_free hN3 2; have n3 := hN3.cell 3; have nf3 := d_free hN3 3; have n4 := hN3.cell 4; have nf4 := d_free hN3 4; have n5 := hN3.cell 5; have nf5 := d_free hN3 5; have n6 := hN3.cell 6; have nf6 := d_free hN3 6; have n7 := hN3.cell 7; have nf7 := d_free hN3 7; have n8 := hN3.cell 8; have nf8 := d_free hN3 8; have n9 := hN3.cell 9; have nf9 := d_free hN3 9; have n10 := hN3.cell 10; have nf10 := d_free hN3 10; have n11 := hN3.cell 11; have nf11 := d_free hN3 11; have nl := hN3.lt) | (first | (have hN3 := Fb.below (Fb.drew (Fb.new _ 34 #[.int .i64 0, .string mt, .string mt, .string mt, .int .i64 0, .string mt, .string mt, .string mt, .int .i64 0, .string mt, .string mt, .string mt])) hz3; have n0 := hN3.cell 0; have nf0 := d_free hN3 0; have n1 := hN3.cell 1; have nf1 := d_free hN3 1; have n2 := hN3.cell 2; have nf2 := d_free hN3 2; have n3 := hN3.cell 3; have nf3 := d_free hN3 3; have n4 := hN3.cell 4; have nf4 := d_free hN3 4; have n5 := hN3.cell 5; have nf5 := d_free hN3 5; have n6 := hN3.cell 6; have nf6 := d_free hN3 6; have n7 := hN3.cell 7; have nf7 := d_free hN3 7; have n8 := hN3.cell 8; have nf8 := d_free hN3 8; have n9 := hN3.cell 9; have nf9 := d_free hN3 9; have n10 := hN3.cell 10; have nf10 := d_free hN3 10; have n11 := hN3.cell 11; have nf11 := d_free hN3 11; have nl := hN3.lt) | (have hN3 := Fb.below (Fb.new _ 34 #[.int .i64 0, .string mt, .string mt, .string mt, .int .i64 0, .string mt, .string mt, .string mt, .int .i64 0, .string mt, .string mt, .string mt]) hz3; have n0 := hN3.cell 0; have nf0 := d_free hN3 0; have n1 := hN3.cell 1; have nf1 := d_free hN3 1; have n2 := hN3.cell 2; have nf2 := d_free hN3 2; have n3 := hN3.cell 3; have nf3 := d_free hN3 3; have n4 := hN3.cell 4; have nf4 := d_free hN3 4; have n5 := hN3.cell 5; have nf5 := d_free hN3 5; have n6 := hN3.cell 6; have nf6 := d_free hN3 6; have n7 := hN3.cell 7; have nf7 := d_free hN3 7; have n8 := hN3.cell 8; have nf8 := d_free hN3 8; have n9 := hN3.cell 9; have nf9 := d_free hN3 9; have n10 := hN3.cell 10; have nf10 := d_free hN3 10; have n11 := hN3.cell 11; have nf11 := d_free hN3 11; have nl := hN3.lt))))
        (try go_wp2_with fail)
        refine hK.out _ _ (by refine K _ ?_; repeat (first | with_reducible assumption | with_reducible exact Below.refl _ _ | with_reducible refine Below.drew ?_ | with_reducible refine Below.alloc ?_ (by first | exact Nat.le_refl _ | with_reducible assumption | (simp; done) | (simp; omega) | (have := hY1.size; simp; omega) | (have := hY2.size; simp; omega) | (have := hY3.size; simp; omega)) _ | with_reducible refine Below.setCell ?_ (by first | exact Nat.le_refl _ | with_reducible assumption | (simp; done) | (simp; omega) | (have := hY1.size; simp; omega) | (have := hY2.size; simp; omega) | (have := hY3.size; simp; omega)) _)) (fun hHeld => ?_)
        clear hK
        try simp only [Act.put, List.setIfInBounds_toArray, List.set_cons_zero, List.set_cons_succ]
        refine wpAnyH_take (i := 12) (oi := { dst := some 104, op := Go.Op.build 34 #[(0, Go.Operand.tmp 95), (1, Go.Operand.tmp 99), (2, Go.Operand.tmp 103)], type := 34, pos := "law.go:69", after := #[{ on := 3, ground := Go.Ground.data }, { on := 7, ground := Go.Ground.data }, { on := 11, ground := Go.Ground.data }], guard := none }) (v := ?_) rfl (by kernel_rfl) (by kernel_rfl) (by kernel_rfl) (fun _ _ _ h => h) (Or.inl ⟨by rfl, ?_⟩) (by assumption) ?_
        rotate_left
        · (intro w hSw; (try dsimp only at hSw); go_simp; try with_reducible rfl)
        try simp only [Act.put, List.setIfInBounds_toArray, List.set_cons_zero, List.set_cons_succ]
        refine wpAnyH_ready (rs := [13]) (by kernel_rfl) (by simp) ?_
        refine AllReadyH.cons (o := { dst := some 10, op := Go.Op.alloc 34, type := 0, pos := "law.go:69", after := #[], guard := none }) rfl (fun K' hK => ?_) AllReadyH.nil
        go_simp
        refine hK.out _ _ (by refine K _ ?_; repeat (first | with_reducible assumption | with_reducible exact Below.refl _ _ | with_reducible refine Below.drew ?_ | with_reducible refine Below.alloc ?_ (by first | exact Nat.le_refl _ | with_reducible assumption | (simp; done) | (simp; omega) | (have := hY1.size; simp; omega) | (have := hY2.size; simp; omega) | (have := hY3.size; simp; omega)) _ | with_reducible refine Below.setCell ?_ (by first | exact Nat.le_refl _ | with_reducible assumption | (simp; done) | (simp; omega) | (have := hY1.size; simp; omega) | (have := hY2.size; simp; omega) | (have := hY3.size; simp; omega)) _)) (fun hHeld => ?_)
        clear hK
        try simp only [Act.put, List.setIfInBounds_toArray, List.set_cons_zero, List.set_cons_succ]
        refine wpAnyH_ready (rs := [14]) (by kernel_rfl) (by simp) ?_
        refine AllReadyH.cons (o := { dst := none, op := Go.Op.store 34 (Go.Operand.tmp 10) (Go.Operand.tmp 104), type := 0, pos := "law.go:69", after := #[{ on := 13, ground := Go.Ground.data }, { on := 12, ground := Go.Ground.data }, { on := 11, ground := Go.Ground.chain }, { on := 0, ground := Go.Ground.phase }, { on := 1, ground := Go.Ground.phase }, { on := 2, ground := Go.Ground.phase }, { on := 3, ground := Go.Ground.phase }, { on := 4, ground := Go.Ground.phase }, { on := 5, ground := Go.Ground.phase }, { on := 6, ground := Go.Ground.phase }, { on := 7, ground := Go.Ground.phase }, { on := 8, ground := Go.Ground.phase }, { on := 9, ground := Go.Ground.phase }, { on := 10, ground := Go.Ground.phase }, { on := 11, ground := Go.Ground.phase }, { on := 12, ground := Go.Ground.phase }, { on := 13, ground := Go.Ground.phase }], guard := none }) rfl (fun K' hK => ?_) AllReadyH.nil
        go_simp
        have hB := hY3.alloc hY3.size (.cells #[.int .i64 k0, .string a0, .string a1, .string a2, .int .i64 k1, .string b0, .string b1, .string b2, .int .i64 k2, .string c0, .string c1, .string c2] 34)
        refine hK.out _ _ (K _ hB) (fun hHeld => ?_)
        refine wpAnyH_done (by kernel_rfl) ?_ _
        refine NoPanic.normal ?_
        refine (show R _ _ from ?_)
        exact HR.out _ _ _ _ _ _ _ _ _ _ _ _ _ _ _ ((HC5.out.below hY3).add 34 _ (by decide) (by decide))
      refine AllReadyH.cons (o := { dst := some 10, op := Go.Op.alloc 34, type := 0, pos := "law.go:69", after := #[], guard := none }) rfl (fun K' hK => ?_) AllReadyH.nil
      go_simp
      refine hK.out _ _ (by refine K _ ?_; repeat (first | with_reducible assumption | with_reducible exact Below.refl _ _ | with_reducible refine Below.drew ?_ | with_reducible refine Below.alloc ?_ (by first | exact Nat.le_refl _ | with_reducible assumption | (simp; done) | (simp; omega) | (have := hY1.size; simp; omega) | (have := hY2.size; simp; omega) | (have := hY3.size; simp; omega)) _ | with_reducible refine Below.setCell ?_ (by first | exact Nat.le_refl _ | with_reducible assumption | (simp; done) | (simp; omega) | (have := hY1.size; simp; omega) | (have := hY2.size; simp; omega) | (have := hY3.size; simp; omega)) _)) (fun hHeld => ?_)
      clear hK
      try simp only [Act.put, List.setIfInBounds_toArray, List.set_cons_zero, List.set_cons_succ]
      refine wpAnyH_ready (rs := [11]) (by kernel_rfl) (by simp) ?_
      refine AllReadyH.cons (o := { dst := some 103, op := Go.Op.call { callee := Go.Callee.value (Go.Operand.func 7), args := #[Go.Operand.tmp 102], argTypes := #[32] }, type := 32, pos := "law.go:69", after := #[{ on := 10, ground := Go.Ground.data }, { on := 7, ground := Go.Ground.chain }], guard := none }) rfl (fun K' hK => ?_) AllReadyH.nil
      go_simp
      go_at_call 7; (with_reducible refine (cP3 _).mono ?_); rintro e y3 ⟨rfl, hz3⟩; have hY3 : Below w5.heap.size w5 y3 := Below.trans (by repeat (first | with_reducible assumption | with_reducible exact Below.refl _ _ | with_reducible refine Below.drew ?_ | with_reducible refine Below.alloc ?_ (by first | exact Nat.le_refl _ | with_reducible assumption | (simp; done) | (simp; omega) | (have := hY1.size; simp; omega) | (have := hY2.size; simp; omega) | (have := hY3.size; simp; omega)) _ | with_reducible refine Below.setCell ?_ (by first | exact Nat.le_refl _ | with_reducible assumption | (simp; done) | (simp; omega) | (have := hY1.size; simp; omega) | (have := hY2.size; simp; omega) | (have := hY3.size; simp; omega)) _)) (hz3.mono (by have := hY2.size; first | exact this | (simp; done) | (simp; omega))); (try (first | (have hN3 := Fb.below hN2 hz3; have n0 := hN3.cell 0; have nf0 := d_free hN3 0; have n1 := hN3.cell 1; have nf1 := d_free hN3 1; have n2 := hN3.cell 2; have nf2 := d_free hN3 2; have n3 := hN3.cell 3; have nf3 := d_free hN3 3; have n4 := hN3.cell 4; have nf4 := d_free hN3 4; have n5 := hN3.cell 5; have nf5 := d_free hN3 5; have n6 := hN3.cell 6; have nf6 := d_free hN3 6; have n7 := hN3.cell 7; have nf7 := d_free hN3 7; have n8 := hN3.cell 8; have nf8 := d_free hN3 8; have n9 := hN3.cell 9; have nf9 := d_free hN3 9; have n10 := hN3.cell 10; have nf10 := d_free hN3 10; have n11 := hN3.cell 11; have nf11 := d_free hN3 11; have nl := hN3.lt) | (have hN3 := Fb.below (Fb.drew hN2) hz3; have n0 := hN3.cell 0; have nf0 := d_free hN3 0; have n1 := hN3.cell 1; have nf1 := d_free hN3 1; have n2 := hN3.cell 2; have nf2 := d_free hN3 2; have n3 := hN3.cell 3; have nf3 := d_free hN3 3; have n4 := hN3.cell 4; have nf4 := d_free hN3 4; have n5 := hN3.cell 5; have nf5 := d_free hN3 5; have n6 := hN3.cell 6; have nf6 := d_free hN3 6; have n7 := hN3.cell 7; have nf7 := d_free hN3 7; have n8 := hN3.cell 8; have nf8 := d_free hN3 8; have n9 := hN3.cell 9; have nf9 := d_free hN3 9; have n10 := hN3.cell 10; have nf10 := d_free hN3 10; have n11 := hN3.cell 11; have nf11 := d_free hN3 11; have nl := hN3.lt) | (first | (have hN3 := Fb.below (Fb.drew (Fb.new _ 34 #[.int .i64 0, .string mt, .string mt, .string mt, .int .i64 0, .string mt, .string mt, .string mt, .int .i64 0, .string mt, .string mt, .string mt])) hz3; have n0 := hN3.cell 0; have nf0 := d_free hN3 0; have n1 := hN3.cell 1; have nf1 := d_free hN3 1; have n2 := hN3.cell 2; have nf2 := d_free hN3 2; have n3 := hN3.cell 3; have nf3 := d_free hN3 3; have n4 := hN3.cell 4; have nf4 := d_free hN3 4; have n5 := hN3.cell 5; have nf5 := d_free hN3 5; have n6 := hN3.cell 6; have nf6 := d_free hN3 6; have n7 := hN3.cell 7; have nf7 := d_free hN3 7; have n8 := hN3.cell 8; have nf8 := d_free hN3 8; have n9 := hN3.cell 9; have nf9 := d_free hN3 9; have n10 := hN3.cell 10; have nf10 := d_free hN3 10; have n11 := hN3.cell 11; have nf11 := d_free hN3 11; have nl := hN3.lt) | (have hN3 := Fb.below (Fb.new _ 34 #[.int .i64 0, .string mt, .string mt, .string mt, .int .i64 0, .string mt, .string mt, .string mt, .int .i64 0, .string mt, .string mt, .string mt]) hz3; have n0 := hN3.cell 0; have nf0 := d_free hN3 0; have n1 := hN3.cell 1; have nf1 := d_free hN3 1; have n2 := hN3.cell 2; have nf2 := d_free hN3 2; have n3 := hN3.cell 3; have nf3 := d_free hN3 3; have n4 := hN3.cell 4; have nf4 := d_free hN3 4; have n5 := hN3.cell 5; have nf5 := d_free hN3 5; have n6 := hN3.cell 6; have nf6 := d_free hN3 6; have n7 := hN3.cell 7; have nf7 := d_free hN3 7; have n8 := hN3.cell 8; have nf8 := d_free hN3 8; have n9 := hN3.cell 9; have nf9 := d_free hN3 9; have n10 := hN3.cell 10; have nf10 := d_free hN3 10; have n11 := hN3.cell 11; have nf11 := d_free hN3 11; have nl := hN3.lt))))
      (try go_wp2_with fail)
      refine hK.out _ _ (by refine K _ ?_; repeat (first | with_reducible assumption | with_reducible exact Below.refl _ _ | with_reducible refine Below.drew ?_ | with_reducible refine Below.alloc ?_ (by first | exact Nat.le_refl _ | with_reducible assumption | (simp; done) | (simp; omega) | (have := hY1.size; simp; omega) | (have := hY2.size; simp; omega) | (have := hY3.size; simp; omega)) _ | with_reducible refine Below.setCell ?_ (by first | exact Nat.le_refl _ | with_reducible assumption | (simp; done) | (simp; omega) | (have := hY1.size; simp; omega) | (have := hY2.size; simp; omega) | (have := hY3.size; simp; omega)) _)) (fun hHeld => ?_)
      clear hK
      try simp only [Act.put, List.setIfInBounds_toArray, List.set_cons_zero, List.set_cons_succ]
      refine wpAnyH_take (i := 12) (oi := { dst := some 104, op := Go.Op.build 34 #[(0, Go.Operand.tmp 95), (1, Go.Operand.tmp 99), (2, Go.Operand.tmp 103)], type := 34, pos := "law.go:69", after := #[{ on := 3, ground := Go.Ground.data }, { on := 7, ground := Go.Ground.data }, { on := 11, ground := Go.Ground.data }], guard := none }) (v := ?_) rfl (by kernel_rfl) (by kernel_rfl) (by kernel_rfl) (fun _ _ _ h => h) (Or.inl ⟨by rfl, ?_⟩) (by assumption) ?_
      rotate_left
      · (intro w hSw; (try dsimp only at hSw); go_simp; try with_reducible rfl)
      try simp only [Act.put, List.setIfInBounds_toArray, List.set_cons_zero, List.set_cons_succ]
      refine wpAnyH_ready (rs := [14]) (by kernel_rfl) (by simp) ?_
      refine AllReadyH.cons (o := { dst := none, op := Go.Op.store 34 (Go.Operand.tmp 10) (Go.Operand.tmp 104), type := 0, pos := "law.go:69", after := #[{ on := 13, ground := Go.Ground.data }, { on := 12, ground := Go.Ground.data }, { on := 11, ground := Go.Ground.chain }, { on := 0, ground := Go.Ground.phase }, { on := 1, ground := Go.Ground.phase }, { on := 2, ground := Go.Ground.phase }, { on := 3, ground := Go.Ground.phase }, { on := 4, ground := Go.Ground.phase }, { on := 5, ground := Go.Ground.phase }, { on := 6, ground := Go.Ground.phase }, { on := 7, ground := Go.Ground.phase }, { on := 8, ground := Go.Ground.phase }, { on := 9, ground := Go.Ground.phase }, { on := 10, ground := Go.Ground.phase }, { on := 11, ground := Go.Ground.phase }, { on := 12, ground := Go.Ground.phase }, { on := 13, ground := Go.Ground.phase }], guard := none }) rfl (fun K' hK => ?_) AllReadyH.nil
      go_simp
      have hge : w5.heap.size ≤ y2.heap.size := hY2.size
      have hB := set12_below hY3 hge (.int .i64 k0) (.string a0) (.string a1) (.string a2) (.int .i64 k1) (.string b0) (.string b1) (.string b2) (.int .i64 k2) (.string c0) (.string c1) (.string c2)
      have hF := set12_fb hN3 (.int .i64 k0) (.string a0) (.string a1) (.string a2) (.int .i64 k1) (.string b0) (.string b1) (.string b2) (.int .i64 k2) (.string c0) (.string c1) (.string c2)
      refine hK.out _ _ (K _ hB) (fun hHeld => ?_)
      refine wpAnyH_done (by kernel_rfl) ?_ _
      refine NoPanic.normal ?_
      refine (show R _ _ from ?_)
      exact HR.out _ _ _ _ _ _ _ _ _ _ _ _ _ _ _ ((HC5.out.below hB).cons hF (by decide) (by decide) (fun e => by omega))
    refine AllReadyH.cons (o := { dst := some 10, op := Go.Op.alloc 34, type := 0, pos := "law.go:69", after := #[], guard := none }) rfl (fun K' hK => ?_) AllReadyH.nil
    go_simp
    refine hK.out _ _ (by refine K _ ?_; repeat (first | with_reducible assumption | with_reducible exact Below.refl _ _ | with_reducible refine Below.drew ?_ | with_reducible refine Below.alloc ?_ (by first | exact Nat.le_refl _ | with_reducible assumption | (simp; done) | (simp; omega) | (have := hY1.size; simp; omega) | (have := hY2.size; simp; omega) | (have := hY3.size; simp; omega)) _ | with_reducible refine Below.setCell ?_ (by first | exact Nat.le_refl _ | with_reducible assumption | (simp; done) | (simp; omega) | (have := hY1.size; simp; omega) | (have := hY2.size; simp; omega) | (have := hY3.size; simp; omega)) _)) (fun hHeld => ?_)
    clear hK
    try simp only [Act.put, List.setIfInBounds_toArray, List.set_cons_zero, List.set_cons_succ]
    refine wpAnyH_ready (rs := [7]) (by kernel_rfl) (by simp) ?_
    refine AllReadyH.cons (o := { dst := some 99, op := Go.Op.call { callee := Go.Callee.value (Go.Operand.func 7), args := #[Go.Operand.tmp 98], argTypes := #[32] }, type := 32, pos := "law.go:69", after := #[{ on := 6, ground := Go.Ground.data }, { on := 3, ground := Go.Ground.chain }], guard := none }) rfl (fun K' hK => ?_) AllReadyH.nil
    go_simp
    go_at_call 7; (with_reducible refine (cP2 _).mono ?_); rintro e y2 ⟨rfl, hz2⟩; have hY2 : Below w5.heap.size w5 y2 := Below.trans (by repeat (first | with_reducible assumption | with_reducible exact Below.refl _ _ | with_reducible refine Below.drew ?_ | with_reducible refine Below.alloc ?_ (by first | exact Nat.le_refl _ | with_reducible assumption | (simp; done) | (simp; omega) | (have := hY1.size; simp; omega) | (have := hY2.size; simp; omega) | (have := hY3.size; simp; omega)) _ | with_reducible refine Below.setCell ?_ (by first | exact Nat.le_refl _ | with_reducible assumption | (simp; done) | (simp; omega) | (have := hY1.size; simp; omega) | (have := hY2.size; simp; omega) | (have := hY3.size; simp; omega)) _)) (hz2.mono (by have := hY1.size; first | exact this | (simp; done) | (simp; omega))); (try (first | (have hN2 := Fb.below hN1 hz2) | (have hN2 := Fb.below (Fb.drew hN1) hz2) | (first | (have hN2 := Fb.below (Fb.drew (Fb.new _ 34 #[.int .i64 0, .string mt, .string mt, .string mt, .int .i64 0, .string mt, .string mt, .string mt, .int .i64 0, .string mt, .string mt, .string mt])) hz2) | (have hN2 := Fb.below (Fb.new _ 34 #[.int .i64 0, .string mt, .string mt, .string mt, .int .i64 0, .string mt, .string mt, .string mt, .int .i64 0, .string mt, .string mt, .string mt]) hz2))))
    (try go_wp2_with fail)
    refine hK.out _ _ (by refine K _ ?_; repeat (first | with_reducible assumption | with_reducible exact Below.refl _ _ | with_reducible refine Below.drew ?_ | with_reducible refine Below.alloc ?_ (by first | exact Nat.le_refl _ | with_reducible assumption | (simp; done) | (simp; omega) | (have := hY1.size; simp; omega) | (have := hY2.size; simp; omega) | (have := hY3.size; simp; omega)) _ | with_reducible refine Below.setCell ?_ (by first | exact Nat.le_refl _ | with_reducible assumption | (simp; done) | (simp; omega) | (have := hY1.size; simp; omega) | (have := hY2.size; simp; omega) | (have := hY3.size; simp; omega)) _)) (fun hHeld => ?_)
    clear hK
    try simp only [Act.put, List.setIfInBounds_toArray, List.set_cons_zero, List.set_cons_succ]
    refine wpAnyH_ready (rs := [11]) (by kernel_rfl) (by simp) ?_
    refine AllReadyH.cons (o := { dst := some 103, op := Go.Op.call { callee := Go.Callee.value (Go.Operand.func 7), args := #[Go.Operand.tmp 102], argTypes := #[32] }, type := 32, pos := "law.go:69", after := #[{ on := 10, ground := Go.Ground.data }, { on := 7, ground := Go.Ground.chain }], guard := none }) rfl (fun K' hK => ?_) AllReadyH.nil
    go_simp
    go_at_call 7; (with_reducible refine (cP3 _).mono ?_); rintro e y3 ⟨rfl, hz3⟩; have hY3 : Below w5.heap.size w5 y3 := Below.trans (by repeat (first | with_reducible assumption | with_reducible exact Below.refl _ _ | with_reducible refine Below.drew ?_ | with_reducible refine Below.alloc ?_ (by first | exact Nat.le_refl _ | with_reducible assumption | (simp; done) | (simp; omega) | (have := hY1.size; simp; omega) | (have := hY2.size; simp; omega) | (have := hY3.size; simp; omega)) _ | with_reducible refine Below.setCell ?_ (by first | exact Nat.le_refl _ | with_reducible assumption | (simp; done) | (simp; omega) | (have := hY1.size; simp; omega) | (have := hY2.size; simp; omega) | (have := hY3.size; simp; omega)) _)) (hz3.mono (by have := hY2.size; first | exact this | (simp; done) | (simp; omega))); (try (first | (have hN3 := Fb.below hN2 hz3; have n0 := hN3.cell 0; have nf0 := d_free hN3 0; have n1 := hN3.cell 1; have nf1 := d_free hN3 1; have n2 := hN3.cell 2; have nf2 := d_free hN3 2; have n3 := hN3.cell 3; have nf3 := d_free hN3 3; have n4 := hN3.cell 4; have nf4 := d_free hN3 4; have n5 := hN3.cell 5; have nf5 := d_free hN3 5; have n6 := hN3.cell 6; have nf6 := d_free hN3 6; have n7 := hN3.cell 7; have nf7 := d_free hN3 7; have n8 := hN3.cell 8; have nf8 := d_free hN3 8; have n9 := hN3.cell 9; have nf9 := d_free hN3 9; have n10 := hN3.cell 10; have nf10 := d_free hN3 10; have n11 := hN3.cell 11; have nf11 := d_free hN3 11; have nl := hN3.lt) | (have hN3 := Fb.below (Fb.drew hN2) hz3; have n0 := hN3.cell 0; have nf0 := d_free hN3 0; have n1 := hN3.cell 1; have nf1 := d_free hN3 1; have n2 := hN3.cell 2; have nf2 := d_free hN3 2; have n3 := hN3.cell 3; have nf3 := d_free hN3 3; have n4 := hN3.cell 4; have nf4 := d_free hN3 4; have n5 := hN3.cell 5; have nf5 := d_free hN3 5; have n6 := hN3.cell 6; have nf6 := d_free hN3 6; have n7 := hN3.cell 7; have nf7 := d_free hN3 7; have n8 := hN3.cell 8; have nf8 := d_free hN3 8; have n9 := hN3.cell 9; have nf9 := d_free hN3 9; have n10 := hN3.cell 10; have nf10 := d_free hN3 10; have n11 := hN3.cell 11; have nf11 := d_free hN3 11; have nl := hN3.lt) | (first | (have hN3 := Fb.below (Fb.drew (Fb.new _ 34 #[.int .i64 0, .string mt, .string mt, .string mt, .int .i64 0, .string mt, .string mt, .string mt, .int .i64 0, .string mt, .string mt, .string mt])) hz3; have n0 := hN3.cell 0; have nf0 := d_free hN3 0; have n1 := hN3.cell 1; have nf1 := d_free hN3 1; have n2 := hN3.cell 2; have nf2 := d_free hN3 2; have n3 := hN3.cell 3; have nf3 := d_free hN3 3; have n4 := hN3.cell 4; have nf4 := d_free hN3 4; have n5 := hN3.cell 5; have nf5 := d_free hN3 5; have n6 := hN3.cell 6; have nf6 := d_free hN3 6; have n7 := hN3.cell 7; have nf7 := d_free hN3 7; have n8 := hN3.cell 8; have nf8 := d_free hN3 8; have n9 := hN3.cell 9; have nf9 := d_free hN3 9; have n10 := hN3.cell 10; have nf10 := d_free hN3 10; have n11 := hN3.cell 11; have nf11 := d_free hN3 11; have nl := hN3.lt) | (have hN3 := Fb.below (Fb.new _ 34 #[.int .i64 0, .string mt, .string mt, .string mt, .int .i64 0, .string mt, .string mt, .string mt, .int .i64 0, .string mt, .string mt, .string mt]) hz3; have n0 := hN3.cell 0; have nf0 := d_free hN3 0; have n1 := hN3.cell 1; have nf1 := d_free hN3 1; have n2 := hN3.cell 2; have nf2 := d_free hN3 2; have n3 := hN3.cell 3; have nf3 := d_free hN3 3; have n4 := hN3.cell 4; have nf4 := d_free hN3 4; have n5 := hN3.cell 5; have nf5 := d_free hN3 5; have n6 := hN3.cell 6; have nf6 := d_free hN3 6; have n7 := hN3.cell 7; have nf7 := d_free hN3 7; have n8 := hN3.cell 8; have nf8 := d_free hN3 8; have n9 := hN3.cell 9; have nf9 := d_free hN3 9; have n10 := hN3.cell 10; have nf10 := d_free hN3 10; have n11 := hN3.cell 11; have nf11 := d_free hN3 11; have nl := hN3.lt))))
    (try go_wp2_with fail)
    refine hK.out _ _ (by refine K _ ?_; repeat (first | with_reducible assumption | with_reducible exact Below.refl _ _ | with_reducible refine Below.drew ?_ | with_reducible refine Below.alloc ?_ (by first | exact Nat.le_refl _ | with_reducible assumption | (simp; done) | (simp; omega) | (have := hY1.size; simp; omega) | (have := hY2.size; simp; omega) | (have := hY3.size; simp; omega)) _ | with_reducible refine Below.setCell ?_ (by first | exact Nat.le_refl _ | with_reducible assumption | (simp; done) | (simp; omega) | (have := hY1.size; simp; omega) | (have := hY2.size; simp; omega) | (have := hY3.size; simp; omega)) _)) (fun hHeld => ?_)
    clear hK
    try simp only [Act.put, List.setIfInBounds_toArray, List.set_cons_zero, List.set_cons_succ]
    refine wpAnyH_take (i := 12) (oi := { dst := some 104, op := Go.Op.build 34 #[(0, Go.Operand.tmp 95), (1, Go.Operand.tmp 99), (2, Go.Operand.tmp 103)], type := 34, pos := "law.go:69", after := #[{ on := 3, ground := Go.Ground.data }, { on := 7, ground := Go.Ground.data }, { on := 11, ground := Go.Ground.data }], guard := none }) (v := ?_) rfl (by kernel_rfl) (by kernel_rfl) (by kernel_rfl) (fun _ _ _ h => h) (Or.inl ⟨by rfl, ?_⟩) (by assumption) ?_
    rotate_left
    · (intro w hSw; (try dsimp only at hSw); go_simp; try with_reducible rfl)
    try simp only [Act.put, List.setIfInBounds_toArray, List.set_cons_zero, List.set_cons_succ]
    refine wpAnyH_ready (rs := [14]) (by kernel_rfl) (by simp) ?_
    refine AllReadyH.cons (o := { dst := none, op := Go.Op.store 34 (Go.Operand.tmp 10) (Go.Operand.tmp 104), type := 0, pos := "law.go:69", after := #[{ on := 13, ground := Go.Ground.data }, { on := 12, ground := Go.Ground.data }, { on := 11, ground := Go.Ground.chain }, { on := 0, ground := Go.Ground.phase }, { on := 1, ground := Go.Ground.phase }, { on := 2, ground := Go.Ground.phase }, { on := 3, ground := Go.Ground.phase }, { on := 4, ground := Go.Ground.phase }, { on := 5, ground := Go.Ground.phase }, { on := 6, ground := Go.Ground.phase }, { on := 7, ground := Go.Ground.phase }, { on := 8, ground := Go.Ground.phase }, { on := 9, ground := Go.Ground.phase }, { on := 10, ground := Go.Ground.phase }, { on := 11, ground := Go.Ground.phase }, { on := 12, ground := Go.Ground.phase }, { on := 13, ground := Go.Ground.phase }], guard := none }) rfl (fun K' hK => ?_) AllReadyH.nil
    go_simp
    have hge : w5.heap.size ≤ y1.heap.size := hY1.size
    have hB := set12_below hY3 hge (.int .i64 k0) (.string a0) (.string a1) (.string a2) (.int .i64 k1) (.string b0) (.string b1) (.string b2) (.int .i64 k2) (.string c0) (.string c1) (.string c2)
    have hF := set12_fb hN3 (.int .i64 k0) (.string a0) (.string a1) (.string a2) (.int .i64 k1) (.string b0) (.string b1) (.string b2) (.int .i64 k2) (.string c0) (.string c1) (.string c2)
    refine hK.out _ _ (K _ hB) (fun hHeld => ?_)
    refine wpAnyH_done (by kernel_rfl) ?_ _
    refine NoPanic.normal ?_
    refine (show R _ _ from ?_)
    exact HR.out _ _ _ _ _ _ _ _ _ _ _ _ _ _ _ ((HC5.out.below hB).cons hF (by decide) (by decide) (fun e => by omega))
  refine AllReadyH.cons (o := { dst := some 10, op := Go.Op.alloc 34, type := 0, pos := "law.go:69", after := #[], guard := none }) rfl (fun K' hK => ?_) AllReadyH.nil
  go_simp
  refine hK.out _ _ (by refine K _ ?_; repeat (first | with_reducible assumption | with_reducible exact Below.refl _ _ | with_reducible refine Below.drew ?_ | with_reducible refine Below.alloc ?_ (by first | exact Nat.le_refl _ | with_reducible assumption | (simp; done) | (simp; omega) | (have := hY1.size; simp; omega) | (have := hY2.size; simp; omega) | (have := hY3.size; simp; omega)) _ | with_reducible refine Below.setCell ?_ (by first | exact Nat.le_refl _ | with_reducible assumption | (simp; done) | (simp; omega) | (have := hY1.size; simp; omega) | (have := hY2.size; simp; omega) | (have := hY3.size; simp; omega)) _)) (fun hHeld => ?_)
  clear hK
  try simp only [Act.put, List.setIfInBounds_toArray, List.set_cons_zero, List.set_cons_succ]
  refine wpAnyH_ready (rs := [3]) (by kernel_rfl) (by simp) ?_
  refine AllReadyH.cons (o := { dst := some 95, op := Go.Op.call { callee := Go.Callee.value (Go.Operand.func 7), args := #[Go.Operand.tmp 94], argTypes := #[32] }, type := 32, pos := "law.go:69", after := #[{ on := 2, ground := Go.Ground.data }], guard := none }) rfl (fun K' hK => ?_) AllReadyH.nil
  go_simp
  go_at_call 7; (with_reducible refine (cP1 _).mono ?_); rintro e y1 ⟨rfl, hz1⟩; have hY1 : Below w5.heap.size w5 y1 := Below.trans (by repeat (first | with_reducible assumption | with_reducible exact Below.refl _ _ | with_reducible refine Below.drew ?_ | with_reducible refine Below.alloc ?_ (by first | exact Nat.le_refl _ | with_reducible assumption | (simp; done) | (simp; omega) | (have := hY1.size; simp; omega) | (have := hY2.size; simp; omega) | (have := hY3.size; simp; omega)) _ | with_reducible refine Below.setCell ?_ (by first | exact Nat.le_refl _ | with_reducible assumption | (simp; done) | (simp; omega) | (have := hY1.size; simp; omega) | (have := hY2.size; simp; omega) | (have := hY3.size; simp; omega)) _)) (hz1.mono (by first | exact Nat.le_refl _ | (simp; done) | (simp; omega))); (try (first | (have hN1 := Fb.below (Fb.drew (Fb.new _ 34 #[.int .i64 0, .string mt, .string mt, .string mt, .int .i64 0, .string mt, .string mt, .string mt, .int .i64 0, .string mt, .string mt, .string mt])) hz1) | (have hN1 := Fb.below (Fb.new _ 34 #[.int .i64 0, .string mt, .string mt, .string mt, .int .i64 0, .string mt, .string mt, .string mt, .int .i64 0, .string mt, .string mt, .string mt]) hz1)))
  (try go_wp2_with fail)
  refine hK.out _ _ (by refine K _ ?_; repeat (first | with_reducible assumption | with_reducible exact Below.refl _ _ | with_reducible refine Below.drew ?_ | with_reducible refine Below.alloc ?_ (by first | exact Nat.le_refl _ | with_reducible assumption | (simp; done) | (simp; omega) | (have := hY1.size; simp; omega) | (have := hY2.size; simp; omega) | (have := hY3.size; simp; omega)) _ | with_reducible refine Below.setCell ?_ (by first | exact Nat.le_refl _ | with_reducible assumption | (simp; done) | (simp; omega) | (have := hY1.size; simp; omega) | (have := hY2.size; simp; omega) | (have := hY3.size; simp; omega)) _)) (fun hHeld => ?_)
  clear hK
  try simp only [Act.put, List.setIfInBounds_toArray, List.set_cons_zero, List.set_cons_succ]
  refine wpAnyH_ready (rs := [7]) (by kernel_rfl) (by simp) ?_
  refine AllReadyH.cons (o := { dst := some 99, op := Go.Op.call { callee := Go.Callee.value (Go.Operand.func 7), args := #[Go.Operand.tmp 98], argTypes := #[32] }, type := 32, pos := "law.go:69", after := #[{ on := 6, ground := Go.Ground.data }, { on := 3, ground := Go.Ground.chain }], guard := none }) rfl (fun K' hK => ?_) AllReadyH.nil
  go_simp
  go_at_call 7; (with_reducible refine (cP2 _).mono ?_); rintro e y2 ⟨rfl, hz2⟩; have hY2 : Below w5.heap.size w5 y2 := Below.trans (by repeat (first | with_reducible assumption | with_reducible exact Below.refl _ _ | with_reducible refine Below.drew ?_ | with_reducible refine Below.alloc ?_ (by first | exact Nat.le_refl _ | with_reducible assumption | (simp; done) | (simp; omega) | (have := hY1.size; simp; omega) | (have := hY2.size; simp; omega) | (have := hY3.size; simp; omega)) _ | with_reducible refine Below.setCell ?_ (by first | exact Nat.le_refl _ | with_reducible assumption | (simp; done) | (simp; omega) | (have := hY1.size; simp; omega) | (have := hY2.size; simp; omega) | (have := hY3.size; simp; omega)) _)) (hz2.mono (by have := hY1.size; first | exact this | (simp; done) | (simp; omega))); (try (first | (have hN2 := Fb.below hN1 hz2) | (have hN2 := Fb.below (Fb.drew hN1) hz2) | (first | (have hN2 := Fb.below (Fb.drew (Fb.new _ 34 #[.int .i64 0, .string mt, .string mt, .string mt, .int .i64 0, .string mt, .string mt, .string mt, .int .i64 0, .string mt, .string mt, .string mt])) hz2) | (have hN2 := Fb.below (Fb.new _ 34 #[.int .i64 0, .string mt, .string mt, .string mt, .int .i64 0, .string mt, .string mt, .string mt, .int .i64 0, .string mt, .string mt, .string mt]) hz2))))
  (try go_wp2_with fail)
  refine hK.out _ _ (by refine K _ ?_; repeat (first | with_reducible assumption | with_reducible exact Below.refl _ _ | with_reducible refine Below.drew ?_ | with_reducible refine Below.alloc ?_ (by first | exact Nat.le_refl _ | with_reducible assumption | (simp; done) | (simp; omega) | (have := hY1.size; simp; omega) | (have := hY2.size; simp; omega) | (have := hY3.size; simp; omega)) _ | with_reducible refine Below.setCell ?_ (by first | exact Nat.le_refl _ | with_reducible assumption | (simp; done) | (simp; omega) | (have := hY1.size; simp; omega) | (have := hY2.size; simp; omega) | (have := hY3.size; simp; omega)) _)) (fun hHeld => ?_)
  clear hK
  try simp only [Act.put, List.setIfInBounds_toArray, List.set_cons_zero, List.set_cons_succ]
  refine wpAnyH_ready (rs := [11]) (by kernel_rfl) (by simp) ?_
  refine AllReadyH.cons (o := { dst := some 103, op := Go.Op.call { callee := Go.Callee.value (Go.Operand.func 7), args := #[Go.Operand.tmp 102], argTypes := #[32] }, type := 32, pos := "law.go:69", after := #[{ on := 10, ground := Go.Ground.data }, { on := 7, ground := Go.Ground.chain }], guard := none }) rfl (fun K' hK => ?_) AllReadyH.nil
  go_simp
  go_at_call 7; (with_reducible refine (cP3 _).mono ?_); rintro e y3 ⟨rfl, hz3⟩; have hY3 : Below w5.heap.size w5 y3 := Below.trans (by repeat (first | with_reducible assumption | with_reducible exact Below.refl _ _ | with_reducible refine Below.drew ?_ | with_reducible refine Below.alloc ?_ (by first | exact Nat.le_refl _ | with_reducible assumption | (simp; done) | (simp; omega) | (have := hY1.size; simp; omega) | (have := hY2.size; simp; omega) | (have := hY3.size; simp; omega)) _ | with_reducible refine Below.setCell ?_ (by first | exact Nat.le_refl _ | with_reducible assumption | (simp; done) | (simp; omega) | (have := hY1.size; simp; omega) | (have := hY2.size; simp; omega) | (have := hY3.size; simp; omega)) _)) (hz3.mono (by have := hY2.size; first | exact this | (simp; done) | (simp; omega))); (try (first | (have hN3 := Fb.below hN2 hz3; have n0 := hN3.cell 0; have nf0 := d_free hN3 0; have n1 := hN3.cell 1; have nf1 := d_free hN3 1; have n2 := hN3.cell 2; have nf2 := d_free hN3 2; have n3 := hN3.cell 3; have nf3 := d_free hN3 3; have n4 := hN3.cell 4; have nf4 := d_free hN3 4; have n5 := hN3.cell 5; have nf5 := d_free hN3 5; have n6 := hN3.cell 6; have nf6 := d_free hN3 6; have n7 := hN3.cell 7; have nf7 := d_free hN3 7; have n8 := hN3.cell 8; have nf8 := d_free hN3 8; have n9 := hN3.cell 9; have nf9 := d_free hN3 9; have n10 := hN3.cell 10; have nf10 := d_free hN3 10; have n11 := hN3.cell 11; have nf11 := d_free hN3 11; have nl := hN3.lt) | (have hN3 := Fb.below (Fb.drew hN2) hz3; have n0 := hN3.cell 0; have nf0 := d_free hN3 0; have n1 := hN3.cell 1; have nf1 := d_free hN3 1; have n2 := hN3.cell 2; have nf2 := d_free hN3 2; have n3 := hN3.cell 3; have nf3 := d_free hN3 3; have n4 := hN3.cell 4; have nf4 := d_free hN3 4; have n5 := hN3.cell 5; have nf5 := d_free hN3 5; have n6 := hN3.cell 6; have nf6 := d_free hN3 6; have n7 := hN3.cell 7; have nf7 := d_free hN3 7; have n8 := hN3.cell 8; have nf8 := d_free hN3 8; have n9 := hN3.cell 9; have nf9 := d_free hN3 9; have n10 := hN3.cell 10; have nf10 := d_free hN3 10; have n11 := hN3.cell 11; have nf11 := d_free hN3 11; have nl := hN3.lt) | (first | (have hN3 := Fb.below (Fb.drew (Fb.new _ 34 #[.int .i64 0, .string mt, .string mt, .string mt, .int .i64 0, .string mt, .string mt, .string mt, .int .i64 0, .string mt, .string mt, .string mt])) hz3; have n0 := hN3.cell 0; have nf0 := d_free hN3 0; have n1 := hN3.cell 1; have nf1 := d_free hN3 1; have n2 := hN3.cell 2; have nf2 := d_free hN3 2; have n3 := hN3.cell 3; have nf3 := d_free hN3 3; have n4 := hN3.cell 4; have nf4 := d_free hN3 4; have n5 := hN3.cell 5; have nf5 := d_free hN3 5; have n6 := hN3.cell 6; have nf6 := d_free hN3 6; have n7 := hN3.cell 7; have nf7 := d_free hN3 7; have n8 := hN3.cell 8; have nf8 := d_free hN3 8; have n9 := hN3.cell 9; have nf9 := d_free hN3 9; have n10 := hN3.cell 10; have nf10 := d_free hN3 10; have n11 := hN3.cell 11; have nf11 := d_free hN3 11; have nl := hN3.lt) | (have hN3 := Fb.below (Fb.new _ 34 #[.int .i64 0, .string mt, .string mt, .string mt, .int .i64 0, .string mt, .string mt, .string mt, .int .i64 0, .string mt, .string mt, .string mt]) hz3; have n0 := hN3.cell 0; have nf0 := d_free hN3 0; have n1 := hN3.cell 1; have nf1 := d_free hN3 1; have n2 := hN3.cell 2; have nf2 := d_free hN3 2; have n3 := hN3.cell 3; have nf3 := d_free hN3 3; have n4 := hN3.cell 4; have nf4 := d_free hN3 4; have n5 := hN3.cell 5; have nf5 := d_free hN3 5; have n6 := hN3.cell 6; have nf6 := d_free hN3 6; have n7 := hN3.cell 7; have nf7 := d_free hN3 7; have n8 := hN3.cell 8; have nf8 := d_free hN3 8; have n9 := hN3.cell 9; have nf9 := d_free hN3 9; have n10 := hN3.cell 10; have nf10 := d_free hN3 10; have n11 := hN3.cell 11; have nf11 := d_free hN3 11; have nl := hN3.lt))))
  (try go_wp2_with fail)
  refine hK.out _ _ (by refine K _ ?_; repeat (first | with_reducible assumption | with_reducible exact Below.refl _ _ | with_reducible refine Below.drew ?_ | with_reducible refine Below.alloc ?_ (by first | exact Nat.le_refl _ | with_reducible assumption | (simp; done) | (simp; omega) | (have := hY1.size; simp; omega) | (have := hY2.size; simp; omega) | (have := hY3.size; simp; omega)) _ | with_reducible refine Below.setCell ?_ (by first | exact Nat.le_refl _ | with_reducible assumption | (simp; done) | (simp; omega) | (have := hY1.size; simp; omega) | (have := hY2.size; simp; omega) | (have := hY3.size; simp; omega)) _)) (fun hHeld => ?_)
  clear hK
  try simp only [Act.put, List.setIfInBounds_toArray, List.set_cons_zero, List.set_cons_succ]
  refine wpAnyH_take (i := 12) (oi := { dst := some 104, op := Go.Op.build 34 #[(0, Go.Operand.tmp 95), (1, Go.Operand.tmp 99), (2, Go.Operand.tmp 103)], type := 34, pos := "law.go:69", after := #[{ on := 3, ground := Go.Ground.data }, { on := 7, ground := Go.Ground.data }, { on := 11, ground := Go.Ground.data }], guard := none }) (v := ?_) rfl (by kernel_rfl) (by kernel_rfl) (by kernel_rfl) (fun _ _ _ h => h) (Or.inl ⟨by rfl, ?_⟩) (by assumption) ?_
  rotate_left
  · (intro w hSw; (try dsimp only at hSw); go_simp; try with_reducible rfl)
  try simp only [Act.put, List.setIfInBounds_toArray, List.set_cons_zero, List.set_cons_succ]
  refine wpAnyH_ready (rs := [14]) (by kernel_rfl) (by simp) ?_
  refine AllReadyH.cons (o := { dst := none, op := Go.Op.store 34 (Go.Operand.tmp 10) (Go.Operand.tmp 104), type := 0, pos := "law.go:69", after := #[{ on := 13, ground := Go.Ground.data }, { on := 12, ground := Go.Ground.data }, { on := 11, ground := Go.Ground.chain }, { on := 0, ground := Go.Ground.phase }, { on := 1, ground := Go.Ground.phase }, { on := 2, ground := Go.Ground.phase }, { on := 3, ground := Go.Ground.phase }, { on := 4, ground := Go.Ground.phase }, { on := 5, ground := Go.Ground.phase }, { on := 6, ground := Go.Ground.phase }, { on := 7, ground := Go.Ground.phase }, { on := 8, ground := Go.Ground.phase }, { on := 9, ground := Go.Ground.phase }, { on := 10, ground := Go.Ground.phase }, { on := 11, ground := Go.Ground.phase }, { on := 12, ground := Go.Ground.phase }, { on := 13, ground := Go.Ground.phase }], guard := none }) rfl (fun K' hK => ?_) AllReadyH.nil
  go_simp
  have hge : w5.heap.size ≤ w5.heap.size := Nat.le_refl _
  have hB := set12_below hY3 hge (.int .i64 k0) (.string a0) (.string a1) (.string a2) (.int .i64 k1) (.string b0) (.string b1) (.string b2) (.int .i64 k2) (.string c0) (.string c1) (.string c2)
  have hF := set12_fb hN3 (.int .i64 k0) (.string a0) (.string a1) (.string a2) (.int .i64 k1) (.string b0) (.string b1) (.string b2) (.int .i64 k2) (.string c0) (.string c1) (.string c2)
  refine hK.out _ _ (K _ hB) (fun hHeld => ?_)
  refine wpAnyH_done (by kernel_rfl) ?_ _
  refine NoPanic.normal ?_
  refine (show R _ _ from ?_)
  exact HR.out _ _ _ _ _ _ _ _ _ _ _ _ _ _ _ ((HC5.out.below hB).cons hF (by decide) (by decide) (fun e => by omega))
end Go.Proofs.Ytehechbiajbobaa
