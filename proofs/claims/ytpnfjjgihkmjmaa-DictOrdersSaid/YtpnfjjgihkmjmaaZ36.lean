/-
  MERGED (a claim has at most 60 files): NJn, DTwiceW.
-/
import Derived.Test.YtpnfjjgihkmjmaaZ33
import Derived.Test.YtpnfjjgihkmjmaaZ35
import Derived.Deep.AppendLies
import Derived.Test.YtpnfjjgihkmjmaaZ34
import Derived.Test.YtpnfjjgihkmjmaaZ32
import Derived.IntWalk
/-
  WHAT STANDS WHILE GOOD TRIPLES ARE GATHERED: plain lists; lines' sizes; the rows.
-/
namespace Go.Proofs.Ytpnfjjgihkmjmaa
open Go.RowKit
set_option linter.unusedVariables false
set_option linter.unusedSimpArgs false

/-! ### Plain -/
noncomputable def okL : List Tm → Bool
  | [a, b, c] => okR a b c 0
  | _ => false
noncomputable def goodL (L : List (List Tm)) : List (List Tm) := L.filter okL
theorem goodL_snoc (L : List (List Tm)) (ts : List Tm) : goodL (L ++ [ts]) = if okL ts = true then goodL L ++ [ts] else goodL L := by
  unfold goodL
  rw [List.filter_append]
  split
  · rename_i h; simp [h]
  · rename_i h; simp [h]
/-- Terms of kinds that there are, not long. -/
def Sm (ts : List Tm) : Prop := ∃ a b c, ts = [a, b, c] ∧ ∀ t ∈ ts, t.kind < 3 ∧ t.ta.size ≤ 300 ∧ t.tb.size ≤ 300 ∧ t.tc.size ≤ 100
theorem Sm.few {ts : List Tm} (h : Sm ts) : ∀ t ∈ ts, t.few := fun t ht => by
  obtain ⟨a, b, c, rfl, h⟩ := h
  have := h t ht
  exact ⟨by omega, by omega, by omega⟩
theorem Sm.len {ts : List Tm} (h : Sm ts) : ts.length = 3 := by obtain ⟨a, b, c, rfl, _⟩ := h; rfl
theorem pl3_kind (k : Int) (a b c : ByteArray) : (pl3 k a b c).kind < 3 := by
  unfold pl3
  split
  · simp [Tm.kind]
  split
  · simp [Tm.kind]
  · simp [Tm.kind]
theorem few_sm {l : List Dt} (h : fewB l = true) : ∀ ts ∈ fewL l, Sm ts := fun ts hts => by
  unfold fewB at h
  unfold fewL at hts
  obtain ⟨t, ht, rfl⟩ := List.mem_map.1 hts
  have hs := List.all_eq_true.1 h t ht
  unfold Dt.sh at hs
  have hs := List.all_eq_true.1 hs
  refine ⟨t.s.pl, t.p.pl, t.o.pl, rfl, fun u hu => ?_⟩
  obtain ⟨r, hr, rfl⟩ := List.mem_map.1 hu
  have hr2 := hs r hr
  unfold Dw.sh at hr2
  simp only [Bool.and_eq_true, decide_eq_true_eq] at hr2
  have hp := pl3_small r.k r.a r.b r.c
  exact ⟨pl3_kind _ _ _ _, by unfold Dw.pl; omega, by unfold Dw.pl; omega, by unfold Dw.pl; omega⟩
theorem few_len (l : List Dt) : (fewL l).length ≤ 10 := by unfold fewL; rw [List.length_map, List.length_take]; omega
theorem ok_gd {ts : List Tm} (h : okL ts = true) : Gd ts := by
  match ts, h with
  | [a, b, c], h =>
    have h' : okR a b c 0 = true := h
    unfold okR okP at h'
    simp only [Bool.and_eq_true] at h'
    exact ⟨a, b, c, rfl, ⟨h'.1.1, h'.2.1.1, h'.2.2.1⟩, ⟨h'.1.2, h'.2.1.2, h'.2.2.2⟩⟩
theorem goodL_gd {L : List (List Tm)} : ∀ ts ∈ goodL L, Gd ts := fun ts h => ok_gd (List.mem_filter.1 h).2
theorem goodL_sm {L : List (List Tm)} (h : ∀ ts ∈ L, Sm ts) : ∀ ts ∈ goodL L, Sm ts := fun ts ht => h ts (List.mem_filter.1 ht).1
theorem goodL_len (L : List (List Tm)) : (goodL L).length ≤ L.length := List.length_filter_le _ _
/-! ### Sizes -/
theorem quoT_size (l : List Int) : (textOf (quoS l)).size ≤ 6 * l.length + 2 := by
  have e : (textOf (quoS l)).data.toList = quoteL l := by rw [textOf_list, quoS_bytes]
  have h1 : (textOf (quoS l)).size = (quoteL l).length := by rw [← e, Array.length_toList]; rfl
  have h2 := escL_len l
  rw [h1]
  unfold quoteL
  simp
  omega
theorem tS_size (t : Tm) (hg : goodT t = true) : (textOf (tS t)).size ≤ 6 * t.ta.size + t.tb.size + t.tc.size + 6 ∧ (t.kind < 2 → (textOf (tS t)).size ≤ t.ta.size + 2) := by
  cases t with
  | iri s =>
    have e := sg_text (iri_signs (s := s) hg).1
    have hz : textOf (tS (.iri s)) = (⟨#[60]⟩ ++ s) ++ ⟨#[62]⟩ := by unfold tS; rw [text_cons, textOf_app, e, ← ByteArray.append_assoc]; rfl
    rw [hz, ByteArray.size_append, ByteArray.size_append]
    have h1 : (⟨#[60]⟩ : ByteArray).size = 1 := rfl
    have h2 : (⟨#[62]⟩ : ByteArray).size = 1 := rfl
    rw [h1, h2]
    simp only [Tm.ta, Tm.tb, Tm.tc]
    exact ⟨by omega, fun _ => by omega⟩
  | blank s =>
    have e := sg_text (label_signs (s := s) hg).1
    have hz : textOf (tS (.blank s)) = ⟨#[95, 58]⟩ ++ s := by
      unfold tS
      have e3 : textOf (95 :: 58 :: (sgP s).1) = textOf [95, 58] ++ textOf (sgP s).1 := by rw [← textOf_app]; rfl
      rw [e3, e]; rfl
    rw [hz, ByteArray.size_append]
    have h1 : (⟨#[95, 58]⟩ : ByteArray).size = 2 := rfl
    rw [h1]
    simp only [Tm.ta, Tm.tb, Tm.tc]
    exact ⟨by omega, fun _ => by omega⟩
  | lit a b c =>
    refine ⟨?_, fun h => absurd h (by simp [Tm.kind])⟩
    have hg' : litG a b c = true := hg
    unfold litG at hg'
    rw [Bool.and_eq_true] at hg'
    have hq := quoT_size (sgP a).1
    have ha := sg_small a
    have ht : (textOf (tailS b c)).size ≤ b.size + c.size + 4 := by
      unfold tailS
      by_cases h0 : c.size = 0
      · rw [if_pos h0]
        rw [if_pos h0, Bool.and_eq_true] at hg'
        by_cases hx : b = XS
        · rw [if_pos hx]
          have h1 : (textOf []).size = 0 := rfl
          rw [h1]; omega
        · rw [if_neg hx]
          have e := sg_text (iri_signs hg'.2.2).1
          have e3 : textOf (94 :: 94 :: 60 :: ((sgP b).1 ++ [62])) = (textOf [94, 94, 60] ++ textOf (sgP b).1) ++ textOf [62] := by rw [← textOf_app, ← textOf_app]; rfl
          rw [e3, e, ByteArray.size_append, ByteArray.size_append]
          have h1 : (textOf [94, 94, 60]).size = 3 := rfl
          have h2 : (textOf [62]).size = 1 := rfl
          rw [h1, h2]; omega
      · rw [if_neg h0]
        rw [if_neg h0, Bool.and_eq_true] at hg'
        have e := sg_text (lang_signs hg'.2.2).1
        rw [text_cons, e, ByteArray.size_append]
        have h1 : (textOf [64]).size = 1 := rfl
        rw [h1]; omega
    have hz : textOf (tS (.lit a b c)) = textOf (quoS (sgP a).1) ++ textOf (tailS b c) := by unfold tS; exact textOf_app _ _
    rw [hz, ByteArray.size_append]
    simp only [Tm.ta, Tm.tb, Tm.tc]
    omega
  | odd n => cases hg
  | none => cases hg
theorem may_low {t : Tm} {part : Nat} (h : mayB t part = true) (hp : part < 2) : t.kind < 2 := by
  have := kind_nn t
  unfold mayB at h
  simp at h
  omega
theorem ln_size {ts : List Tm} (hs : Sm ts) (hg : Gd ts) : (textOf (lnS ts)).size ≤ 2820 := by
  obtain ⟨a, b, c, rfl, hg, hm⟩ := hg
  obtain ⟨a', b', c', e, hs⟩ := hs
  have h0 := hs a (by simp)
  have h1 := hs b (by simp)
  have h2 := hs c (by simp)
  have sa := (tS_size a hg.1).2 (may_low hm.1 (by decide))
  have sb := (tS_size b hg.2.1).2 (may_low hm.2.1 (by decide))
  have sc := (tS_size c hg.2.2).1
  rw [lnS_T, textOf_app, tri_text]
  simp only [ByteArray.size_append]
  have n1 : (⟨#[32]⟩ : ByteArray).size = 1 := rfl
  have n2 : (⟨#[32, 46]⟩ : ByteArray).size = 2 := rfl
  have n3 : (textOf [10]).size = 1 := rfl
  rw [n1, n2, n3]
  omega
theorem lns_size : ∀ L : List (List Tm), (∀ ts ∈ L, Sm ts ∧ Gd ts) → (textOf (lnsS L)).size ≤ 2820 * L.length
  | [], _ => by
    have h : (textOf (lnsS [])).size = 0 := rfl
    rw [h]; omega
  | ts :: L, h => by
    have h1 := ln_size (h ts List.mem_cons_self).1 (h ts List.mem_cons_self).2
    have ih := lns_size L fun x hx => h x (List.mem_cons_of_mem _ hx)
    rw [lnsS_cons, textOf_app, ByteArray.size_append, List.length_cons]
    omega
/-! ### Rows -/
theorem rows_apart {W : World} {B B' : Nat} {e e' : TypeId} {m m' n n' : Nat} {v v' : Value} {xs xs' : List Value} (h : W.ownsRow B e m v n xs) (h' : W.ownsRow B' e' m' v' n' xs') (hne : e ≠ e') : v.ownBlock = none ∨ v.ownBlock ≠ v'.ownBlock := by
  rcases h.2 with ⟨hv, _⟩ | ⟨g, cap, cur, hv, _, hg, _⟩
  · left; rw [hv]; rfl
  · right
    intro eq
    rcases h'.2 with ⟨hv', _⟩ | ⟨g', cap', cur', hv', _, hg', _⟩
    · rw [hv, hv'] at eq; cases eq
    · rw [hv, hv'] at eq
      simp [Value.ownBlock] at eq
      subst eq
      rw [hg] at hg'
      cases hg'
      exact hne rfl
theorem row_box {W : World} {B : Nat} {e t : TypeId} {m n : Nat} {v : Value} {xs : List Value} {g : Nat} {cs : Array Value} (h : W.ownsRow B e m v n xs) (hb : Fb W g t cs) (hne : e ≠ t) : v.ownBlock ≠ some g := by
  rcases h.2 with ⟨hv, _⟩ | ⟨g', cap, cur, hv, _, hg, _⟩
  · rw [hv]; intro e; cases e
  · rw [hv]
    intro e
    simp [Value.ownBlock] at e
    subst e
    unfold Fb at hb
    rw [hg] at hb
    cases hb
    exact hne rfl
theorem types_ne : 57 ≠ 34 := by decide
/-- The loop's world: a box; all good ones so far (the document's); a row that is done; the row that grows. -/
structure Jw (W0 : World) (N1 g : Nat) (cs : Array Value) (v9 : Value) (L9 : List (List Tm)) (vf : Value) (F : List (List Tm)) (v10 : Value) (L10 : List (List Tm)) (W : World) : Prop where
  b : Below W0.heap.size W0 W
  n0 : W0.heap.size ≤ N1
  n1 : N1 ≤ W.heap.size
  box : Fb W g 34 cs
  all : DtV W0.heap.size W v9 L9
  done : TrsV W0.heap.size W vf F
  row : TrsV N1 W v10 L10
  far : ∀ k, vf.ownBlock = some k → k < N1
  ne : v9.ownBlock ≠ some g
section
variable {W0 : World} {N1 g : Nat} {cs : Array Value} {v9 vf v10 : Value} {L9 F L10 : List (List Tm)}
theorem Jw.below {W W' : World} (h : Jw W0 N1 g cs v9 L9 vf F v10 L10 W) (hb : Below W.heap.size W W') : Jw W0 N1 g cs v9 L9 vf F v10 L10 W' :=
  ⟨h.b.trans (hb.mono h.b.size), h.n0, Nat.le_trans h.n1 hb.size, h.box.below hb, h.all.below hb, h.done.below hb, h.row.below hb, h.far, h.ne⟩
theorem Jw.alloc {W : World} (h : Jw W0 N1 g cs v9 L9 vf F v10 L10 W) (o : Obj) : Jw W0 N1 g cs v9 L9 vf F v10 L10 (W.alloc o) := h.below ((Below.refl _ _).alloc (Nat.le_refl _) o)
theorem Jw.drew {W : World} (h : Jw W0 N1 g cs v9 L9 vf F v10 L10 W) : Jw W0 N1 g cs v9 L9 vf F v10 L10 W.drew := ⟨Below.drew h.b, h.n0, h.n1, h.box, h.all, h.done, h.row, h.far, h.ne⟩
theorem jw_of {W : World} {f : Nat} {args : Array Value} {y : Value} (h : Jw W0 N1 g cs v9 L9 vf F v10 L10 W) (k : Calls Try.prog f args W fun e w' => e = .returned y ∧ Below W.heap.size W w') :
    Calls Try.prog f args W fun e w' => e = .returned y ∧ Jw W0 N1 g cs v9 L9 vf F v10 L10 w' := k.mono fun _ _ ⟨x, z⟩ => ⟨x, h.below z⟩
theorem Jw.app9 {W w5 : World} {n cap g5 : Nat} {news : List Value} {ts : List Tm} (h : Jw W0 N1 g cs v9 L9 vf F v10 L10 W) (hn : n = L9.length + 1) (hw : news = ts.flatMap c4)
    (hown : w5.ownsRow W0.heap.size 34 12 (.slice (some ⟨g5, 0, none⟩) n cap) n (cellsD L9 ++ news)) (hg : W.grownBy w5 v9.ownBlock) (hloc : v9.ownBlock = some g5 ∨ g5 = W.heap.size) :
    Jw W0 N1 g cs (.slice (some ⟨g5, 0, none⟩) n cap) (L9 ++ [ts]) vf F v10 L10 w5 := by
  subst hw
  refine ⟨h.b.grown hg h.b.size (fun j hj => (World.ownsRow.lt h.all j hj).1), h.n0, Nat.le_trans h.n1 hg.size, (hg.block g h.box.lt (fun e => h.ne e.symm)).trans h.box, ?_,
    World.ownsRow.kept h.done hg (rows_apart h.done h.all types_ne), World.ownsRow.kept h.row hg (rows_apart h.row h.all types_ne), h.far, ?_⟩
  · unfold DtV
    rw [cellsD_snoc, List.length_append]
    subst hn
    exact hown
  · intro e
    have e' : some g5 = some g := e
    rcases hloc with hl | hl
    · exact h.ne (by rw [hl, e'])
    · have := h.box.lt
      have := Option.some.inj e'
      omega
theorem Jw.app10 {W w5 : World} {n cap g5 : Nat} {news : List Value} {ts : List Tm} (h : Jw W0 N1 g cs v9 L9 vf F v10 L10 W) (hn : n = L10.length + 1) (hw : news = ts.map Tm.val)
    (hown : w5.ownsRow N1 57 3 (.slice (some ⟨g5, 0, none⟩) n cap) n (cellsT L10 ++ news)) (hg : W.grownBy w5 v10.ownBlock) :
    Jw W0 N1 g cs v9 L9 vf F (.slice (some ⟨g5, 0, none⟩) n cap) (L10 ++ [ts]) w5 := by
  subst hw
  have hne : vf.ownBlock = none ∨ vf.ownBlock ≠ v10.ownBlock := by
    cases hv : vf.ownBlock with
    | none => exact .inl rfl
    | some k =>
      right
      intro e
      have h1 := h.far k hv
      have h2 := (World.ownsRow.lt h.row k e.symm).1
      omega
  refine ⟨h.b.grown hg h.b.size (fun j hj => Nat.le_trans h.n0 (World.ownsRow.lt h.row j hj).1), h.n0, Nat.le_trans h.n1 hg.size, (hg.block g h.box.lt (fun e => row_box h.row h.box types_ne e.symm)).trans h.box,
    World.ownsRow.kept h.all hg (rows_apart h.all h.row types_ne.symm), World.ownsRow.kept h.done hg hne, ?_, h.far, h.ne⟩
  unfold TrsV
  rw [cellsT_snoc, List.length_append]
  subst hn
  exact hown
end
end Go.Proofs.Ytpnfjjgihkmjmaa

/-
  DictTwice's walk. (Out of dtwice.py.)
-/
namespace Go.Proofs.Ytpnfjjgihkmjmaa
open Go.RowKit
set_option linter.unusedVariables false
set_option linter.unusedSimpArgs false
set_option maxRecDepth 100000

theorem d_ne_dict : 30 ≠ 89 := by decide
theorem d_ne_term : 30 ≠ 41 := by decide
theorem Dc.setD {B d m : Nat} {room : Int} {v : Value} {L : List Tm} {W : World} (h : Dc B d m room v L W) {g : Nat} {cs : Array Value} (hg : Fb W g 30 cs) (i : Nat) (x : Value) : Dc B d m room v L (W.setCell ⟨g, i, none⟩ x) := by
  have hne : ∀ k cs t fr, W.heap[k]? = some (.cells cs t fr) → t ≠ 30 → k ≠ g := fun k cs t fr hk ht e => by
    unfold Fb at hg
    rw [← e, hk] at hg
    injection hg with hg
    injection hg with _ hg
    exact ht hg
  refine ⟨(Below.heap_setCell _ _ _ _ (hne d _ _ _ h.st d_ne_dict.symm)).trans h.st, h.row.kept (d_grown_set W g i x) ?_, h.mp.of (Below.heap_setCell _ _ _ _ (h.mp.ne hg).symm), h.gd, h.gm, h.ks, h.nd⟩
  cases hv : v.ownBlock with
  | none => exact .inl rfl
  | some k =>
    right
    obtain ⟨cur, hc⟩ := h.row_block hv
    exact fun e => hne k _ _ _ hc d_ne_term.symm (Option.some.inj e)
/-- What a pass has behind i terms. -/
noncomputable def dkk (ts : List Tm) (n k i : Nat) : List Tm := if k = 0 then dicts 50 ts i else dicts 50 ts n
theorem dkk_len (ts : List Tm) {n k i : Nat} (hi : i ≤ n) : (dkk ts n k i).length ≤ n := by
  unfold dkk
  split
  · exact Nat.le_trans (dicts_len 50 ts i) hi
  · exact dicts_len 50 ts n
theorem dkk_step (ts : List Tm) {n k i : Nat} (hi : i < n) (hn : n ≤ 50) {t : Tm} (ht : ts[i]? = some t) : (putP 50 (dkk ts n k i) t).1 = dkk ts n k (i + 1) := by
  unfold dkk
  split
  · exact (dicts_some 50 ht).symm
  · have h := again_step 50 ts hi (by omega) ht (dicts 50 ts n).length
    rw [List.take_of_length_le (Nat.le_max_left _ _), List.take_of_length_le (Nat.le_max_left _ _)] at h
    rw [h]
def Gok (L : List Tm) : Prop := ∀ t ∈ L, goodT t = true ∧ t.few
theorem Gok.put {L : List Tm} (h : Gok L) {t : Tm} (ht : t.few) (room : Int) : Gok (putP room L t).1 := by
  unfold putP
  by_cases hg : goodT t = true
  · rw [if_pos hg]
    unfold putG
    split
    · exact h
    · split
      · exact h
      · intro x hx
        rcases List.mem_append.1 hx with hx | hx
        · exact h x hx
        · rw [List.mem_singleton.1 hx]; exact ⟨hg, ht⟩
  · rw [if_neg hg]; exact h
structure Tk (W0 : World) (d m g5 : Nat) (v : Value) (L : List Tm) (u : Value) (W : World) : Prop where
  b : Below W0.heap.size W0 W
  dc : Dc W0.heap.size d m 50 v L W
  dl : DtL W0.heap.size W u L
  x5 : Fb W g5 30 #[.int .i64 50, u]
  n5 : W0.heap.size ≤ g5
  gd : Gok L
section
variable {W0 : World} {d m g5 : Nat} {v : Value} {L : List Tm} {u : Value}
theorem Tk.below {W W' : World} (h : Tk W0 d m g5 v L u W) (hb : Below W.heap.size W W') : Tk W0 d m g5 v L u W' := ⟨h.b.trans (hb.mono h.b.size), h.dc.below hb, h.dl.below hb, h.x5.below hb, h.n5, h.gd⟩
theorem Tk.cells {W : World} (h : Tk W0 d m g5 v L u W) : W.cell? ⟨g5, 0, none⟩ = some (.int .i64 50) ∧ W.cell? ⟨g5, 1, none⟩ = some u := ⟨h.x5.cell 0, h.x5.cell 1⟩
structure Tw (W0 : World) (d m g5 : Nat) (v : Value) (L : List Tm) (u : Value) (g : Nat) (k : Int) (a b c : ByteArray) (W : World) : Prop where
  tk : Tk W0 d m g5 v L u W
  box : Fb W g 32 #[.int .i64 k, .string a, .string b, .string c]
variable {g : Nat} {k : Int} {a b c : ByteArray}
theorem Tw.below {W W' : World} (h : Tw W0 d m g5 v L u g k a b c W) (hb : Below W.heap.size W W') : Tw W0 d m g5 v L u g k a b c W' := ⟨h.tk.below hb, h.box.below hb⟩
theorem Tw.mk' {W : World} (h : Tk W0 d m g5 v L u W) (k : Int) (a b c : ByteArray) : Tw W0 d m g5 v L u W.heap.size k a b c (W.alloc (.cells #[.int .i64 k, .string a, .string b, .string c] 32)) := ⟨h.below ((Below.refl _ _).alloc (Nat.le_refl _) _), Fb.new _ _ _⟩
theorem Tw.cells {W : World} (h : Tw W0 d m g5 v L u g k a b c W) : W.cell? ⟨g, 0, none⟩ = some (.int .i64 k) ∧ W.cell? ⟨g, 1, none⟩ = some (.string a) ∧ W.cell? ⟨g, 2, none⟩ = some (.string b) ∧ W.cell? ⟨g, 3, none⟩ = some (.string c) ∧ W.cell? ⟨g5, 0, none⟩ = some (.int .i64 50) ∧ W.cell? ⟨g5, 1, none⟩ = some u := ⟨h.box.cell 0, h.box.cell 1, h.box.cell 2, h.box.cell 3, h.tk.x5.cell 0, h.tk.x5.cell 1⟩
/-- Behind the document's Put. -/
structure Ty (W0 : World) (d m g5 : Nat) (v : Value) (L : List Tm) (u : Value) (g : Nat) (k : Int) (a b c : ByteArray) (g10 : Nat) (L' : List Tm) (u' : Value) (W : World) : Prop where
  tw : Tw W0 d m g5 v L u g k a b c W
  dl' : DtL W0.heap.size W u' L'
  x10 : Fb W g10 30 #[.int .i64 50, u']
  ne : g5 ≠ g10
variable {g10 : Nat} {L' : List Tm} {u' : Value}
theorem Ty.below {W W' : World} (h : Ty W0 d m g5 v L u g k a b c g10 L' u' W) (hb : Below W.heap.size W W') : Ty W0 d m g5 v L u g k a b c g10 L' u' W' := ⟨h.tw.below hb, h.dl'.below hb, h.x10.below hb, h.ne⟩
theorem Ty.mk' {W : World} (h : Tw W0 d m g5 v L u g k a b c W) (hd : DtL W0.heap.size W u' L') : Ty W0 d m g5 v L u g k a b c W.heap.size L' u' (W.alloc (.cells #[.int .i64 50, u'] 30)) :=
  ⟨h.below ((Below.refl _ _).alloc (Nat.le_refl _) _), hd.below ((Below.refl _ _).alloc (Nat.le_refl _) _), Fb.new _ _ _, Nat.ne_of_lt h.tk.x5.lt⟩
structure Tz (W0 : World) (d m g5 : Nat) (v : Value) (u : Value) (g10 : Nat) (L' : List Tm) (u' : Value) (W : World) : Prop where
  b : Below W0.heap.size W0 W
  dc : Dc W0.heap.size d m 50 v L' W
  dl : DtL W0.heap.size W u' L'
  x5 : Fb W g5 30 #[.int .i64 50, u]
  x10 : Fb W g10 30 #[.int .i64 50, u']
  n5 : W0.heap.size ≤ g5
  gd : Gok L'
theorem Ty.turn {W W' : World} {v' : Value} (h : Ty W0 d m g5 v L u g k a b c g10 L' u' W) (hd : Dc W0.heap.size d m 50 v' L' W') (ht : Tn d m v v' W W') (hg : Gok L') : Tz W0 d m g5 v' u g10 L' u' W' :=
  ⟨ht.below h.tw.tk.dc h.tw.tk.b, hd, ht.row h.tw.tk.dc h.dl' t_ne_dict t_ne_term, ht.fb h.tw.tk.dc h.tw.tk.x5 d_ne_dict d_ne_term, ht.fb h.tw.tk.dc h.x10 d_ne_dict d_ne_term, h.tw.tk.n5, hg⟩
theorem Tz.cells {W : World} (h : Tz W0 d m g5 v u g10 L' u' W) : W.cell? ⟨g5, 0, none⟩ = some (.int .i64 50) ∧ W.cell? ⟨g5, 1, none⟩ = some u ∧ W.cell? ⟨g10, 0, none⟩ = some (.int .i64 50) ∧ W.cell? ⟨g10, 1, none⟩ = some u' ∧ W.frozen? ⟨g5, 0, none⟩ = false ∧ W.frozen? ⟨g5, 1, none⟩ = false ∧ g5 < W.heap.size := ⟨h.x5.cell 0, h.x5.cell 1, h.x10.cell 0, h.x10.cell 1, d_free h.x5 0, d_free h.x5 1, h.x5.lt⟩
theorem Tz.fin {W : World} (h : Tz W0 d m g5 v u g10 L' u' W) : Tk W0 d m g5 v L' u' ((W.setCell ⟨g5, 0, none⟩ (.int .i64 50)).setCell ⟨g5, 1, none⟩ u') := by
  have h5 : Fb (W.setCell ⟨g5, 0, none⟩ (.int .i64 50)) g5 30 #[.int .i64 50, u] := heap_setCell_same W g5 0 _ _ _ h.x5
  have h6 : Fb ((W.setCell ⟨g5, 0, none⟩ (.int .i64 50)).setCell ⟨g5, 1, none⟩ u') g5 30 #[.int .i64 50, u'] := heap_setCell_same _ g5 1 _ _ _ h5
  exact ⟨Below.setCell (Below.setCell h.b h.n5 _) h.n5 _, (h.dc.setD h.x5 _ _).setD h5 _ _, (h.dl.setc h.x5 _).setc h5 _, h6, h.n5, h.gd⟩
theorem Tk.drew {W : World} (h : Tk W0 d m g5 v L u W) : Tk W0 d m g5 v L u W.drew := ⟨Below.drew h.b, h.dc.drew, h.dl, h.x5, h.n5, h.gd⟩
end
def Ti (W0 : World) (d m g5 : Nat) (ts : List Tm) (n k : Nat) (g : Nat) (s34 : Value) (wr : World) : Prop :=
  ∃ (i : Nat) (v u : Value), i + g = n ∧ s34 = .int .i64 i ∧ Tk W0 d m g5 v (dkk ts n k i) u wr
def T0 (W0 : World) (d m g5 : Nat) (ts : List Tm) (n : Nat) (g : Nat) (s6 : Value) (wr : World) : Prop :=
  (g = 2 ∧ s6 = .int .i64 0 ∧ ∃ v u, Tk W0 d m g5 v (dkk ts n 0 0) u wr) ∨
  (g = 1 ∧ s6 = .int .i64 1 ∧ ∃ v u, Tk W0 d m g5 v (dkk ts n 1 0) u wr) ∨
  (g = 0 ∧ s6 = .int .i64 2 ∧ ∃ v u, Tk W0 d m g5 v (dkk ts n 2 0) u wr)
set_option maxHeartbeats 32000000 in
theorem dtwice_walk (l : List Dw) (hl : ∀ t ∈ l, t.ok) (A : Option Addr) (cap : Nat) (hc : l.length ≤ cap) (hm : cap ≤ maxLen) (w : World) (hs : SlAt w A 4 (l.map Dw.cells)) :
    Calls Try.prog 5 #[.slice A l.length cap] w fun e w' => e = .returned (.bool true) ∧ Below w.heap.size w w' := by
  have cA : ∀ {W : World}, Below w.heap.size w W → Calls Try.prog 8 #[] W fun e w' => e = .returned (.bool true) ∧ Below w.heap.size w w' := fun {W} hb => (dawake_ok W).mono fun _ _ ⟨x, y⟩ => ⟨x, hb.trans (y.mono hb.size)⟩
  have hB0 : Below w.heap.size w w := Below.refl _ _
  by_cases hz : 40 < l.length
  · have hzI : (40 : Int) < (l.length : Int) := by omega
    clear hz hl hc hm hs
    go_enter Try.func5, Try.ntmps5
    go_wp2_with (first
      | (go_at_call 8; (with_reducible refine (cA hB0).mono ?_); rintro e w1 ⟨rfl, hB1⟩)
      | (go_at_call 8; (with_reducible refine (cA hB1).mono ?_); rintro e w2 ⟨rfl, hB2⟩))
    go_ret
    exact ⟨rfl, by assumption⟩
  have hzI : ¬ (40 : Int) < (l.length : Int) := by omega
  obtain ⟨ts, hts⟩ : ∃ ts, ts = plL l := ⟨_, rfl⟩
  obtain ⟨n, hn⟩ : ∃ n, n = l.length := ⟨_, rfl⟩
  have hn40 : n ≤ 40 := by omega
  have hel : ∀ i, i < n → ∃ k a b c, (-9223372036854775808 ≤ k ∧ k ≤ 9223372036854775807) ∧ ts[i]? = some (pl3 k a b c) ∧ (shortD a b c = true → (pl3 k a b c).few) ∧ ∀ {W : World}, Below w.heap.size w W → ∃ g o, A = some ⟨g, o, none⟩ ∧ W.cell? ⟨g, o + i * 4, none⟩ = some (.int .i64 k) ∧ W.cell? ⟨g, o + i * 4 + 1, none⟩ = some (.string a) ∧ W.cell? ⟨g, o + i * 4 + 2, none⟩ = some (.string b) ∧ W.cell? ⟨g, o + i * 4 + 3, none⟩ = some (.string c) := fun i hi => by
    obtain ⟨r, hr⟩ : ∃ r, l[i]? = some r := ⟨_, List.getElem?_eq_getElem (by omega)⟩
    exact ⟨r.k, r.a, r.b, r.c, (hl r (List.mem_of_getElem? hr)).1, by rw [hts]; exact plL_at hr, short_few, fun {W} hb => sl_at4 (hs.below hb) hr⟩
  have cN := fun W => dnew_ok 50 (by decide) (by decide) W
  rw [← hn] at hzI ⊢
  have HEL := Lib.hid hel
  have HN := Lib.hid hn40
  clear hz hl hc hm hs hel hn40 hts hn
  go_enter Try.func5, Try.ntmps5
  go_wp2_with (first
    | (go_at_call 8; (with_reducible refine (cA hB0).mono ?_); rintro e w1 ⟨rfl, hB1⟩)
    | (go_at_call 9; (with_reducible refine (cN _).mono ?_); rintro e w2 ⟨d, m, rfl, hD2, hb2⟩))
  have HB1 := Lib.hid hB1
  have hT2 : Tk w1 d m w2.heap.size (.slice none 0 0) (dkk ts n 0 0) (.slice none 0 0) (w2.alloc (.cells #[.int .i64 50, .slice none 0 0] 30)) := by
    have hk0 : dkk ts n 0 0 = [] := by unfold dkk; rw [if_pos rfl]; rfl
    rw [hk0]
    exact ⟨hb2.alloc hb2.size _, hD2.alloc _, dtL_nil _ _, Fb.new _ _ _, hb2.size, fun t h => absurd h (List.not_mem_nil)⟩
  have hstart : T0 w1 d m w2.heap.size ts n 2 (.int .i64 0) (w2.alloc (.cells #[.int .i64 50, .slice none 0 0] 30)) := .inl ⟨rfl, rfl, _, _, hT2⟩
  have HST := Lib.hid hstart
  clear hB0 hB1 hD2 hb2 cA cN hstart hT2
  go_loopg [6] 2 (fun g s6 wr => T0 w1 d m w2.heap.size ts n g s6 wr)
  case atStart => exact HST.out
  case round =>
    clear HST
    rcases hrel with ⟨rfl, rfl, v, u, hK⟩ | ⟨rfl, rfl, v, u, hK⟩ | ⟨rfl, rfl, v, u, hK⟩
    · have HK0 := Lib.hid hK
      clear hK
      go_wp2
      go_loopg [34] n (fun g s34 wr => Ti w1 d m w2.heap.size ts n 0 g s34 wr)
      case atStart => exact ⟨0, v, u, by omega, rfl, HK0.out⟩
      case round =>
        clear HK0
        obtain ⟨i, v5, u5, hig, rfl, hK5⟩ := hrel
        cases gk with
        | zero =>
          obtain rfl : i = n := by omega
          have hin : ¬ (i : Int) < (i : Int) := by omega
          have HK5 := Lib.hid hK5
          clear hK5 hig
          go_wp2
          go_roundg 1
          case measure => exact (by decide : 1 < 1 + 1)
          case rel => exact .inr (.inl ⟨rfl, rfl, _, _, HK5.out⟩)
        | succ g =>
          have hin : (i : Int) < (n : Int) := by omega
          have hiz : (0 : Int) ≤ (i : Int) := by omega
          obtain ⟨k, a, b, c, hkb, hti, hfew, hcell⟩ := HEL.out i (by omega)
          obtain ⟨gg, og, rfl, q0, q1, q2, q3⟩ := hcell (HB1.out.trans (hK5.b.mono HB1.out.size))
          obtain ⟨A5, c5, rfl⟩ := hK5.dl.shape
          have hC0 := Tw.mk' hK5 k a b c
          have cS := dshort_any k a b c
          have hi9 : i < 40 := by have := HN.out; omega
          obtain ⟨x0, x1, x2, x3, x4, x5⟩ := hC0.cells
          cases hsh : shortD a b c with
          | false =>
            rw [hsh] at cS
            clear hcell hfew hti hkb hsh
            go_wp2_with (go_at_call 10; (with_reducible refine (cS _).mono ?_); rintro e w6 ⟨rfl, hb6⟩)
            (try rw [Exit.noGoto_ret])
            go_ret
            exact ⟨rfl, HB1.out.trans ((hC0.below hb6).tk.b.mono HB1.out.size)⟩
          | true =>
            rw [hsh] at cS
            have cPl := plain3_any k hkb a b c
            have cR := pl3_real k a b c
            have hfw := hfew hsh
            have hkd := pl3_kind k a b c
            have hlen := dkk_len ts (n := n) (k := 0) (i := i) (by omega)
            have hstp := dkk_step ts (n := n) (k := 0) (i := i) (by omega) (by have := HN.out; omega) hti
            have hgd := hK5.gd.put hfw 50
            have hl5 : (dkk ts n 0 i).length ≤ 100000 := by have := HN.out; omega
            have cPu : ∀ {W : World} {v : Value}, w1.heap.size ≤ W.heap.size → Dc w1.heap.size d m 50 v (dkk ts n 0 i) W → Calls Try.prog 14 #[.pointer (some ⟨d, 0, none⟩), (pl3 k a b c).val] W (PutPost w1.heap.size d m 50 v W (putP 50 (dkk ts n 0 i) (pl3 k a b c))) := fun {W v} hb h => dput_any h hb hl5 _ hfw
            have cU : ∀ {W : World} {u : Value}, w1.heap.size ≤ W.heap.size → DtL w1.heap.size W u (dkk ts n 0 i) → Calls Try.prog 13 #[.agg #[.int .i64 50, u], T4 (pl3 k a b c)] W (EPutPost w1.heap.size W 50 (putP 50 (dkk ts n 0 i) (pl3 k a b c))) := fun {W u} hb h => eput_any h hb hK5.dc.ks hl5 50 _ hkd hfw
            have hst : ∀ (v u : Value) (s : Value) (W : World), s = .int .i64 ((i + 1 : Nat) : Int) → Tk w1 d m w2.heap.size v (putP 50 (dkk ts n 0 i) (pl3 k a b c)).1 u W → Ti w1 d m w2.heap.size ts n 0 g s W := fun v u s W hs h => by
              rw [hstp] at h
              exact ⟨i + 1, v, u, by omega, hs, h⟩
            unfold T4 at cPl cR cU
            generalize putP 50 (dkk ts n 0 i) (pl3 k a b c) = r at cPu cU hst hgd
            obtain ⟨r1, r2, r3⟩ := r
            dsimp only at hst hgd
            unfold PutPost at cPu
            unfold EPutPost at cU
            dsimp only at cPu cU
            have HSTP := Lib.hid hst
            generalize (pl3 k a b c).val = tv at cR cPu
            generalize (pl3 k a b c).kind = tk at *
            generalize (pl3 k a b c).ta = ta at *
            generalize (pl3 k a b c).tb = tb at *
            generalize (pl3 k a b c).tc = tc at *
            generalize dkk ts n 0 i = D at *
            have HGD := Lib.hid hgd
            have h22 : ((r2 : Int) != r2) = false := by simp
            have h33 : ((r3 : Int) != r3) = false := by simp
            clear hcell hfew hti hkb hsh hfw hst hig hkd hlen hstp hl5 hgd x4 x5
            go_wp2_with (first
              | (go_at_call 10; (with_reducible refine (cS _).mono ?_); rintro e w6 ⟨rfl, hb6⟩; have hC6 := hC0.below hb6; obtain ⟨x0, x1, x2, x3, x4, x5⟩ := hC6.cells)
              | (go_at_call 11; (with_reducible refine (cPl _).mono ?_); rintro e w7 ⟨rfl, hb7⟩; have hC8 := Tw.mk' (hC6.below hb7).tk tk ta tb tc; obtain ⟨z0, z1, z2, z3, z4, z5⟩ := hC8.cells)
              | (go_at_call 13; (with_reducible refine (cU hC8.tk.b.size hC8.tk.dl).mono ?_); rintro e w9 ⟨u9, rfl, hdl9, hb9⟩; obtain ⟨A9, c9, rfl⟩ := hdl9.shape; have hC10 := Ty.mk' (hC8.below hb9) hdl9; obtain ⟨y0, y1, y2, y3, y4, y5⟩ := hC10.tw.cells)
              | (go_at_call 12; (with_reducible refine (cR _).mono ?_); rintro e w11 ⟨rfl, hb11⟩; have hC11 := hC10.below hb11)
              | (go_at_call 14; (with_reducible refine (cPu hC11.tw.tk.b.size hC11.tw.tk.dc).mono ?_); rintro e w12 ⟨v12, rfl, hD12, hT12⟩; have hC12 := hC11.turn hD12 hT12 HGD.out; obtain ⟨j0, j1, j2, j3, j4, j5, j6⟩ := hC12.cells))
            go_roundg g
            case measure => exact Nat.lt_succ_self g
            case rel => exact HSTP.out _ _ _ _ (by first | rfl | (rw [IntWalk.wrap64_in _ ⟨by omega, by omega⟩, Int.natCast_succ])) (by first | exact hC12.fin | exact Tk.drew hC12.fin)
    · have HK0 := Lib.hid hK
      clear hK
      go_wp2
      go_loopg [34] n (fun g s34 wr => Ti w1 d m w2.heap.size ts n 1 g s34 wr)
      case atStart => exact ⟨0, v, u, by omega, rfl, HK0.out⟩
      case round =>
        clear HK0
        obtain ⟨i, v5, u5, hig, rfl, hK5⟩ := hrel
        cases gk with
        | zero =>
          obtain rfl : i = n := by omega
          have hin : ¬ (i : Int) < (i : Int) := by omega
          have HK5 := Lib.hid hK5
          clear hK5 hig
          go_wp2
          go_roundg 0
          case measure => exact (by decide : 0 < 0 + 1)
          case rel => exact .inr (.inr ⟨rfl, rfl, _, _, HK5.out⟩)
        | succ g =>
          have hin : (i : Int) < (n : Int) := by omega
          have hiz : (0 : Int) ≤ (i : Int) := by omega
          obtain ⟨k, a, b, c, hkb, hti, hfew, hcell⟩ := HEL.out i (by omega)
          obtain ⟨gg, og, rfl, q0, q1, q2, q3⟩ := hcell (HB1.out.trans (hK5.b.mono HB1.out.size))
          obtain ⟨A5, c5, rfl⟩ := hK5.dl.shape
          have hC0 := Tw.mk' hK5 k a b c
          have cS := dshort_any k a b c
          have hi9 : i < 40 := by have := HN.out; omega
          obtain ⟨x0, x1, x2, x3, x4, x5⟩ := hC0.cells
          cases hsh : shortD a b c with
          | false =>
            rw [hsh] at cS
            clear hcell hfew hti hkb hsh
            go_wp2_with (go_at_call 10; (with_reducible refine (cS _).mono ?_); rintro e w6 ⟨rfl, hb6⟩)
            (try rw [Exit.noGoto_ret])
            go_ret
            exact ⟨rfl, HB1.out.trans ((hC0.below hb6).tk.b.mono HB1.out.size)⟩
          | true =>
            rw [hsh] at cS
            have cPl := plain3_any k hkb a b c
            have cR := pl3_real k a b c
            have hfw := hfew hsh
            have hkd := pl3_kind k a b c
            have hlen := dkk_len ts (n := n) (k := 1) (i := i) (by omega)
            have hstp := dkk_step ts (n := n) (k := 1) (i := i) (by omega) (by have := HN.out; omega) hti
            have hgd := hK5.gd.put hfw 50
            have hl5 : (dkk ts n 1 i).length ≤ 100000 := by have := HN.out; omega
            have cPu : ∀ {W : World} {v : Value}, w1.heap.size ≤ W.heap.size → Dc w1.heap.size d m 50 v (dkk ts n 1 i) W → Calls Try.prog 14 #[.pointer (some ⟨d, 0, none⟩), (pl3 k a b c).val] W (PutPost w1.heap.size d m 50 v W (putP 50 (dkk ts n 1 i) (pl3 k a b c))) := fun {W v} hb h => dput_any h hb hl5 _ hfw
            have cU : ∀ {W : World} {u : Value}, w1.heap.size ≤ W.heap.size → DtL w1.heap.size W u (dkk ts n 1 i) → Calls Try.prog 13 #[.agg #[.int .i64 50, u], T4 (pl3 k a b c)] W (EPutPost w1.heap.size W 50 (putP 50 (dkk ts n 1 i) (pl3 k a b c))) := fun {W u} hb h => eput_any h hb hK5.dc.ks hl5 50 _ hkd hfw
            have hst : ∀ (v u : Value) (s : Value) (W : World), s = .int .i64 ((i + 1 : Nat) : Int) → Tk w1 d m w2.heap.size v (putP 50 (dkk ts n 1 i) (pl3 k a b c)).1 u W → Ti w1 d m w2.heap.size ts n 1 g s W := fun v u s W hs h => by
              rw [hstp] at h
              exact ⟨i + 1, v, u, by omega, hs, h⟩
            have hsame : (((putP 50 (dkk ts n 1 i) (pl3 k a b c)).1.length : Int) != ((dkk ts n 1 i).length : Int)) = false := by rw [hstp]; simp [dkk]
            unfold T4 at cPl cR cU
            generalize putP 50 (dkk ts n 1 i) (pl3 k a b c) = r at cPu cU hst hgd hsame
            obtain ⟨r1, r2, r3⟩ := r
            dsimp only at hst hgd hsame
            unfold PutPost at cPu
            unfold EPutPost at cU
            dsimp only at cPu cU
            have HSTP := Lib.hid hst
            generalize (pl3 k a b c).val = tv at cR cPu
            generalize (pl3 k a b c).kind = tk at *
            generalize (pl3 k a b c).ta = ta at *
            generalize (pl3 k a b c).tb = tb at *
            generalize (pl3 k a b c).tc = tc at *
            generalize dkk ts n 1 i = D at *
            have HGD := Lib.hid hgd
            have h22 : ((r2 : Int) != r2) = false := by simp
            have h33 : ((r3 : Int) != r3) = false := by simp
            clear hcell hfew hti hkb hsh hfw hst hig hkd hlen hstp hl5 hgd x4 x5
            go_wp2_with (first
              | (go_at_call 10; (with_reducible refine (cS _).mono ?_); rintro e w6 ⟨rfl, hb6⟩; have hC6 := hC0.below hb6; obtain ⟨x0, x1, x2, x3, x4, x5⟩ := hC6.cells)
              | (go_at_call 11; (with_reducible refine (cPl _).mono ?_); rintro e w7 ⟨rfl, hb7⟩; have hC8 := Tw.mk' (hC6.below hb7).tk tk ta tb tc; obtain ⟨z0, z1, z2, z3, z4, z5⟩ := hC8.cells)
              | (go_at_call 13; (with_reducible refine (cU hC8.tk.b.size hC8.tk.dl).mono ?_); rintro e w9 ⟨u9, rfl, hdl9, hb9⟩; obtain ⟨A9, c9, rfl⟩ := hdl9.shape; have hC10 := Ty.mk' (hC8.below hb9) hdl9; obtain ⟨y0, y1, y2, y3, y4, y5⟩ := hC10.tw.cells)
              | (go_at_call 12; (with_reducible refine (cR _).mono ?_); rintro e w11 ⟨rfl, hb11⟩; have hC11 := hC10.below hb11)
              | (go_at_call 14; (with_reducible refine (cPu hC11.tw.tk.b.size hC11.tw.tk.dc).mono ?_); rintro e w12 ⟨v12, rfl, hD12, hT12⟩; have hC12 := hC11.turn hD12 hT12 HGD.out; obtain ⟨j0, j1, j2, j3, j4, j5, j6⟩ := hC12.cells))
            go_roundg g
            case measure => exact Nat.lt_succ_self g
            case rel => exact HSTP.out _ _ _ _ (by first | rfl | (rw [IntWalk.wrap64_in _ ⟨by omega, by omega⟩, Int.natCast_succ])) (by first | exact hC12.fin | exact Tk.drew hC12.fin)
    · have hD := hK.dc
      have hlen : (dkk ts n 2 0).length ≤ 100000 := by have := dkk_len ts (n := n) (k := 2) (i := 0) (Nat.zero_le _); have := HN.out; omega
      have cI := fun {W : World} (h : Tk w1 d m w2.heap.size v (dkk ts n 2 0) u W) => dis_any h.dc h.dl (fun t ht => (h.gd t ht).1) (fun t ht => (h.gd t ht).2) hlen 50
      obtain ⟨A5, c5, rfl⟩ := hK.dl.shape
      obtain ⟨p0, p1⟩ := hK.cells
      generalize dkk ts n 2 0 = D at *
      clear hlen hD
      go_wp2_with (go_at_call 27; (with_reducible refine (cI hK).mono ?_); rintro e w6 ⟨rfl, hb6⟩)
      (try rw [Exit.noGoto_ret])
      go_ret
      exact ⟨rfl, HB1.out.trans ((hK.below hb6).b.mono HB1.out.size)⟩
end Go.Proofs.Ytpnfjjgihkmjmaa
