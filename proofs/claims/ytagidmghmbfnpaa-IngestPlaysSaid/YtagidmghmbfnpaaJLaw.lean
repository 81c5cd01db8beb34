/-
  THE LAW's RELATION: the buffer beside the document's; what a round does to both.
-/
import Derived.Test.YtagidmghmbfnpaaJIs
import Derived.Test.YtagidmghmbfnpaaJTakeW
import Derived.Test.YtagidmghmbfnpaaJPush
namespace Go.Proofs.Ytagidmghmbfnpaa
open Go.RowKit
set_option linter.unusedVariables false
set_option linter.unusedSimpArgs false
set_option maxRecDepth 100000

theorem ord_uniq : ∀ {l k : List It}, l.Perm k → Ord l → Ord k → (∀ x ∈ l, ∀ y ∈ l, x.t = y.t → x.s = y.s → x = y) → l = k
  | [], k, hp, _, _, _ => (List.Perm.nil_eq hp)
  | x :: l, [], hp, _, _, _ => absurd hp.length_eq (by simp)
  | x :: l, y :: k, hp, h1, h2, hd => by
    have hx : x ∈ y :: k := hp.mem_iff.1 List.mem_cons_self
    have hy : y ∈ x :: l := hp.mem_iff.2 List.mem_cons_self
    have e1 : LeI x y := by
      rcases List.mem_cons.1 hy with rfl | hy
      · exact LeI.refl _
      · exact (List.pairwise_cons.1 h1).1 y hy
    have e2 : LeI y x := by
      rcases List.mem_cons.1 hx with rfl | hx
      · exact LeI.refl _
      · exact (List.pairwise_cons.1 h2).1 x hx
    have e : x = y := hd x List.mem_cons_self y hy (by unfold LeI at *; omega) (by unfold LeI at *; omega)
    subst e
    rw [ord_uniq (List.Perm.cons_inv hp) (List.pairwise_cons.1 h1).2 (List.pairwise_cons.1 h2).2 fun a ha b hb => hd a (List.mem_cons_of_mem _ ha) b (List.mem_cons_of_mem _ hb)]
theorem takS_ord (p : It → Bool) (l : List It) : Ord (takS p l) := (fold_ins _ [] List.Pairwise.nil).1
def Own (l : List It) : Prop := ∀ x ∈ l, ∀ y ∈ l, x.s = y.s → x = y
theorem Own.perm {l k : List It} (h : Own l) (hp : k.Perm l) : Own k := fun x hx y hy => h x (hp.mem_iff.1 hx) y (hp.mem_iff.1 hy)
theorem Own.sub {l k : List It} (h : Own l) (hs : ∀ x ∈ k, x ∈ l) : Own k := fun x hx y hy => h x (hs x hx) y (hs y hy)
theorem taken_is {out rest wait : List It} {p : It → Bool} (hp : (out ++ rest).Perm wait) (ho : Ord out) (hw : Own wait) (h1 : ∀ x ∈ out, p x = true) (h2 : ∀ x ∈ rest, p x = false) :
    out = takS p wait ∧ rest.Perm (wait.filter fun x => !p x) := by
  have e1 : (out ++ rest).filter p = out := by
    rw [List.filter_append, List.filter_eq_self.2 h1, List.filter_eq_nil_iff.2 (fun x hx => by rw [h2 x hx]; decide), List.append_nil]
  have e2 : (out ++ rest).filter (fun x => !p x) = rest := by
    rw [List.filter_append, List.filter_eq_nil_iff.2 (fun x hx => by rw [h1 x hx]; decide), List.filter_eq_self.2 (fun x hx => by rw [h2 x hx]; decide), List.nil_append]
  have p1 := hp.filter p
  have p2 := hp.filter (fun x => !p x)
  rw [e1] at p1
  rw [e2] at p2
  refine ⟨ord_uniq (p1.trans (takS_perm p wait).symm) ho (takS_ord p wait) fun x hx y hy _ hs => ?_, p2⟩
  exact hw x ((List.mem_filter.1 (p1.mem_iff.1 hx)).1) y ((List.mem_filter.1 (p1.mem_iff.1 hy)).1) hs
def Mx (L : List Int) (x : Int) : Prop := x ∈ L ∧ ∀ y ∈ L, y ≤ x
theorem Mx.one (x : Int) : Mx [x] x := ⟨List.mem_singleton.2 rfl, fun y hy => by rw [List.mem_singleton.1 hy]; exact Int.le_refl _⟩
theorem Mx.uniq {L : List Int} {x y : Int} (h : Mx L x) (k : Mx L y) : x = y := by
  have := h.2 y k.1
  have := k.2 x h.1
  omega
theorem Mx.perm {L K : List Int} {x : Int} (h : Mx L x) (hp : L.Perm K) : Mx K x := ⟨hp.mem_iff.1 h.1, fun y hy => h.2 y (hp.mem_iff.2 hy)⟩
theorem Mx.snoc {L : List Int} {x : Int} (h : Mx L x) (y : Int) : Mx (L ++ [y]) (if y < x then x else y) := by
  split
  · exact ⟨List.mem_append_left _ h.1, fun z hz => by
      rcases List.mem_append.1 hz with hz | hz
      · exact h.2 z hz
      · rw [List.mem_singleton.1 hz]; omega⟩
  · exact ⟨List.mem_append_right _ (List.mem_singleton.2 rfl), fun z hz => by
      rcases List.mem_append.1 hz with hz | hz
      · have := h.2 z hz; omega
      · rw [List.mem_singleton.1 hz]; omega⟩
theorem mx_exL : ∀ l : List Int, l = [] ∨ ∃ z, Mx l z := rev_ind (.inl rfl) fun l y ih => by
  rcases ih with rfl | ⟨z, hz⟩
  · exact .inr ⟨y, Mx.one y⟩
  · exact .inr ⟨_, hz.snoc y⟩
theorem mkM_mxL (lat : Int) : ∀ (l : List Int), ∀ x, Mx l x → mkM lat l = (x - lat, true) := by
  refine rev_ind (fun x h => by cases h.1) fun l y ih x h => ?_
  rw [mkM_snoc]
  rcases mx_exL l with rfl | ⟨z, hz⟩
  · have : x = y := by have := h.1; simpa using this
    subst this
    rw [if_pos (.inl rfl)]
  · rw [ih z hz]
    have hxu := h.uniq (hz.snoc y)
    by_cases e : y < z
    · rw [if_pos e] at hxu
      subst hxu
      rw [if_neg (by simp; omega)]
    · rw [if_neg e] at hxu
      subst hxu
      by_cases e2 : z - lat < x - lat
      · rw [if_pos (.inr e2)]
      · rw [if_neg (by simp; omega)]
        have : z = x := by omega
        rw [this]
structure PlQ (i : Nat) (s : Bs) (l : List It) (m : Mb) : Prop where
  pm : l.Perm m.wait
  own : Own m.wait
  nums : ∀ x ∈ m.wait, x.s < m.num
  wt : ∀ x ∈ m.wait, x.t ≤ 1152921504606846976
  num : m.num = s.next
  n0 : 0 ≤ m.num
  n1 : m.num ≤ i
  lat : m.lat = s.lat
  l0 : 0 ≤ m.lat
  l1 : m.lat ≤ 1152921504606846976
  room : m.room = s.room
  late : m.late = s.late
  t0 : 0 ≤ m.late
  t1 : m.late ≤ i
  closed : m.closed = s.closed
  ts : ∀ x ∈ m.seen ++ m.shown, -1152921504606846976 ≤ x ∧ x ≤ 1152921504606846976
  zs : m.seen.length ≤ i
  zh : m.shown.length ≤ i
  zw : m.wait.length ≤ i
  mq1 : s.mq = true → Mx (m.seen ++ m.shown) s.mt
  mq0 : s.mq = false → m.seen ++ m.shown = []
  m0 : -1152921504606846976 ≤ s.mt
  m1 : s.mt ≤ 1152921504606846976
  ck1 : s.ck = true → Mx m.shown s.ct
  ck0 : s.ck = false → m.shown = []
section
variable {i : Nat} {s : Bs} {l : List It} {m : Mb}
theorem PlQ.mk' (h : PlQ i s l m) : mkM m.lat (m.seen ++ m.shown) = (s.mark, s.mq) := by
  unfold Bs.mark
  cases hq : s.mq with
  | true => rw [mkM_mxL m.lat _ _ (h.mq1 hq), h.lat]; rfl
  | false => rw [h.mq0 hq]; rfl
theorem PlQ.sok (h : PlQ i s l m) (hi : i ≤ 100) : s.ok := ⟨by have := h.l0; rw [h.lat] at this; exact this, by have := h.l1; rw [h.lat] at this; exact this, h.m0, h.m1, by have := h.n0; rw [h.num] at this; exact this, by have := h.n1; rw [h.num] at this; omega, by have := h.t0; rw [h.late] at this; exact this, by have := h.t1; rw [h.late] at this; omega⟩
theorem PlQ.mok (h : PlQ i s l m) (hi : i ≤ 100) : m.ok := ⟨h.l0, h.l1, h.ts, by have := h.zs; omega, by have := h.zh; omega, by have := h.zw; omega⟩
theorem PlQ.ag (h : PlQ i s l m) : Ag s l m := ⟨h.mk', h.pm.length_eq, h.late.symm, h.closed.symm⟩
theorem PlQ.up (h : PlQ i s l m) : PlQ (i + 1) s l m := { h with n1 := by have := h.n1; omega, t1 := by have := h.t1; omega, zs := by have := h.zs; omega, zh := by have := h.zh; omega, zw := by have := h.zw; omega }
theorem PlQ.tl (h : PlQ i s l m) (t : Int) : s.tl t = true ↔ (mkM m.lat (m.seen ++ m.shown)).2 = true ∧ t < (mkM m.lat (m.seen ++ m.shown)).1 := by
  rw [h.mk']
  unfold Bs.tl
  simp
theorem see_mx {L : List Int} {q : Bool} {mt : Int} (h1 : q = true → Mx L mt) (h0 : q = false → L = []) (t : Int) : Mx (L ++ [t]) (if behB q mt t = true then mt else t) := by
  unfold behB
  cases q with
  | true =>
    have := (h1 rfl).snoc t
    by_cases e : t < mt
    · rw [if_pos e] at this
      rw [if_pos (by simp [e])]
      exact this
    · rw [if_neg e] at this
      rw [if_neg (by simp [e])]
      exact this
  | false =>
    rw [h0 rfl, if_neg (by simp)]
    exact Mx.one t
theorem PlQ.push (h : PlQ i s l m) (t k0 k1 k2 : Int) {l' : List It} (hp : l'.Perm (if (s.push l.length t).2 = 0 then l ++ [⟨t, s.next, k0, k1, k2⟩] else l)) :
    (m.push t k0 k1 k2).2 = (s.push l.length t).2 ∧ PlQ (i + 1) (s.push l.length t).1 l' (m.push t k0 k1 k2).1 := by
  unfold Mb.push
  cases hc : s.closed with
  | true =>
    rw [Bs.push_closed hc] at hp ⊢
    rw [if_pos (by rw [h.closed, hc])]
    exact ⟨rfl, { h.up with pm := (show l'.Perm l from hp).trans h.pm }⟩
  | false =>
    have hmc : ¬ m.closed = true := by rw [h.closed, hc]; decide
    rw [if_neg hmc]
    cases hi : instB t with
    | false =>
      rw [Bs.push_range hc hi] at hp ⊢
      rw [if_pos rfl]
      exact ⟨rfl, { h.up with pm := (show l'.Perm l from hp).trans h.pm }⟩
    | true =>
      rw [if_neg (by decide)]
      cases ht : s.tl t with
      | true =>
        rw [Bs.push_late hc hi ht] at hp ⊢
        rw [if_pos ((h.tl t).1 ht)]
        exact ⟨rfl, { h.up with pm := (show l'.Perm l from hp).trans h.pm, late := by show m.late + 1 = s.late + 1; rw [h.late], t0 := by have := h.t0; show 0 ≤ m.late + 1; omega, t1 := by have := h.t1; show m.late + 1 ≤ ((i + 1 : Nat) : Int); omega }⟩
      | false =>
        rw [if_neg (fun e => by rw [(h.tl t).2 e] at ht; cases ht)]
        have hlen := h.pm.length_eq
        by_cases hr : s.room ≤ (l.length : Int)
        · rw [Bs.push_full hc hi ht hr] at hp ⊢
          rw [if_pos (by rw [h.room, ← hlen]; exact hr)]
          exact ⟨rfl, { h.up with pm := (show l'.Perm l from hp).trans h.pm }⟩
        · rw [Bs.push_ok hc hi ht hr] at hp ⊢
          rw [if_neg (by rw [h.room, ← hlen]; exact hr)]
          obtain ⟨i0, i1⟩ := instB_iff.1 hi
          have hp' : l'.Perm (l ++ [⟨t, s.next, k0, k1, k2⟩]) := hp
          have hmx := see_mx h.mq1 h.mq0 t
          refine ⟨rfl, { h.up with pm := ?_, own := ?_, nums := ?_, wt := ?_, num := ?_, n0 := ?_, n1 := ?_, ts := ?_, zs := ?_, zw := ?_, mq1 := ?_, mq0 := ?_, m0 := ?_, m1 := ?_ }⟩
          · rw [h.num]
            exact hp'.trans (h.pm.append_right _)
          · intro x hx y hy e
            rcases List.mem_append.1 hx with hx | hx <;> rcases List.mem_append.1 hy with hy | hy
            · exact h.own x hx y hy e
            · rw [List.mem_singleton.1 hy] at e
              have := h.nums x hx
              have e' : x.s = m.num := e
              omega
            · rw [List.mem_singleton.1 hx] at e
              have := h.nums y hy
              have e' : m.num = y.s := e
              omega
            · rw [List.mem_singleton.1 hx, List.mem_singleton.1 hy]
          · intro x hx
            show x.s < m.num + 1
            rcases List.mem_append.1 hx with hx | hx
            · have := h.nums x hx; omega
            · rw [List.mem_singleton.1 hx]; show m.num < m.num + 1; omega
          · intro x hx
            rcases List.mem_append.1 hx with hx | hx
            · exact h.wt x hx
            · rw [List.mem_singleton.1 hx]; exact i1
          · show m.num + 1 = s.next + 1
            rw [h.num]
          · have := h.n0; show 0 ≤ m.num + 1; omega
          · have := h.n1; show m.num + 1 ≤ ((i + 1 : Nat) : Int); omega
          · intro x hx
            rcases List.mem_append.1 hx with hx | hx
            · rcases List.mem_append.1 hx with hx | hx
              · exact h.ts x (List.mem_append_left _ hx)
              · rw [List.mem_singleton.1 hx]; exact ⟨i0, i1⟩
            · exact h.ts x (List.mem_append_right _ hx)
          · show (m.seen ++ [t]).length ≤ i + 1
            have := h.zs
            rw [List.length_append]; simp; omega
          · show (m.wait ++ [_]).length ≤ i + 1
            have := h.zw
            rw [List.length_append]; simp; omega
          · intro _
            refine hmx.perm ?_
            show ((m.seen ++ m.shown) ++ [t]).Perm ((m.seen ++ [t]) ++ m.shown)
            rw [List.append_assoc, List.append_assoc]
            exact List.perm_append_comm.append_left _
          · intro e; cases e
          · show -1152921504606846976 ≤ (if behB s.mq s.mt t = true then s.mt else t)
            have := h.m0
            split <;> assumption
          · show (if behB s.mq s.mt t = true then s.mt else t) ≤ 1152921504606846976
            have := h.m1
            split <;> assumption
open Classical in
theorem PlQ.tick (h : PlQ i s l m) (t : Int) : (m.tick t).2 = (s.tick t).2 ∧ PlQ (i + 1) (s.tick t).1 l (m.tick t).1 := by
  unfold Mb.tick
  cases hc : s.closed with
  | true =>
    rw [Bs.tick_closed hc, if_pos (by rw [h.closed, hc])]
    exact ⟨rfl, h.up⟩
  | false =>
    have hmc : ¬ m.closed = true := by rw [h.closed, hc]; decide
    rw [if_neg hmc]
    cases hi : instB t with
    | false =>
      rw [Bs.tick_range hc hi, if_pos rfl]
      exact ⟨rfl, h.up⟩
    | true =>
      rw [if_neg (by decide)]
      have hiff : behB s.ck s.ct t = true ↔ ∃ x ∈ m.shown, t < x := by
        unfold behB
        cases hk : s.ck with
        | true =>
          have hx := h.ck1 hk
          simp only [Bool.true_and, decide_eq_true_eq]
          exact ⟨fun e => ⟨s.ct, hx.1, e⟩, fun ⟨x, h1, h2⟩ => by have := hx.2 x h1; omega⟩
        | false => rw [h.ck0 hk]; simp
      cases hb : behB s.ck s.ct t with
      | true =>
        rw [Bs.tick_clock hc hi hb, if_pos (hiff.1 hb)]
        exact ⟨rfl, h.up⟩
      | false =>
        rw [Bs.tick_ok hc hi hb, if_neg (fun e => by rw [hiff.2 e] at hb; cases hb)]
        obtain ⟨i0, i1⟩ := instB_iff.1 hi
        have hmx := see_mx h.mq1 h.mq0 t
        have hcx := see_mx h.ck1 h.ck0 t
        refine ⟨rfl, { h.up with ts := ?_, zh := ?_, mq1 := ?_, mq0 := ?_, m0 := ?_, m1 := ?_, ck1 := ?_, ck0 := ?_ }⟩
        · intro x hx
          rcases List.mem_append.1 hx with hx | hx
          · exact h.ts x (List.mem_append_left _ hx)
          · rcases List.mem_append.1 hx with hx | hx
            · exact h.ts x (List.mem_append_right _ hx)
            · rw [List.mem_singleton.1 hx]; exact ⟨i0, i1⟩
        · show (m.shown ++ [t]).length ≤ i + 1
          have := h.zh
          rw [List.length_append]; simp; omega
        · intro _
          show Mx (m.seen ++ (m.shown ++ [t])) _
          rw [← List.append_assoc]
          exact hmx
        · intro e; cases e
        · show -1152921504606846976 ≤ (if behB s.mq s.mt t = true then s.mt else t)
          have := h.m0
          split <;> assumption
        · show (if behB s.mq s.mt t = true then s.mt else t) ≤ 1152921504606846976
          have := h.m1
          split <;> assumption
        · intro _; exact hcx
        · intro e; cases e
theorem PlQ.take (h : PlQ i s l m) {out rest : List It} (hp : (out ++ rest).Perm l) (ho : Ord out) (h1 : ∀ x ∈ out, s.tl x.t = true) (h2 : ∀ x ∈ rest, s.tl x.t = false) :
    out = (m.take false).2 ∧ PlQ (i + 1) s rest (m.take false).1 := by
  have hf : ∀ x : It, pT false (mkM m.lat (m.seen ++ m.shown)).1 (mkM m.lat (m.seen ++ m.shown)).2 x = s.tl x.t := fun x => by
    rw [h.mk']; unfold pT Bs.tl; simp
  obtain ⟨e1, e2⟩ := taken_is (p := pT false (mkM m.lat (m.seen ++ m.shown)).1 (mkM m.lat (m.seen ++ m.shown)).2) (hp.trans h.pm) ho h.own (fun x hx => by rw [hf]; exact h1 x hx) (fun x hx => by rw [hf]; exact h2 x hx)
  have hsub : ∀ x ∈ m.wait.filter (fun x => !pT false (mkM m.lat (m.seen ++ m.shown)).1 (mkM m.lat (m.seen ++ m.shown)).2 x), x ∈ m.wait := fun x hx => (List.mem_filter.1 hx).1
  refine ⟨e1, { h.up with pm := e2, own := h.own.sub hsub, nums := fun x hx => h.nums x (hsub x hx), wt := fun x hx => h.wt x (hsub x hx), closed := ?_, zw := ?_ }⟩
  · show (m.closed || false) = s.closed
    rw [Bool.or_false, h.closed]
  · show (m.wait.filter _).length ≤ i + 1
    have := h.zw
    exact Nat.le_trans (List.length_filter_le _ _) (by omega)
theorem PlQ.flush (h : PlQ i s l m) {out : List It} (hp : out.Perm l) (ho : Ord out) : out = (m.take true).2 ∧ PlQ (i + 1) { s with closed := true } [] (m.take true).1 := by
  have hf : ∀ x : It, pT true (mkM m.lat (m.seen ++ m.shown)).1 (mkM m.lat (m.seen ++ m.shown)).2 x = true := fun x => by unfold pT; simp
  obtain ⟨e1, e2⟩ := taken_is (rest := []) (p := pT true (mkM m.lat (m.seen ++ m.shown)).1 (mkM m.lat (m.seen ++ m.shown)).2) (by rw [List.append_nil]; exact hp.trans h.pm) ho h.own (fun x hx => hf x) (fun x hx => by cases hx)
  have hsub : ∀ x ∈ m.wait.filter (fun x => !pT true (mkM m.lat (m.seen ++ m.shown)).1 (mkM m.lat (m.seen ++ m.shown)).2 x), x ∈ m.wait := fun x hx => (List.mem_filter.1 hx).1
  refine ⟨e1, { h.up with pm := e2, own := h.own.sub hsub, nums := fun x hx => h.nums x (hsub x hx), wt := fun x hx => h.wt x (hsub x hx), closed := ?_, zw := ?_ }⟩
  · show (m.closed || true) = true
    rw [Bool.or_true]
  · show (m.wait.filter _).length ≤ i + 1
    have := h.zw
    exact Nat.le_trans (List.length_filter_le _ _) (by omega)
end
theorem plq_first (x0 x1 : Int) (h0 : 0 ≤ x0) (h1 : x0 ≤ 1152921504606846976) : PlQ 0 (Bs.first x0 x1) [] ⟨x0, x1, [], [], [], 0, 0, false⟩ where
  pm := List.Perm.refl _
  own := fun x hx => (by cases hx)
  nums := fun x hx => (by cases hx)
  wt := fun x hx => (by cases hx)
  num := rfl
  n0 := Int.le_refl 0
  n1 := Int.le_refl 0
  lat := rfl
  l0 := h0
  l1 := h1
  room := rfl
  late := rfl
  t0 := Int.le_refl 0
  t1 := Int.le_refl 0
  closed := rfl
  ts := fun x hx => (by cases hx)
  zs := Nat.le_refl 0
  zh := Nat.le_refl 0
  zw := Nat.le_refl 0
  mq1 := fun e => (by cases e)
  mq0 := fun _ => rfl
  m0 := (by show (-1152921504606846976 : Int) ≤ 0; decide)
  m1 := (by show (0 : Int) ≤ 1152921504606846976; decide)
  ck1 := fun e => (by cases e)
  ck0 := fun _ => rfl
/-- Both in memory. -/
structure PlS (w1 : World) (d b7 : Nat) (s : Bs) (v : Value) (l : List It) (m : Mb) (vw vs vh : Value) (W : World) : Prop where
  rn : Rn w1 d s v l W
  box : Fb W b7 32 (m.cells vw vs vh)
  mm : Mm w1.heap.size m vw vs vh W
  ge : w1.heap.size ≤ b7
theorem jbuf_ne : 32 ≠ 54 := by decide
theorem jbit_ne : 32 ≠ 63 := by decide
theorem jitb_ne : 59 ≠ 54 := by decide
theorem jiti_ne : 59 ≠ 63 := by decide
theorem jinb_ne : 3 ≠ 54 := by decide
theorem jini_ne : 3 ≠ 63 := by decide
theorem iti_ne : 63 ≠ 32 := by decide
theorem Tn.rowk {d : Nat} {s : Bs} {v v' : Value} {l : List It} {W W' : World} {B : Nat} (h : Tn d v v' W W') (hd : Bc B d s v l W) {B' z n : Nat} {ty : TypeId} {u : Value} {xs : List Value} (hr : W.ownsRow B' ty z u n xs) (h1 : ty ≠ 54) (h2 : ty ≠ 63) : W'.ownsRow B' ty z u n xs :=
  row_heap hr fun k hk => by
    obtain ⟨cur, hc⟩ := row_block hr hk
    exact (h.cells hd hc h1 h2).trans hc.symm
section
variable {w1 W W' : World} {d b7 : Nat} {s : Bs} {v : Value} {l : List It} {m : Mb} {vw vs vh : Value}
theorem PlS.below (h : PlS w1 d b7 s v l m vw vs vh W) (hb : Below W.heap.size W W') : PlS w1 d b7 s v l m vw vs vh W' := ⟨h.rn.below hb, h.box.below hb, h.mm.below hb, h.ge⟩
theorem PlS.tn (h : PlS w1 d b7 s v l m vw vs vh W) {s' : Bs} {v' : Value} {l' : List It} (hT : Tn d v v' W W') (hB : Bc w1.heap.size d s' v' l' W') (hp : Hp l' l'.length) : PlS w1 d b7 s' v' l' m vw vs vh W' :=
  ⟨⟨hB, hT.below h.rn.bc h.rn.b, hp⟩, hT.cells h.rn.bc h.box jbuf_ne jbit_ne, ⟨hT.rowk h.rn.bc h.mm.rw jitb_ne jiti_ne, hT.rowk h.rn.bc h.mm.rs jinb_ne jini_ne, hT.rowk h.rn.bc h.mm.rh jinb_ne jini_ne⟩, h.ge⟩
theorem PlS.put (h : PlS w1 d b7 s v l m vw vs vh W) {m' : Mb} {vw' vs' vh' : Value} (hm : Mm w1.heap.size m' vw' vs' vh' W) : PlS w1 d b7 s v l m' vw' vs' vh' (st8 W b7 (.int .i64 m'.lat) (.int .i64 m'.room) vw' vs' vh' (.int .i64 m'.num) (.int .i64 m'.late) (.bool m'.closed)) := by
  have hk := fun {ty : TypeId} {z n : Nat} {u : Value} {xs : List Value} {B' : Nat} (hr : W.ownsRow B' ty z u n xs) (hne : ty ≠ 32) => row_heap (W' := st8 W b7 (.int .i64 m'.lat) (.int .i64 m'.room) vw' vs' vh' (.int .i64 m'.num) (.int .i64 m'.late) (.bool m'.closed)) hr fun k hk => st8_far _ _ _ _ _ _ _ _ _ _ (row_other hr h.box hne k hk)
  have hd : d ≠ b7 := fun e => by
    have h1 := h.rn.bc.st
    have h2 := h.box
    unfold Fb at h1 h2
    rw [e, h2] at h1
    injection h1 with h1
    injection h1 with _ h1
    exact jbuf_ne h1
  exact ⟨⟨⟨(st8_far _ _ _ _ _ _ _ _ _ _ hd).trans h.rn.bc.st, hk h.rn.bc.row iti_ne, h.rn.bc.gd⟩, st8_below h.rn.b h.ge _ _ _ _ _ _ _ _, h.rn.hp⟩, set8 h.box rfl _ _ _ _ _ _ _ _, ⟨hk hm.rw jit_ne, hk hm.rs jin_ne, hk hm.rh jin_ne⟩, h.ge⟩
theorem PlS.ipush (h : PlS w1 d b7 s v l m vw vs vh W) (hl : l.length ≤ 4000) (ho : s.ok) (t k0 k1 k2 : Int) : Calls Try.prog 7 #[.pointer (some ⟨d, 0, none⟩), .int .i64 t, kv k0 k1 k2] W fun e w' => e = .returned (.int .i64 (s.push l.length t).2) ∧ ∃ v' l', PlS w1 d b7 (s.push l.length t).1 v' l' m vw vs vh w' ∧ l'.Perm (if (s.push l.length t).2 = 0 then l ++ [⟨t, s.next, k0, k1, k2⟩] else l) := by
  refine (ipush_any h.rn.bc h.rn.b.size hl h.rn.hp ho t k0 k1 k2).mono ?_
  rintro e w' ⟨h1, v', l', h2, h3, h4, h5⟩
  exact ⟨h1, v', l', h.tn h3 h2 h4, h5⟩
theorem PlS.itick (h : PlS w1 d b7 s v l m vw vs vh W) (t : Int) : Calls Try.prog 9 #[.pointer (some ⟨d, 0, none⟩), .int .i64 t] W fun e w' => e = .returned (.int .i64 (s.tick t).2) ∧ PlS w1 d b7 (s.tick t).1 v l m vw vs vh w' := by
  refine (itick_any h.rn.bc t).mono ?_
  rintro e w' ⟨h1, h2, h3⟩
  exact ⟨h1, h.tn h3 h2 h.rn.hp⟩
/-- What is taken, the document's row and a box of the document's beside it. -/
structure PlT (w1 : World) (d b7 : Nat) (s' : Bs) (m : Mb) (vw vs vh : Value) (W : World) (mT : Mb) (xw xs xh vo : Value) (lo : List It) (b11 : Nat) (u : Value) (out : List It) (v' : Value) (rest : List It) (w' : World) : Prop where
  p : PlS w1 d b7 s' v' rest m vw vs vh w'
  row : ItR W.heap.size w' u out
  mt : Mm w1.heap.size mT xw xs xh w'
  ro : JtR w1.heap.size w' vo lo
  bx : Fb w' b11 32 (mT.cells xw xs xh)
theorem PlS.itake (h : PlS w1 d b7 s v l m vw vs vh W) (hl : l.length ≤ 4000) (ho : s.ok) {mT : Mb} {xw xs xh vo : Value} {lo : List It} (hm : Mm w1.heap.size mT xw xs xh W) (hr : JtR w1.heap.size W vo lo) {b11 : Nat} (hb : Fb W b11 32 (mT.cells xw xs xh)) : Calls Try.prog 12 #[.pointer (some ⟨d, 0, none⟩)] W fun e w' => ∃ u out v' rest, e = .returned u ∧ PlT w1 d b7 s m vw vs vh W mT xw xs xh vo lo b11 u out v' rest w' ∧ (out ++ rest).Perm l ∧ Ord out ∧ (∀ x ∈ out, s.tl x.t = true) ∧ (∀ x ∈ rest, s.tl x.t = false) := by
  refine (itk_any h.rn.bc (by omega) h.rn.hp ho).mono ?_
  rintro e w' ⟨u, out, v', rest, h1, h2⟩
  exact ⟨u, out, v', rest, h1, ⟨h.tn h2.tn h2.bc h2.hp, h2.row, ⟨h2.tn.rowk h.rn.bc hm.rw jitb_ne jiti_ne, h2.tn.rowk h.rn.bc hm.rs jinb_ne jini_ne, h2.tn.rowk h.rn.bc hm.rh jinb_ne jini_ne⟩, h2.tn.rowk h.rn.bc hr jitb_ne jiti_ne, h2.tn.cells h.rn.bc hb jbuf_ne jbit_ne⟩, h2.pm, h2.ord, h2.lo, h2.hi⟩
theorem PlS.iflush (h : PlS w1 d b7 s v l m vw vs vh W) (hl : l.length ≤ 4000) (hi : ∀ x ∈ l, x.t ≤ 1152921504606846976) {mT : Mb} {xw xs xh vo : Value} {lo : List It} (hm : Mm w1.heap.size mT xw xs xh W) (hr : JtR w1.heap.size W vo lo) {b11 : Nat} (hb : Fb W b11 32 (mT.cells xw xs xh)) : Calls Try.prog 13 #[.pointer (some ⟨d, 0, none⟩)] W fun e w' => ∃ u out v', e = .returned u ∧ PlT w1 d b7 { s with closed := true } m vw vs vh W mT xw xs xh vo lo b11 u out v' [] w' ∧ out.Perm l ∧ Ord out := by
  refine (ifl_any h.rn.bc (by omega) h.rn.hp hi).mono ?_
  rintro e w' ⟨u, out, v', h1, h2⟩
  exact ⟨u, out, v', h1, ⟨h.tn h2.tn h2.bc Hp.nil, h2.row, ⟨h2.tn.rowk h.rn.bc hm.rw jitb_ne jiti_ne, h2.tn.rowk h.rn.bc hm.rs jinb_ne jini_ne, h2.tn.rowk h.rn.bc hm.rh jinb_ne jini_ne⟩, h2.tn.rowk h.rn.bc hr jitb_ne jiti_ne, h2.tn.cells h.rn.bc hb jbuf_ne jbit_ne⟩, h2.pm, h2.ord⟩
theorem PlT.same {s' : Bs} {mT : Mb} {xw xs xh vo : Value} {lo : List It} {b11 : Nat} {u : Value} {out : List It} {v' : Value} {rest : List It} {w' : World} (h : PlT w1 d b7 s' m vw vs vh W mT xw xs xh vo lo b11 u out v' rest w') (ho : out = lo) (hl : out.length ≤ 5000) : Calls Try.prog 11 #[u, vo] w' fun e w2 => e = .returned (.bool true) ∧ PlT w1 d b7 s' m vw vs vh W mT xw xs xh vo lo b11 u out v' rest w2 := by
  subst ho
  refine (isame_any h.row h.ro hl).mono ?_
  rintro e w2 ⟨h1, q, rfl⟩
  have hb : Below w'.heap.size w' (w'.drewN q) := below_drewP (Below.refl _ _) q
  exact ⟨h1, ⟨h.p.below hb, h.row, h.mt.below hb, h.ro, h.bx⟩⟩
theorem PlT.put {s' : Bs} {mT : Mb} {xw xs xh vo : Value} {lo : List It} {b11 : Nat} {u : Value} {out : List It} {v' : Value} {rest : List It} {w' : World} (h : PlT w1 d b7 s' m vw vs vh W mT xw xs xh vo lo b11 u out v' rest w') : PlS w1 d b7 s' v' rest mT xw xs xh (st8 w' b7 (.int .i64 mT.lat) (.int .i64 mT.room) xw xs xh (.int .i64 mT.num) (.int .i64 mT.late) (.bool mT.closed)) := h.p.put h.mt
theorem PlS.is {i : Nat} (h : PlS w1 d b7 s v l m vw vs vh W) (hi : i ≤ 100) (hq : PlQ i s l m) : Calls Try.prog 14 #[.pointer (some ⟨d, 0, none⟩), .agg (m.cells vw vs vh)] W fun e w' => e = .returned (.bool true) ∧ PlS w1 d b7 s v l m vw vs vh w' := by
  refine (jis_any h.rn (hq.sok hi) (by rw [hq.pm.length_eq]; have := hq.zw; omega) h.mm (hq.mok hi) hq.ag).mono ?_
  rintro e w' ⟨h1, _, h3⟩
  exact ⟨h1, h.below h3⟩
end
end Go.Proofs.Ytagidmghmbfnpaa
