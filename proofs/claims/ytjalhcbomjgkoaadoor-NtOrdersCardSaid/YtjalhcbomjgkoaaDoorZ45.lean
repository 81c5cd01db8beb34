/-
  MERGED (a claim has at most 60 files): TOrdP, TOrdQ, NOrd.
-/
import Derived.Test.YtjalhcbomjgkoaaDoorZ38
import Derived.Test.YtjalhcbomjgkoaaDoorZ44
import Derived.Test.YtjalhcbomjgkoaaDoorZ23
import Derived.Test.YtjalhcbomjgkoaaDoorZ32
/-
  THE ORDER OF TERMS IS A WHOLE ONE, plain; the document's Less tells the same.
-/
namespace Go.Proofs.YtjalhcbomjgkoaaDoor
open Go.RowKit
set_option linter.unusedVariables false

structure Whole {α : Type} (c : α → α → Int) : Prop where
  anti : ∀ x y, c y x = - c x y
  zero : ∀ x y, c x y = 0 ↔ x = y
  rng : ∀ x y, c x y = -1 ∨ c x y = 0 ∨ c x y = 1
  trans : ∀ x y z, c x y ≤ 0 → c y z ≤ 0 → c x z ≤ 0
def lexi {α β : Type} (c : α → α → Int) (d : β → β → Int) (p q : α × β) : Int := orT (c p.1 q.1) (d p.2 q.2)
theorem Whole.lexi {α β : Type} {c : α → α → Int} {d : β → β → Int} (hc : Whole c) (hd : Whole d) : Whole (lexi c d) := by
  refine ⟨fun x y => ?_, fun x y => ?_, fun x y => ?_, fun x y z h k => ?_⟩
  · unfold Go.Proofs.YtjalhcbomjgkoaaDoor.lexi orT
    rw [hc.anti x.1 y.1, hd.anti x.2 y.2]
    by_cases h : c x.1 y.1 = 0
    · rw [h]; simp
    · rw [if_neg (by omega), if_neg h]
  · unfold Go.Proofs.YtjalhcbomjgkoaaDoor.lexi orT
    by_cases h : c x.1 y.1 = 0
    · rw [if_pos h, hd.zero, Prod.ext_iff]
      exact ⟨fun e => ⟨(hc.zero _ _).1 h, e⟩, fun e => e.2⟩
    · rw [if_neg h]
      exact ⟨fun e => absurd e h, fun e => absurd ((hc.zero _ _).2 (by rw [e])) h⟩
  · unfold Go.Proofs.YtjalhcbomjgkoaaDoor.lexi orT
    by_cases h : c x.1 y.1 = 0
    · rw [if_pos h]; exact hd.rng _ _
    · rw [if_neg h]; exact hc.rng _ _
  · unfold Go.Proofs.YtjalhcbomjgkoaaDoor.lexi orT at *
    by_cases h1 : c x.1 y.1 = 0
    · rw [if_pos h1] at h
      rw [(hc.zero _ _).1 h1]
      by_cases h2 : c y.1 z.1 = 0
      · rw [if_pos h2] at k ⊢
        exact hd.trans _ _ _ h k
      · rw [if_neg h2] at k ⊢
        exact k
    · rw [if_neg h1] at h
      by_cases h2 : c y.1 z.1 = 0
      · rw [← (hc.zero _ _).1 h2, if_neg h1]
        exact h
      · rw [if_neg h2] at k
        have h3 := hc.trans _ _ _ h k
        by_cases h4 : c x.1 z.1 = 0
        · exfalso
          have e := (hc.zero _ _).1 h4
          rw [← e, hc.anti x.1 y.1] at k
          omega
        · rw [if_neg h4]; exact h3
theorem ordT_whole : Whole ordT := by
  refine ⟨fun x y => ?_, fun x y => ?_, fun x y => ?_, fun x y z => ?_⟩ <;> unfold ordT
  · split <;> split <;> (try split) <;> omega
  · split
    · omega
    · split <;> omega
  · split
    · simp
    · split <;> simp
  · split <;> split <;> (try split) <;> (try split) <;> (try split) <;> omega
theorem less_irr : ∀ l : List UInt8, Op.bytesLess l l = false
  | [] => rfl
  | a :: l => by simp [Op.bytesLess, less_irr l]
theorem less_asym : ∀ a b : List UInt8, Op.bytesLess a b = true → Op.bytesLess b a = false
  | _, [], h => by simp [Op.bytesLess] at h
  | [], _ :: _, _ => rfl
  | a :: x, b :: y, h => by
    simp only [Op.bytesLess, Bool.or_eq_true, Bool.and_eq_true, decide_eq_true_eq, beq_iff_eq] at h
    simp only [Op.bytesLess, Bool.or_eq_false_iff, Bool.and_eq_false_iff, decide_eq_false_iff_not, beq_eq_false_iff_ne]
    rcases h with h | ⟨rfl, h⟩
    · refine ⟨?_, .inl ?_⟩
      · intro k; exact absurd (UInt8.lt_trans h k) (UInt8.lt_irrefl _)
      · rintro rfl; exact UInt8.lt_irrefl _ h
    · exact ⟨UInt8.lt_irrefl _, .inr (less_asym x y h)⟩
theorem less_tri : ∀ a b : List UInt8, Op.bytesLess a b = false → Op.bytesLess b a = false → a = b
  | [], [], _, _ => rfl
  | _ :: _, [], _, h => by simp [Op.bytesLess] at h
  | [], _ :: _, h, _ => by simp [Op.bytesLess] at h
  | a :: x, b :: y, h, k => by
    simp only [Op.bytesLess, Bool.or_eq_false_iff, Bool.and_eq_false_iff, decide_eq_false_iff_not, beq_eq_false_iff_ne] at h k
    have e : a = b := by
      have h1 := h.1
      have k1 := k.1
      rw [UInt8.not_lt] at h1 k1
      exact UInt8.le_antisymm k1 h1
    subst e
    rw [less_tri x y (by rcases h.2 with q | q; exact absurd rfl q; exact q) (by rcases k.2 with q | q; exact absurd rfl q; exact q)]
theorem less_trans : ∀ a b c : List UInt8, Op.bytesLess a b = true → Op.bytesLess b c = true → Op.bytesLess a c = true
  | _, [], _, h, _ => by simp [Op.bytesLess] at h
  | _, _ :: _, [], _, k => by simp [Op.bytesLess] at k
  | [], _ :: _, _ :: _, _, _ => rfl
  | a :: x, b :: y, c :: z, h, k => by
    simp only [Op.bytesLess, Bool.or_eq_true, Bool.and_eq_true, decide_eq_true_eq, beq_iff_eq] at *
    rcases h with h | ⟨rfl, h⟩
    · rcases k with k | ⟨rfl, k⟩
      · exact .inl (UInt8.lt_trans h k)
      · exact .inl h
    · rcases k with k | ⟨rfl, k⟩
      · exact .inl k
      · exact .inr ⟨rfl, less_trans x y z h k⟩
theorem list_bytes {a b : ByteArray} (h : a.toList = b.toList) : a = b := bytes_ext (beq_iff_eq.2 h)
theorem ordS_cases (a b : ByteArray) : (Op.bytesLess a.toList b.toList = true ∧ ordS a b = -1) ∨ (a = b ∧ ordS a b = 0) ∨ (Op.bytesLess b.toList a.toList = true ∧ ordS a b = 1) := by
  unfold ordS
  cases h : Op.bytesLess a.toList b.toList
  · by_cases e : a = b
    · subst e; simp
    · have hne : (a.toList == b.toList) = false := by rw [beq_eq_false_iff_ne]; exact fun q => e (list_bytes q)
      cases k : Op.bytesLess b.toList a.toList
      · exact absurd (list_bytes (less_tri _ _ h k)) e
      · rw [hne]; simp
  · simp
theorem ordS_whole : Whole ordS := by
  refine ⟨fun x y => ?_, fun x y => ?_, fun x y => ?_, fun x y z h k => ?_⟩
  · rcases ordS_cases x y with ⟨a, b⟩ | ⟨a, b⟩ | ⟨a, b⟩ <;> rcases ordS_cases y x with ⟨a', b'⟩ | ⟨a', b'⟩ | ⟨a', b'⟩ <;> rw [b, b']
    all_goals first
      | rfl
      | (exfalso; rw [less_asym _ _ a] at a'; cases a')
      | (exfalso; subst a; rw [less_irr] at a'; cases a')
      | (exfalso; subst a'; rw [less_irr] at a; cases a)
  · rcases ordS_cases x y with ⟨a, b⟩ | ⟨a, b⟩ | ⟨a, b⟩ <;> rw [b]
    · exact ⟨fun e => by omega, fun e => by subst e; rw [less_irr] at a; cases a⟩
    · exact ⟨fun _ => a, fun _ => rfl⟩
    · exact ⟨fun e => by omega, fun e => by subst e; rw [less_irr] at a; cases a⟩
  · rcases ordS_cases x y with ⟨a, b⟩ | ⟨a, b⟩ | ⟨a, b⟩ <;> rw [b] <;> simp
  · rcases ordS_cases x y with ⟨a, b⟩ | ⟨a, b⟩ | ⟨a, b⟩
    · rcases ordS_cases y z with ⟨a', b'⟩ | ⟨a', b'⟩ | ⟨a', b'⟩
      · rcases ordS_cases x z with ⟨a'', b''⟩ | ⟨a'', b''⟩ | ⟨a'', b''⟩
        · omega
        · omega
        · rw [less_asym _ _ (less_trans _ _ _ a a')] at a''; cases a''
      · subst a'; omega
      · omega
    · subst a; exact k
    · omega
def kOf (t : Tm) : Int × (ByteArray × (ByteArray × ByteArray)) := (t.kind, t.ta, t.tb, t.tc)
theorem ordB_lex (x y : Tm) : ordB x y = lexi ordT (lexi ordS (lexi ordS ordS)) (kOf x) (kOf y) := rfl
theorem ord_whole : Whole (lexi ordT (lexi ordS (lexi ordS ordS))) := ordT_whole.lexi (ordS_whole.lexi (ordS_whole.lexi ordS_whole))
theorem ordB_anti (x y : Tm) : ordB y x = - ordB x y := by rw [ordB_lex, ordB_lex]; exact ord_whole.anti _ _
theorem ordB_trans (x y z : Tm) (h : ordB x y ≤ 0) (k : ordB y z ≤ 0) : ordB x z ≤ 0 := by rw [ordB_lex] at *; exact ord_whole.trans _ _ _ h k
theorem ordB_zero (x y : Tm) : ordB x y = 0 ↔ kOf x = kOf y := by rw [ordB_lex]; exact ord_whole.zero _ _
end Go.Proofs.YtjalhcbomjgkoaaDoor

/-
  WHAT THE LAW ON ORDERS COMPARES, plain.
-/
namespace Go.Proofs.YtjalhcbomjgkoaaDoor
open Go.RowKit
set_option linter.unusedVariables false

def lessM (x y : Tm) : Bool := lessT x.kind x.ta x.tb x.tc y.kind y.ta y.tb y.tc
def eqF (x y : Tm) : Bool := (x.kind == y.kind) && ((x.ta.toList == y.ta.toList) && ((x.tb.toList == y.tb.toList) && (x.tc.toList == y.tc.toList)))
theorem beq_bytes (a b : ByteArray) : (a.toList == b.toList) = decide (a = b) := by
  rw [Bool.eq_iff_iff, beq_iff_eq, decide_eq_true_eq]
  exact ⟨list_bytes, fun e => by rw [e]⟩
theorem eqF_ord (x y : Tm) : (ordB x y == 0) = eqF x y := by
  unfold eqF
  simp only [beq_bytes]
  rw [Bool.eq_iff_iff, beq_iff_eq, ordB_zero]
  unfold kOf
  simp only [Prod.mk.injEq, Bool.and_eq_true, decide_eq_true_eq, beq_iff_eq]
theorem less_ordS (a b : ByteArray) : Op.bytesLess a.toList b.toList = decide (ordS a b = -1) := by
  rcases ordS_cases a b with ⟨h, e⟩ | ⟨h, e⟩ | ⟨h, e⟩
  · rw [h, e]; rfl
  · subst h; rw [less_irr, e]; rfl
  · rw [less_asym _ _ h, e]; rfl
theorem lessM_ord (x y : Tm) : lessM x y = decide (ordB x y = -1) := by
  unfold lessM lessT ordB ord3 orT ordT
  simp only [beq_bytes, less_ordS]
  by_cases hk : x.kind = y.kind
  · have e0 : (x.kind != y.kind) = false := by simp [hk]
    rw [e0, if_neg (by decide), hk, if_neg (Int.lt_irrefl _), if_neg (Int.lt_irrefl _), if_pos rfl]
    by_cases ha : x.ta = y.ta
    · rw [decide_eq_true ha, if_neg (by decide), if_pos ((ordS_whole.zero _ _).2 ha)]
      by_cases hb : x.tb = y.tb
      · rw [decide_eq_true hb, if_neg (by decide), if_pos ((ordS_whole.zero _ _).2 hb)]
      · rw [decide_eq_false hb, if_pos rfl, if_neg (fun e => hb ((ordS_whole.zero _ _).1 e))]
    · rw [decide_eq_false ha, if_pos rfl, if_neg (fun e => ha ((ordS_whole.zero _ _).1 e))]
  · have e0 : (x.kind != y.kind) = true := by simp [hk]
    rw [e0, if_pos rfl]
    by_cases h1 : x.kind < y.kind
    · rw [if_pos h1, decide_eq_true h1, if_neg (by decide)]; rfl
    · rw [if_neg h1, if_pos (show y.kind < x.kind by omega), decide_eq_false h1, if_neg (show ¬ (1 : Int) = 0 by decide)]; rfl
/-- What the law wants of the order. -/
theorem want_ord (x y : Tm) : (lessM x y = true ∧ ordB x y = -1) ∨ (lessM x y = false ∧ lessM y x = true ∧ ordB x y = 1) ∨ (lessM x y = false ∧ lessM y x = false ∧ ordB x y = 0) := by
  rw [lessM_ord, lessM_ord, ordB_anti x y]
  have := ord_whole.rng (kOf x) (kOf y)
  rw [← ordB_lex] at this
  rcases this with h | h | h <;> rw [h] <;> simp
theorem sameB_eqF (x y : Tm) : sameB x y = (eqF x y && decide (x.kind < 3)) := by
  have hk : (x.kind != 3) = decide (x.kind < 3) := by cases x <;> rfl
  unfold sameB same4 eqF
  rw [hk, Bool.and_comm]
theorem eqF_comm (x y : Tm) : eqF x y = eqF y x := by
  rw [← eqF_ord, ← eqF_ord, ordB_anti x y, Bool.eq_iff_iff, beq_iff_eq, beq_iff_eq]
  omega
theorem eqF_refl (x : Tm) : eqF x x = true := by
  unfold eqF; simp
theorem sameB_comm (x y : Tm) : sameB x y = sameB y x := by
  cases h : eqF x y
  · rw [sameB_eqF, sameB_eqF, ← eqF_comm x y, h]; rfl
  · have : x.kind = y.kind := by
      unfold eqF at h
      rw [Bool.and_eq_true, beq_iff_eq] at h
      exact h.1
    rw [sameB_eqF, sameB_eqF, ← eqF_comm x y, h, this]
theorem orT_tru (b b' : Bool) (u v : Int) (h : b = b') : tru b (orT u v) = tru b' (orT v u) := by
  subst h
  unfold tru
  by_cases h1 : orT u v = 0
  · have := orT_zero.1 h1
    rw [if_pos h1, if_pos (orT_zero.2 ⟨this.2, this.1⟩)]
  · rw [if_neg h1, if_neg (fun e => h1 (orT_zero.2 ⟨(orT_zero.1 e).2, (orT_zero.1 e).1⟩))]
theorem eqv_comm (x y : Tm) : eqv x y = eqv y x := by
  unfold eqv eqI eqB
  rw [sameB_comm x y, Bool.and_comm x.isLit, Bool.and_comm (x.tb.toList == lI), Bool.and_comm (x.tb.toList == lB), Bool.and_comm (known x.tb)]
  rw [orT_tru _ ((asI y).1 == (asI x).1) (asI x).2 (asI y).2 (by rw [Bool.eq_iff_iff, beq_iff_eq, beq_iff_eq]; exact eq_comm), orT_tru _ ((asB y).1 == (asB x).1) (asB x).2 (asB y).2 (by rw [Bool.eq_iff_iff, beq_iff_eq, beq_iff_eq]; exact eq_comm)]
theorem eqv_refl (x : Tm) (h : x.kind < 3) : eqv x x = 1 := by
  unfold eqv
  rw [sameB_eqF, eqF_refl, decide_eq_true h]
  rfl
end Go.Proofs.YtjalhcbomjgkoaaDoor

/-
  THE ORDER OF TRIPLES (package nt): cmp.Or of three; plain: it is turned by turning.
-/
namespace Go.Proofs.YtjalhcbomjgkoaaDoor
open Go.RowKit
set_option linter.unusedVariables false
set_option linter.unusedSimpArgs false

theorem orInt3_any (x y z : Int) (w : World) (g c : Nat) (h0 : w.cell? ⟨g, 0, none⟩ = some (.int .i64 x)) (h1 : w.cell? ⟨g, 1, none⟩ = some (.int .i64 y)) (h2 : w.cell? ⟨g, 2, none⟩ = some (.int .i64 z)) :
    Calls Tryd.prog 51 #[.slice (some ⟨g, 0, none⟩) 3 c] w fun e w' => e = .returned (.int .i64 (orT x (orT y z))) ∧ w = w' := by
  obtain ⟨r, hr⟩ : ∃ r, r = orT x (orT y z) := ⟨_, rfl⟩
  rw [← hr]
  have HR := Lib.hid hr
  clear hr
  go_enter Tryd.func51, Tryd.ntmps51
  go_wp2
  go_loopg [5, 8] 3 (fun g s5 s8 wr => ∃ k : Nat, k + g = 3 ∧ s8 = .int .i64 k ∧ Hid (1 ≤ k → x = 0) ∧ Hid (2 ≤ k → y = 0) ∧ Hid (3 ≤ k → z = 0) ∧ w = wr)
  case atStart => exact ⟨0, rfl, rfl, Lib.hid (by omega), Lib.hid (by omega), Lib.hid (by omega), rfl⟩
  case round =>
    obtain ⟨k, hkg, rfl, H0, H1, H2, rfl⟩ := hrel
    obtain rfl | rfl | rfl | rfl : k = 0 ∨ k = 1 ∨ k = 2 ∨ k = 3 := by omega
    · by_cases hx : x = 0
      · have hb : (x != 0) = false := by simpa using hx
        have HX := Lib.hid hx
        clear hx
        go_wp2
        go_roundg 2
        case measure => omega
        case rel => exact ⟨1, rfl, rfl, Lib.hid (fun _ => HX.out), Lib.hid (by omega), Lib.hid (by omega), rfl⟩
      · have hb : (x != 0) = true := by simpa using hx
        have HX : Hid (r = x) := Lib.hid (by rw [HR.out]; exact if_neg hx)
        clear hx
        go_wp2
        (try rw [Exit.noGoto_ret])
        go_ret
        exact ⟨ret_iT HX.out.symm, rfl⟩
    · by_cases hy : y = 0
      · have hb : (y != 0) = false := by simpa using hy
        have HY := Lib.hid hy
        clear hy
        go_wp2
        go_roundg 1
        case measure => omega
        case rel => exact ⟨2, rfl, rfl, Lib.hid (fun _ => H0.out (by omega)), Lib.hid (fun _ => HY.out), Lib.hid (by omega), rfl⟩
      · have hb : (y != 0) = true := by simpa using hy
        have HX : Hid (r = y) := Lib.hid (by rw [HR.out]; unfold orT; rw [if_pos (H0.out (by omega)), if_neg hy])
        clear hy
        go_wp2
        (try rw [Exit.noGoto_ret])
        go_ret
        exact ⟨ret_iT HX.out.symm, rfl⟩
    · have HX : Hid (r = z) := Lib.hid (by rw [HR.out]; unfold orT; rw [if_pos (H0.out (by omega)), if_pos (H1.out (by omega))])
      by_cases hz : z = 0
      · have hb : (z != 0) = false := by simpa using hz
        have HZ := Lib.hid hz
        clear hz
        go_wp2
        go_roundg 0
        case measure => omega
        case rel => exact ⟨3, rfl, rfl, Lib.hid (fun _ => H0.out (by omega)), Lib.hid (fun _ => H1.out (by omega)), Lib.hid (fun _ => HZ.out), rfl⟩
      · have hb : (z != 0) = true := by simpa using hz
        clear hz
        go_wp2
        (try rw [Exit.noGoto_ret])
        go_ret
        exact ⟨ret_iT HX.out.symm, rfl⟩
    · have HX : Hid (r = 0) := Lib.hid (by rw [HR.out]; unfold orT; rw [if_pos (H0.out (by omega)), if_pos (H1.out (by omega))]; exact H2.out (by omega))
      go_wp2
      go_ret
      exact ⟨ret_iT HX.out.symm, rfl⟩
def ordR (x0 x1 x2 y0 y1 y2 : Tm) : Int := orT (ordB x0 y0) (orT (ordB x1 y1) (ordB x2 y2))
theorem ordR_anti (x0 x1 x2 y0 y1 y2 : Tm) : ordR y0 y1 y2 x0 x1 x2 = - ordR x0 x1 x2 y0 y1 y2 := by
  unfold ordR orT
  rw [ordB_anti x0 y0, ordB_anti x1 y1, ordB_anti x2 y2]
  by_cases h0 : ordB x0 y0 = 0
  · by_cases h1 : ordB x1 y1 = 0
    · rw [if_pos (by omega), if_pos (by omega), if_pos h0, if_pos h1]
    · rw [if_pos (by omega), if_neg (by omega), if_pos h0, if_neg h1]
  · rw [if_neg (by omega), if_neg h0]
theorem ordB_rng (x y : Tm) : ordB x y = -1 ∨ ordB x y = 0 ∨ ordB x y = 1 := by
  have := want_ord x y
  omega
set_option maxRecDepth 100000 in
set_option maxHeartbeats 8000000 in
theorem norder_any (x0 x1 x2 y0 y1 y2 : Tm) (k0 : x0.kind < 3) (k1 : x1.kind < 3) (k2 : x2.kind < 3) (j0 : y0.kind < 3) (j1 : y1.kind < 3) (j2 : y2.kind < 3) (w : World) :
    Calls Tryd.prog 34 #[.agg #[x0.val, x1.val, x2.val], .agg #[y0.val, y1.val, y2.val]] w fun e w' => e = .returned (.int .i64 (ordR x0 x1 x2 y0 y1 y2)) ∧ Below w.heap.size w w' := by
  have c0 := order_any x0 y0
  have c1 := order_any x1 y1
  have c2 := order_any x2 y2
  unfold ordR
  obtain ⟨t0, v0, e0⟩ := iface_of k0
  obtain ⟨t1, v1, e1⟩ := iface_of k1
  obtain ⟨t2, v2, e2⟩ := iface_of k2
  obtain ⟨p0, q0, f0⟩ := iface_of j0
  obtain ⟨p1, q1, f1⟩ := iface_of j1
  obtain ⟨p2, q2, f2⟩ := iface_of j2
  rw [e0, f0] at c0
  rw [e1, f1] at c1
  rw [e2, f2] at c2
  rw [e0, e1, e2, f0, f1, f2]
  generalize ordB x0 y0 = r0 at c0 ⊢
  generalize ordB x1 y1 = r1 at c1 ⊢
  generalize ordB x2 y2 = r2 at c2 ⊢
  clear e0 e1 e2 f0 f1 f2 k0 k1 k2 j0 j1 j2
  have hF1 : Fb ((w.alloc (.cells #[.iface t0 v0, .iface t1 v1, .iface t2 v2] 67)).alloc (.cells #[.iface p0 q0, .iface p1 q1, .iface p2 q2] 67)) w.heap.size 67 #[.iface t0 v0, .iface t1 v1, .iface t2 v2] := (Fb.new _ _ _).alloc _
  have hF2 : Fb ((w.alloc (.cells #[.iface t0 v0, .iface t1 v1, .iface t2 v2] 67)).alloc (.cells #[.iface p0 q0, .iface p1 q1, .iface p2 q2] 67)) (w.heap.size + 1) 67 #[.iface p0 q0, .iface p1 q1, .iface p2 q2] := by simpa using Fb.new (w.alloc (.cells #[.iface t0 v0, .iface t1 v1, .iface t2 v2] 67)) 67 #[.iface p0 q0, .iface p1 q1, .iface p2 q2]
  have hB0 : Below w.heap.size w ((w.alloc (.cells #[.iface t0 v0, .iface t1 v1, .iface t2 v2] 67)).alloc (.cells #[.iface p0 q0, .iface p1 q1, .iface p2 q2] 67)) := ((Below.refl _ _).alloc (Nat.le_refl _) _).alloc (by simp) _
  obtain ⟨W0, hW0⟩ : ∃ W0, W0 = (w.alloc (.cells #[.iface t0 v0, .iface t1 v1, .iface t2 v2] 67)).alloc (.cells #[.iface p0 q0, .iface p1 q1, .iface p2 q2] 67) := ⟨_, rfl⟩
  rw [← hW0] at hF1 hF2 hB0
  have K : ∀ W, Below W0.heap.size W0 W → W.cell? ⟨w.heap.size, 0, none⟩ = some (.iface t0 v0) ∧ W.cell? ⟨w.heap.size, 1, none⟩ = some (.iface t1 v1) ∧ W.cell? ⟨w.heap.size, 2, none⟩ = some (.iface t2 v2) ∧ W.cell? ⟨w.heap.size + 1, 0, none⟩ = some (.iface p0 q0) ∧ W.cell? ⟨w.heap.size + 1, 1, none⟩ = some (.iface p1 q1) ∧ W.cell? ⟨w.heap.size + 1, 2, none⟩ = some (.iface p2 q2) := fun W hb =>
    ⟨(hF1.below hb).cell 0, (hF1.below hb).cell 1, (hF1.below hb).cell 2, (hF2.below hb).cell 0, (hF2.below hb).cell 1, (hF2.below hb).cell 2⟩
  have C0 : ∀ {W : World}, Below W0.heap.size W0 W → Calls Tryd.prog 27 #[.iface t0 v0, .iface p0 q0] W fun e w' => e = .returned (.int .i64 r0) ∧ Below W0.heap.size W0 w' := fun {W} hb => (c0 W).mono fun _ _ ⟨x, y⟩ => ⟨x, hb.trans (y.mono hb.size)⟩
  have C1 : ∀ {W : World}, Below W0.heap.size W0 W → Calls Tryd.prog 27 #[.iface t1 v1, .iface p1 q1] W fun e w' => e = .returned (.int .i64 r1) ∧ Below W0.heap.size W0 w' := fun {W} hb => (c1 W).mono fun _ _ ⟨x, y⟩ => ⟨x, hb.trans (y.mono hb.size)⟩
  have C2 : ∀ {W : World}, Below W0.heap.size W0 W → Calls Tryd.prog 27 #[.iface t2 v2, .iface p2 q2] W fun e w' => e = .returned (.int .i64 r2) ∧ Below W0.heap.size W0 w' := fun {W} hb => (c2 W).mono fun _ _ ⟨x, y⟩ => ⟨x, hb.trans (y.mono hb.size)⟩
  have C3 : ∀ {W : World}, Below W0.heap.size W0 W → Calls Tryd.prog 51 #[.slice (some ⟨W.heap.size, 0, none⟩) 3 3] (W.alloc (.cells #[.int .i64 r0, .int .i64 r1, .int .i64 r2] 3)) fun e w' => e = .returned (.int .i64 (orT r0 (orT r1 r2))) ∧ Below W0.heap.size W0 w' := fun {W} hb =>
    (orInt3_any r0 r1 r2 (W.alloc (.cells #[.int .i64 r0, .int .i64 r1, .int .i64 r2] 3)) W.heap.size 3 ((Fb.new W 3 _).cell 0) ((Fb.new W 3 _).cell 1) ((Fb.new W 3 _).cell 2)).mono fun _ _ ⟨x, y⟩ => ⟨x, y ▸ hb.alloc hb.size _⟩
  have HB0 := Lib.hid hB0
  have hR : Below W0.heap.size W0 W0 := Below.refl _ _
  clear c0 c1 c2 hF1 hF2 hB0
  go_enter Tryd.func34, Tryd.ntmps34
  go_wp2
  rw [← hW0]
  clear hW0
  go_region_held3 (fun W => W.cell? ⟨w.heap.size, 0, none⟩ = some (.iface t0 v0) ∧ W.cell? ⟨w.heap.size, 1, none⟩ = some (.iface t1 v1) ∧ W.cell? ⟨w.heap.size, 2, none⟩ = some (.iface t2 v2) ∧ W.cell? ⟨w.heap.size + 1, 0, none⟩ = some (.iface p0 q0) ∧ W.cell? ⟨w.heap.size + 1, 1, none⟩ = some (.iface p1 q1) ∧ W.cell? ⟨w.heap.size + 1, 2, none⟩ = some (.iface p2 q2))
    (first | exact K _ (by assumption) | exact K _ (Below.drew (by assumption)) | exact K _ (Below.alloc (by assumption) (Below.size (by assumption)) _))
    (first
      | (go_at_call 27; (with_reducible refine (C0 (by first | assumption | exact Below.drew (by assumption))).mono ?_); rintro e wa ⟨rfl, hBa⟩)
      | (go_at_call 27; (with_reducible refine (C1 (by first | assumption | exact Below.drew (by assumption))).mono ?_); rintro e wb ⟨rfl, hBb⟩)
      | (go_at_call 27; (with_reducible refine (C2 (by first | assumption | exact Below.drew (by assumption))).mono ?_); rintro e wc ⟨rfl, hBc⟩)
      | (go_at_call 51; (with_reducible refine (C3 hBc).mono ?_); rintro e wd ⟨rfl, hBd⟩))
  all_goals
    go_wp2
    go_ret
    exact ⟨rfl, HB0.out.trans (hBd.mono HB0.out.size)⟩
end Go.Proofs.YtjalhcbomjgkoaaDoor
