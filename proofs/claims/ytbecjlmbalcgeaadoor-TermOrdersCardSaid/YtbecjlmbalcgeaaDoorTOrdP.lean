/-
  THE ORDER OF TERMS IS A WHOLE ONE, plain; the document's Less tells the same.
-/
import Derived.Test.YtbecjlmbalcgeaaDoorTOrd
import Derived.Test.YtbecjlmbalcgeaaDoorTRefC
import Derived.Test.YtbecjlmbalcgeaaDoorTEqualB
namespace Go.Proofs.YtbecjlmbalcgeaaDoor
open Go.RowKit
set_option linter.unusedVariables false

structure Whole {α : Type} (c : α → α → Int) : Prop where
  anti : ∀ x y, c y x = - c x y
  zero : ∀ x y, c x y = 0 ↔ x = y
  rng : ∀ x y, c x y = -1 ∨ c x y = 0 ∨ c x y = 1
  trans : ∀ x y z, c x y ≤ 0 → c y z ≤ 0 → c x z ≤ 0
def lexi {α β : Type} (c : α → α → Int) (d : β → β → Int) (p q : α × β) : Int := orT (c p.1 q.1) (d p.2 q.2)
theorem Whole.lexi {α β : Type} {c : α → α → Int} {d : β → β → Int} (hc : Whole c) (hd : Whole d) : Whole (lexi c d) := by
  refine ⟨fun x y => ?_, fun x y => ?_, fun x y => ?_, fun x y z h k => ?_⟩
  · unfold Go.Proofs.YtbecjlmbalcgeaaDoor.lexi orT
    rw [hc.anti x.1 y.1, hd.anti x.2 y.2]
    by_cases h : c x.1 y.1 = 0
    · rw [h]; simp
    · rw [if_neg (by omega), if_neg h]
  · unfold Go.Proofs.YtbecjlmbalcgeaaDoor.lexi orT
    by_cases h : c x.1 y.1 = 0
    · rw [if_pos h, hd.zero, Prod.ext_iff]
      exact ⟨fun e => ⟨(hc.zero _ _).1 h, e⟩, fun e => e.2⟩
    · rw [if_neg h]
      exact ⟨fun e => absurd e h, fun e => absurd ((hc.zero _ _).2 (by rw [e])) h⟩
  · unfold Go.Proofs.YtbecjlmbalcgeaaDoor.lexi orT
    by_cases h : c x.1 y.1 = 0
    · rw [if_pos h]; exact hd.rng _ _
    · rw [if_neg h]; exact hc.rng _ _
  · unfold Go.Proofs.YtbecjlmbalcgeaaDoor.lexi orT at *
    by_cases h1 : c x.1 y.1 = 0
    · rw [if_pos h1] at h
      rw [(hc.zero _ _).1 h1]
      by_cases h2 : c y.1 z.1 = 0
      · rw [if_pos h2] at k ⊢
        exact hd.trans _ _ _ h k
      · rw [if_neg h2] at k ⊢
        exact k
    · rw [if_neg h1] at h
      by_cases h2 : c y.1 z.1 = 0
      · rw [← (hc.zero _ _).1 h2, if_neg h1]
        exact h
      · rw [if_neg h2] at k
        have h3 := hc.trans _ _ _ h k
        by_cases h4 : c x.1 z.1 = 0
        · exfalso
          have e := (hc.zero _ _).1 h4
          rw [← e, hc.anti x.1 y.1] at k
          omega
        · rw [if_neg h4]; exact h3
theorem ordT_whole : Whole ordT := by
  refine ⟨fun x y => ?_, fun x y => ?_, fun x y => ?_, fun x y z => ?_⟩ <;> unfold ordT
  · split <;> split <;> (try split) <;> omega
  · split
    · omega
    · split <;> omega
  · split
    · simp
    · split <;> simp
  · split <;> split <;> (try split) <;> (try split) <;> (try split) <;> omega
theorem less_irr : ∀ l : List UInt8, Op.bytesLess l l = false
  | [] => rfl
  | a :: l => by simp [Op.bytesLess, less_irr l]
theorem less_asym : ∀ a b : List UInt8, Op.bytesLess a b = true → Op.bytesLess b a = false
  | _, [], h => by simp [Op.bytesLess] at h
  | [], _ :: _, _ => rfl
  | a :: x, b :: y, h => by
    simp only [Op.bytesLess, Bool.or_eq_true, Bool.and_eq_true, decide_eq_true_eq, beq_iff_eq] at h
    simp only [Op.bytesLess, Bool.or_eq_false_iff, Bool.and_eq_false_iff, decide_eq_false_iff_not, beq_eq_false_iff_ne]
    rcases h with h | ⟨rfl, h⟩
    · refine ⟨?_, .inl ?_⟩
      · intro k; exact absurd (UInt8.lt_trans h k) (UInt8.lt_irrefl _)
      · rintro rfl; exact UInt8.lt_irrefl _ h
    · exact ⟨UInt8.lt_irrefl _, .inr (less_asym x y h)⟩
theorem less_tri : ∀ a b : List UInt8, Op.bytesLess a b = false → Op.bytesLess b a = false → a = b
  | [], [], _, _ => rfl
  | _ :: _, [], _, h => by simp [Op.bytesLess] at h
  | [], _ :: _, h, _ => by simp [Op.bytesLess] at h
  | a :: x, b :: y, h, k => by
    simp only [Op.bytesLess, Bool.or_eq_false_iff, Bool.and_eq_false_iff, decide_eq_false_iff_not, beq_eq_false_iff_ne] at h k
    have e : a = b := by
      have h1 := h.1
      have k1 := k.1
      rw [UInt8.not_lt] at h1 k1
      exact UInt8.le_antisymm k1 h1
    subst e
    rw [less_tri x y (by rcases h.2 with q | q; exact absurd rfl q; exact q) (by rcases k.2 with q | q; exact absurd rfl q; exact q)]
theorem less_trans : ∀ a b c : List UInt8, Op.bytesLess a b = true → Op.bytesLess b c = true → Op.bytesLess a c = true
  | _, [], _, h, _ => by simp [Op.bytesLess] at h
  | _, _ :: _, [], _, k => by simp [Op.bytesLess] at k
  | [], _ :: _, _ :: _, _, _ => rfl
  | a :: x, b :: y, c :: z, h, k => by
    simp only [Op.bytesLess, Bool.or_eq_true, Bool.and_eq_true, decide_eq_true_eq, beq_iff_eq] at *
    rcases h with h | ⟨rfl, h⟩
    · rcases k with k | ⟨rfl, k⟩
      · exact .inl (UInt8.lt_trans h k)
      · exact .inl h
    · rcases k with k | ⟨rfl, k⟩
      · exact .inl k
      · exact .inr ⟨rfl, less_trans x y z h k⟩
theorem list_bytes {a b : ByteArray} (h : a.toList = b.toList) : a = b := bytes_ext (beq_iff_eq.2 h)
theorem ordS_cases (a b : ByteArray) : (Op.bytesLess a.toList b.toList = true ∧ ordS a b = -1) ∨ (a = b ∧ ordS a b = 0) ∨ (Op.bytesLess b.toList a.toList = true ∧ ordS a b = 1) := by
  unfold ordS
  cases h : Op.bytesLess a.toList b.toList
  · by_cases e : a = b
    · subst e; simp
    · have hne : (a.toList == b.toList) = false := by rw [beq_eq_false_iff_ne]; exact fun q => e (list_bytes q)
      cases k : Op.bytesLess b.toList a.toList
      · exact absurd (list_bytes (less_tri _ _ h k)) e
      · rw [hne]; simp
  · simp
theorem ordS_whole : Whole ordS := by
  refine ⟨fun x y => ?_, fun x y => ?_, fun x y => ?_, fun x y z h k => ?_⟩
  · rcases ordS_cases x y with ⟨a, b⟩ | ⟨a, b⟩ | ⟨a, b⟩ <;> rcases ordS_cases y x with ⟨a', b'⟩ | ⟨a', b'⟩ | ⟨a', b'⟩ <;> rw [b, b']
    all_goals first
      | rfl
      | (exfalso; rw [less_asym _ _ a] at a'; cases a')
      | (exfalso; subst a; rw [less_irr] at a'; cases a')
      | (exfalso; subst a'; rw [less_irr] at a; cases a)
  · rcases ordS_cases x y with ⟨a, b⟩ | ⟨a, b⟩ | ⟨a, b⟩ <;> rw [b]
    · exact ⟨fun e => by omega, fun e => by subst e; rw [less_irr] at a; cases a⟩
    · exact ⟨fun _ => a, fun _ => rfl⟩
    · exact ⟨fun e => by omega, fun e => by subst e; rw [less_irr] at a; cases a⟩
  · rcases ordS_cases x y with ⟨a, b⟩ | ⟨a, b⟩ | ⟨a, b⟩ <;> rw [b] <;> simp
  · rcases ordS_cases x y with ⟨a, b⟩ | ⟨a, b⟩ | ⟨a, b⟩
    · rcases ordS_cases y z with ⟨a', b'⟩ | ⟨a', b'⟩ | ⟨a', b'⟩
      · rcases ordS_cases x z with ⟨a'', b''⟩ | ⟨a'', b''⟩ | ⟨a'', b''⟩
        · omega
        · omega
        · rw [less_asym _ _ (less_trans _ _ _ a a')] at a''; cases a''
      · subst a'; omega
      · omega
    · subst a; exact k
    · omega
def kOf (t : Tm) : Int × (ByteArray × (ByteArray × ByteArray)) := (t.kind, t.ta, t.tb, t.tc)
theorem ordB_lex (x y : Tm) : ordB x y = lexi ordT (lexi ordS (lexi ordS ordS)) (kOf x) (kOf y) := rfl
theorem ord_whole : Whole (lexi ordT (lexi ordS (lexi ordS ordS))) := ordT_whole.lexi (ordS_whole.lexi (ordS_whole.lexi ordS_whole))
theorem ordB_anti (x y : Tm) : ordB y x = - ordB x y := by rw [ordB_lex, ordB_lex]; exact ord_whole.anti _ _
theorem ordB_trans (x y z : Tm) (h : ordB x y ≤ 0) (k : ordB y z ≤ 0) : ordB x z ≤ 0 := by rw [ordB_lex] at *; exact ord_whole.trans _ _ _ h k
theorem ordB_zero (x y : Tm) : ordB x y = 0 ↔ kOf x = kOf y := by rw [ordB_lex]; exact ord_whole.zero _ _
end Go.Proofs.YtbecjlmbalcgeaaDoor
