/-
  append of a row of one to none; of none.
-/
import Derived.Test.YtcbdgbcphfimlaaNfLy
import Derived.Laws.AppendOwnNone
namespace Go.Proofs.Ytcbdgbcphfimlaa
open Go.RowKit
set_option linter.unusedVariables false
set_option linter.unusedSimpArgs false
set_option maxRecDepth 100000

theorem Mv1.own {B : Nat} {W : World} {v : Value} {N : Int} (h : W.ownsRow B 85 3 v 1 [.int .i64 N, .bool false, .int .i64 1]) : ∃ g c, v = .slice (some ⟨g, 0, none⟩) 1 c ∧ Mv1 W g c N := by
  obtain ⟨g, c, rfl, hc, _, _, hcell⟩ := own_at h (by decide)
  obtain ⟨cs, hf⟩ := row_type h (k := g) rfl
  exact ⟨g, c, rfl, ⟨hc, ⟨cs, hf⟩, hcell 0 _ rfl, hcell 1 _ rfl, hcell 2 _ rfl⟩⟩
theorem wp_app_mv {ops : Array Oper} {rest : List Oper} {o : Oper} {a : Act} {w : World} {Q : Exit → Act → World → Prop} (hgd : o.guard = none) (s x : Operand)
    (ho : o.op = .call { callee := .builtin .append, args := #[s, x], argTypes := #[68, 68] }) {k ck : Nat} {N : Int} (hs : a.eval s = .slice none 0 0) (hx : a.eval x = .slice (some ⟨k, 0, none⟩) 1 ck) (hm : Mv1 w k ck N)
    (h : ∀ g c w', Mv1 w' g c N → Below w.heap.size w w' → wpList Try.prog ops Q rest (a.put o.dst (.slice (some ⟨g, 0, none⟩) 1 c)) w') : wpList Try.prog ops Q (o :: rest) a w := by
  obtain ⟨i0, hi0, hi1, hi2, hi3⟩ := info_parts nfMove
  refine wpList_append_own _ hgd s x 68 ho w.heap.size 85 i0 (.agg #[.int .i64 0, .bool false, .int .i64 0]) 3 24 Try.underlying68 hi0 hi1 hi2 hi3 (by decide) (by decide) _ 0 [] hs (World.ownsRow_nil _ _ _ _)
    ⟨k, 0, none⟩ 1 ck [.int .i64 N, .bool false, .int .i64 1] hx rfl ?_ (fun u hu => by simp at hu; rcases hu with rfl | rfl | rfl <;> rfl) (by unfold maxLen; omega) (by omega) (Nat.le_refl _) ?_
  · intro j u hj
    rw [at_add, Nat.zero_add]
    match j, hj with
    | 0, hj => simp at hj; subst hj; exact hm.n0
    | 1, hj => simp at hj; subst hj; exact hm.n1
    | 2, hj => simp at hj; subst hj; exact hm.n2
  · intro v' w' hown hgrow _
    simp only [Nat.zero_add, List.nil_append] at hown
    obtain ⟨g, c, rfl, hm'⟩ := Mv1.own hown
    exact h g c w' hm' ((Below.refl w.heap.size w).grown hgrow (Nat.le_refl _) (fun k hk => by cases hk))
theorem wp_app_in {ops : Array Oper} {rest : List Oper} {o : Oper} {a : Act} {w : World} {Q : Exit → Act → World → Prop} (hgd : o.guard = none) (s x : Operand)
    (ho : o.op = .call { callee := .builtin .append, args := #[s, x], argTypes := #[52, 52] }) {B : Nat} {l : Value} (hs : a.eval s = .slice none 0 0) (hx : a.eval x = l) (hl : w.ownsRow B 3 1 l 1 [.int .i64 1]) (hB : B ≤ w.heap.size)
    (h : ∀ l' w', w'.ownsRow B 3 1 l' 1 [.int .i64 1] → Below w.heap.size w w' → wpList Try.prog ops Q rest (a.put o.dst l') w') : wpList Try.prog ops Q (o :: rest) a w := by
  obtain ⟨i0, hi0, hi1, hi2, hi3⟩ := info_parts nfInt
  obtain ⟨g, c, rfl, hc, _, _, hcell⟩ := own_at hl (by decide)
  refine wpList_append_own _ hgd s x 52 ho B 3 i0 (.int .i64 0) 1 8 Try.underlying52 hi0 hi1 hi2 hi3 (by decide) (by decide) _ 0 [] hs (World.ownsRow_nil _ _ _ _)
    ⟨g, 0, none⟩ 1 c [.int .i64 1] hx rfl ?_ (fun u hu => by simp at hu; subst hu; rfl) (by unfold maxLen; omega) (by omega) hB ?_
  · intro j u hj
    rw [at_add, Nat.zero_add]
    exact hcell j u hj
  · intro v' w' hown hgrow _
    simp only [Nat.zero_add, List.nil_append] at hown
    exact h v' w' hown ((Below.refl w.heap.size w).grown hgrow (Nat.le_refl _) (fun k hk => by cases hk))
theorem wp_app_l0 {ops : Array Oper} {rest : List Oper} {o : Oper} {a : Act} {w : World} {Q : Exit → Act → World → Prop} (hgd : o.guard = none) (s x : Operand)
    (ho : o.op = .call { callee := .builtin .append, args := #[s, x], argTypes := #[52, 52] }) {B : Nat} {l : Value} (hs : a.eval s = l) (hx : a.eval x = .slice none 0 0) (hl : w.ownsRow B 3 1 l 1 [.int .i64 1])
    (h : wpList Try.prog ops Q rest (a.put o.dst l) w) : wpList Try.prog ops Q (o :: rest) a w := by
  obtain ⟨i0, hi0, hi1, hi2, hi3⟩ := info_parts nfInt
  exact wpList_append_own_none hgd s x 52 ho B 3 i0 1 Try.underlying52 hi0 _ 1 [.int .i64 1] hs hl hx h
theorem Ly.first {B d : Nat} {N : Int} {lp : Bool} {f l : Value} {W : World} (h : Ly B d N lp f l W) {g c : Nat} (hm : Mv1 W g c N) : Ly B d N lp (.slice (some ⟨g, 0, none⟩) 1 c) l W := ⟨h.st, ⟨g, c, rfl, hm⟩, h.la, h.hd⟩
theorem Ly.last {B d : Nat} {N : Int} {lp : Bool} {f l l' : Value} {W : World} (h : Ly B d N lp f l W) (hl : W.ownsRow B 3 1 l' 1 [.int .i64 1]) : Ly B d N lp f l' W := ⟨h.st, h.fi, hl, h.hd⟩
/-- What lay answers. -/
def LyQ (B d : Nat) (N : Int) (lp em : Bool) (W : World) (e : Ending) (w' : World) : Prop := ∃ f l, e = .returned (.agg #[f, l, .bool em]) ∧ Ly B d N lp f l w' ∧ Kp B W w'
end Go.Proofs.Ytcbdgbcphfimlaa
