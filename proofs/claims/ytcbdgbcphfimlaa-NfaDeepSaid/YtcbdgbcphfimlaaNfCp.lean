/-
  What Compile needs besides.
-/
import Derived.Test.YtcbdgbcphfimlaaNfLb
import Derived.Test.YtcbdgbcphfimlaaNfTk
import Derived.Test.YtcbdgbcphfimlaaNfCk
namespace Go.Proofs.Ytcbdgbcphfimlaa
open Go.RowKit
set_option linter.unusedVariables false
set_option linter.unusedSimpArgs false
set_option maxRecDepth 100000

theorem cp_more (w : World) : Calls Try.prog 30 #[.pointer (some ⟨w.heap.size, 0, none⟩)] (w.alloc (.cells #[.slice none 0 0] 67)) fun e w' => e = .returned (.int .i64 0) ∧ MS w.heap.size w.heap.size 1 [.slice none 0 0, .bool false] w' ∧ Kp w.heap.size (w.alloc (.cells #[.slice none 0 0] 67)) w' := by
  refine (more_any (B := w.heap.size) (d := w.heap.size) (n := 0) (xs := []) (W := w.alloc (.cells #[.slice none 0 0] 67)) ⟨none, 0, Fb.new w _ _, World.ownsRow_nil _ _ _ _, Nat.le_refl _⟩ (by decide) (by rw [World.size_alloc]; omega)).mono ?_
  rintro e w' ⟨rfl, h1, h2⟩
  exact ⟨rfl, h1, h2⟩
theorem cp_lay {B d : Nat} {N kd nn : Int} {A : Option Addr} {m c : Nat} {ks : List Int} {W w : World} (hK : Kd ks) (hC : Chn W N ks ⟨kd, nn, .slice A m c⟩) (hb : Below W.heap.size W w) (hM : MS B d 1 [.slice none 0 0, .bool false] w) (hB : B ≤ w.heap.size) :
    Calls Try.prog 31 #[.pointer (some ⟨d, 0, none⟩), .agg #[.int .i64 kd, .int .i64 nn, .slice A m c]] w (LyQ B d N (lpC ks) (emC ks) w) := by
  have e : (Pa.mk kd nn (.slice A m c)).cs = #[.int .i64 kd, .int .i64 nn, .slice A m c] := by unfold Pa.cs; dsimp only
  have hC' := hC.below hb
  have h := lay_any (B := B) (d := d) (N := N) ks hK (Pa.mk kd nn (.slice A m c)) w hC' hM hB
  rw [e] at h
  exact h
/-- The machine behind lead. -/
structure Lz (B d g c : Nat) (N : Int) (lp : Bool) (cs : Array Value) (W : World) : Prop where
  d0 : Fb W d 67 #[.slice (some ⟨g, 0, none⟩) 2 c]
  g0 : Fb W g 74 cs
  hB : B ≤ g
  f1 : cs[1]? = some (.bool false)
  f3 : cs[3]? = some (.bool false)
  m : ∃ g2 c2, cs[0]? = some (.slice (some ⟨g2, 0, none⟩) 1 c2) ∧ Mv1 W g2 c2 N
  m2 : lp = true → ∃ g1 c1, cs[2]? = some (.slice (some ⟨g1, 0, none⟩) 1 c1) ∧ Mv1 W g1 c1 N
def CpQ (B d : Nat) (N : Int) (lp : Bool) (l : Value) (W : World) (e : Ending) (w' : World) : Prop := ∃ g c cs, e = .returned (.tuple #[]) ∧ Lz B d g c N lp cs w' ∧ w'.ownsRow B 3 1 l 1 [.int .i64 1] ∧ Kp B W w'
theorem cp_lead {B d gs cf : Nat} {N : Int} {lp : Bool} {f l : Value} {W : World} (h : Ly B d N lp f l W) (hs : W.cell? ⟨gs, 0, none⟩ = some (.int .i64 0)) :
    Calls Try.prog 32 #[.pointer (some ⟨d, 0, none⟩), .slice (some ⟨gs, 0, none⟩) 1 cf, f] W (CpQ B d N lp l W) := by
  obtain ⟨⟨g, c, cs, m1, h1, h2, h3, h4, h5, h6, h7, h8, h9⟩, ⟨k, ck, rfl, hm⟩, hl, hd⟩ := id h
  refine (lead_new (i := 0) (cf := cf) h1 h2 (by omega) h4 hs hm h3).mono ?_
  rintro e w' ⟨rfl, g2, c2, q1, q2, q3, q4⟩
  have hsz : 0 < cs.size := (Array.getElem?_eq_some_iff.1 h4).1
  refine ⟨g, c, _, rfl, ⟨q2, q3, h3, ?_, ?_, ⟨g2, c2, ?_, q1⟩, fun e => ?_⟩, own_below hl (fun k cs hk => q4.k k _ _ hk (by decide) (by decide)), q4⟩
  · rw [Array.getElem?_setIfInBounds_ne (by omega)]; exact h5
  · rw [Array.getElem?_setIfInBounds_ne (by omega)]; exact h7
  · simp [Array.getElem?_setIfInBounds, hsz]
  · obtain ⟨g1, c1, rfl, hm1⟩ := h9 e
    refine ⟨g1, c1, ?_, hm1.kp q4⟩
    rw [Array.getElem?_setIfInBounds_ne (by omega)]; exact h6
theorem wp_app_two {ops : Array Oper} {rest : List Oper} {o : Oper} {a : Act} {w : World} {Q : Exit → Act → World → Prop} (hgd : o.guard = none) (s x : Operand)
    (ho : o.op = .call { callee := .builtin .append, args := #[s, x], argTypes := #[52, 52] }) {B b c : Nat} {l : Value} (hs : a.eval s = l) (hx : a.eval x = .slice (some ⟨b, 0, none⟩) 1 c) (hl : w.ownsRow B 3 1 l 1 [.int .i64 1]) (hb : w.cell? ⟨b, 0, none⟩ = some (.int .i64 0)) (hB : B ≤ w.heap.size)
    (h : ∀ g c w', w'.ownsRow B 3 1 (.slice (some ⟨g, 0, none⟩) 2 c) 2 [.int .i64 1, .int .i64 0] → Below B w w' → (∀ k t cs, Fb w k t cs → t ≠ 3 → Fb w' k t cs) → wpList Try.prog ops Q rest (a.put o.dst (.slice (some ⟨g, 0, none⟩) 2 c)) w') : wpList Try.prog ops Q (o :: rest) a w := by
  obtain ⟨i0, hi0, hi1, hi2, hi3⟩ := info_parts nfInt
  refine wpList_append_own _ hgd s x 52 ho B 3 i0 (.int .i64 0) 1 8 Try.underlying52 hi0 hi1 hi2 hi3 (by decide) (by decide) _ 1 [.int .i64 1] hs hl
    ⟨b, 0, none⟩ 1 c [.int .i64 0] hx rfl ?_ (fun u hu => by simp at hu; subst hu; rfl) (by unfold maxLen; omega) (by omega) hB ?_
  · intro j u hj
    rw [at_add, Nat.zero_add]
    match j, hj with
    | 0, hj => simp at hj; subst hj; exact hb
  · intro v' w' hown hgrow _
    have keep : ∀ k t cs, Fb w k t cs → t ≠ 3 → Fb w' k t cs := fun k t cs hk ht => by
      refine (hgrow.block k hk.lt (fun e => ?_)).trans hk
      obtain ⟨cs', h'⟩ := row_type hl e.symm
      have : t = 3 := by
        unfold Fb at hk h'
        rw [hk] at h'
        injection h' with h'
        injection h' with _ h'
      exact ht this
    obtain ⟨g, c', rfl, _⟩ := own_at hown (by decide)
    exact h g c' w' hown ((Below.refl B w).grown hgrow hB (fun k hk => (World.ownsRow.lt hl k hk).1)) keep
theorem Lz.end {B d g c : Nat} {N : Int} {lp em : Bool} {cs cs' : Array Value} {W w : World} (h : Lz B d g c N lp cs W) (hd : Fb w d 67 #[.slice (some ⟨g, 0, none⟩) 2 c]) (hg : Fb w g 74 cs')
    (e0 : cs'[0]? = cs[0]?) (e1 : cs'[1]? = some (.bool em)) (e2 : cs'[2]? = cs[2]?) (e3 : cs'[3]? = some (.bool true)) (hk : ∀ k cs, Fb W k 85 cs → Fb w k 85 cs) : Mc d N em lp w := by
  have km : ∀ g c, Mv1 W g c N → Mv1 w g c N := fun g c hm => by
    obtain ⟨cs', hf⟩ := hm.f
    exact hm.of ((hk g cs' hf).trans hf.symm)
  obtain ⟨g2, c2, q1, q2⟩ := h.m
  have q2 := km _ _ q2
  refine ⟨g, c, g2, c2, ⟨by omega, hd.cell 0, (hg.cell 0).trans (e0.trans q1), q2.n0, q2.n1, q2.n2, q2.c1⟩, (hg.cell 1).trans e1, (hg.cell 3).trans e3, fun e => ?_⟩
  obtain ⟨g1, c1, q3, q4⟩ := h.m2 e
  have q4 := km _ _ q4
  exact ⟨g1, c1, ⟨by omega, hd.cell 0, (hg.cell 2).trans (e2.trans q3), q4.n0, q4.n1, q4.n2, q4.c1⟩⟩
end Go.Proofs.Ytcbdgbcphfimlaa
