/-
  more: one more state.
-/
import Derived.Test.YtcbdgbcphfimlaaNfApp
namespace Go.Proofs.Ytcbdgbcphfimlaa
open Go.RowKit
set_option linter.unusedVariables false
set_option linter.unusedSimpArgs false
set_option maxRecDepth 100000

/-- What a call on a machine in the making leaves as it was. -/
structure Kp (B : Nat) (W W' : World) : Prop where
  b : Below B W W'
  k : ∀ g t cs, Fb W g t cs → t ≠ 67 → t ≠ 74 → Fb W' g t cs
theorem Kp.refl (B : Nat) (W : World) : Kp B W W := ⟨Below.refl _ _, fun _ _ _ h _ _ => h⟩
theorem Kp.trans {B : Nat} {W W' W'' : World} (h : Kp B W W') (h' : Kp B W' W'') : Kp B W W'' := ⟨h.b.trans h'.b, fun g t cs hf h1 h2 => h'.k g t cs (h.k g t cs hf h1 h2) h1 h2⟩
theorem Kp.below {B : Nat} {W W' : World} (h : Below W.heap.size W W') (hB : B ≤ W.heap.size) : Kp B W W' := ⟨h.mono hB, fun g t cs hf _ _ => hf.below h⟩
/-- A machine in the making: n states. -/
def MS (B d n : Nat) (xs : List Value) (W : World) : Prop := ∃ A c, Fb W d 67 #[.slice A n c] ∧ W.ownsRow B 74 2 (.slice A n c) n xs ∧ B ≤ d
theorem MS.below {B d n : Nat} {xs : List Value} {W W' : World} (h : MS B d n xs W) (hb : Below W.heap.size W W') : MS B d n xs W' := by
  obtain ⟨A, c, h1, h2, h3⟩ := h
  refine ⟨A, c, h1.below hb, ?_, h3⟩
  rcases id h2.2 with ⟨hv, h0⟩ | ⟨g, cap, cur, hv, hB, hg, hr⟩
  · exact ⟨h2.1, .inl ⟨hv, h0⟩⟩
  · exact ⟨h2.1, .inr ⟨g, cap, cur, hv, hB, (hb.block g (Array.getElem?_eq_some_iff.1 hg).1).trans hg, hr⟩⟩
theorem row_type {B : Nat} {w : World} {e : TypeId} {size n : Nat} {v : Value} {xs : List Value} (h : w.ownsRow B e size v n xs) {k : Nat} (hk : v.ownBlock = some k) : ∃ cs, Fb w k e cs := by
  rcases id h.2 with ⟨hv, _⟩ | ⟨g, cap, cur, hv, hB, hg, hr⟩
  · rw [hv] at hk; cases hk
  · rw [hv] at hk
    have : g = k := by simpa [Value.ownBlock] using hk
    subst this
    exact ⟨_, hg⟩
set_option maxHeartbeats 8000000 in
theorem more_any {B d n : Nat} {xs : List Value} {W : World} (h : MS B d n xs W) (hn : n ≤ 1000) (hB : B ≤ W.heap.size) :
    Calls Try.prog 30 #[.pointer (some ⟨d, 0, none⟩)] W fun e w' => e = .returned (.int .i64 (n : Int)) ∧ MS B d (n + 1) (xs ++ [.slice none 0 0, .bool false]) w' ∧ Kp B W w' := by
  obtain ⟨A, c, hF, hrow, hd⟩ := h
  obtain ⟨i0, hi0, hi1, hi2, hi3⟩ := info_parts nfState
  have d0 := hF.cell 0
  have HF := Lib.hid hF
  have HRow := Lib.hid hrow
  have HD := Lib.hid hd
  have HB := Lib.hid hB
  have hd2 : d < W.heap.size := hF.lt
  have hn0 : (0 : Int) ≤ (n : Int) := by omega
  have hn1 : (n : Int) ≤ 1000 := by omega
  have HN := Lib.hid hn
  clear hF hrow hd hB hn
  go_enter Try.func30, Try.ntmps30
  go_wp2_with (at_builtin; refine wpList_append_own _ rfl _ _ 65 rfl B 74 i0 (.agg #[.slice none 0 0, .bool false]) 2 32 Try.underlying65 hi0 hi1 hi2 hi3 rfl (by decide) _ _ _ rfl (HRow.out.alloc _) ⟨W.heap.size, 0, none⟩ 1 1 [.slice none 0 0, .bool false] rfl rfl ?c1 ?c2 ?c3 ?c4 ?c5 ?_)
  try (case c1 =>
    intro j u hj
    rw [at_add, Nat.zero_add]
    match j, hj with
    | 0, hj => simp at hj; subst hj; exact (Fb.new W 74 #[.slice none 0 0, .bool false]).cell 0
    | 1, hj => simp at hj; subst hj; exact (Fb.new W 74 #[.slice none 0 0, .bool false]).cell 1)
  try (case c2 => first | rfl | decide | (intro u hu; simp at hu; rcases hu with rfl | rfl <;> rfl) | simp)
  try (case c3 => have := HN.out; unfold maxLen; omega)
  try (case c4 => have := HN.out; omega)
  try (case c5 => first | (have := HB.out; rw [World.size_alloc]; omega) | (have := HB.out; simp; omega) | exact HB.out | (have := HN.out; unfold maxLen; omega) | (have := HN.out; omega) | (have := HN.out; go_num))
  intro v' w3 hown hgrow _
  obtain ⟨g, cg, rfl, hc, hBg, hlt, hcell⟩ := own_at hown (by omega)
  have keep : ∀ k t cs, Fb W k t cs → t ≠ 74 → Fb w3 k t cs := fun k t cs hk ht => by
    refine (hgrow.block k (by rw [World.size_alloc]; have := hk.lt; omega) (fun e => ?_)).trans (hk.alloc _)
    obtain ⟨cs', h'⟩ := row_type HRow.out e.symm
    have : t = 74 := by
      unfold Fb at hk h'
      rw [hk] at h'
      injection h' with h'
      injection h' with _ h'
    exact ht this
  have hF3 := keep d _ _ HF.out (by decide)
  have x0 := hF3.cell 0
  have xf := hF3.free 0
  have hb3 : Below B W w3 := (((Below.refl B W).alloc HB.out _).grown hgrow (by rw [World.size_alloc]; have := HB.out; omega) (fun k hk => (World.ownsRow.lt HRow.out k hk).1))
  have hne : g ≠ d := fun e => by
    obtain ⟨cs', h'⟩ := row_type hown (k := g) rfl
    unfold Fb at hF3 h'
    rw [e] at h'
    rw [h'] at hF3
    injection hF3 with h1
    injection h1 with _ h1
    exact absurd h1 (by decide)
  have HMS := Lib.hid (show MS B d (n + 1) (xs ++ [.slice none 0 0, .bool false]) (w3.setCell ⟨d, 0, none⟩ (.slice (some ⟨g, 0, none⟩) (n + 1) cg)) from by
    refine ⟨_, _, hF3.set 0 _, ?_, HD.out⟩
    rcases id hown.2 with ⟨hv, h0⟩ | ⟨g', cap, cur, hv, hB', hg, hr⟩
    · exact ⟨hown.1, .inl ⟨hv, h0⟩⟩
    · have : g = g' := by injection hv with e1; injection e1 with e1; exact congrArg Addr.block e1
      subst this
      exact ⟨hown.1, .inr ⟨g, cap, cur, hv, hB', (heap_setCell_other _ _ _ _ hne).trans hg, hr⟩⟩)
  have HK := Lib.hid (show Kp B W (w3.setCell ⟨d, 0, none⟩ (.slice (some ⟨g, 0, none⟩) (n + 1) cg)) from ⟨hb3.setCell HD.out _, fun k t cs hk h1 h2 => (keep k t cs hk h2).far 0 _ (fun e => by
    have hk' := HF.out
    unfold Fb at hk hk'
    rw [e, hk'] at hk
    injection hk with h'
    injection h' with _ h'
    exact h1 h'.symm)⟩)
  have HSz := Lib.hid hF3
  clear hown hgrow hcell keep hb3 hF3
  have y0 : (w3.setCell ⟨d, 0, none⟩ (.slice (some ⟨g, 0, none⟩) (n + 1) cg)).cell? ⟨d, 0, none⟩ = some (.slice (some ⟨g, 0, none⟩) (n + 1) cg) := (HSz.out.set 0 _).cell 0
  go_wp2
  go_ret
  exact ⟨rfl, HMS.out, HK.out⟩
end Go.Proofs.Ytcbdgbcphfimlaa
