/-
  MERGED (a claim has at most 60 files): NgOrd, NfApp.
-/
import Derived.Test.YtghlajfalgdkfaaZ02
import Derived.Deep.RegionHeld3
/-
  The order of symbols, and of moves: any.
-/
namespace Go.Proofs.Ytghlajfalgdkfaa
open Go.RowKit
set_option linter.unusedVariables false
set_option linter.unusedSimpArgs false
set_option maxRecDepth 100000

def ordS (a b : Sy) : Int := if a.2 = b.2 then cmp3 a.1 b.1 else if b.2 = true then -1 else 1
def ordM (x y : Mo) : Int := if ordS x.1 y.1 ≠ 0 then ordS x.1 y.1 else cmp3 x.2 y.2
set_option maxHeartbeats 8000000 in
theorem ordS_any (a b : Int) (p q : Bool) (W : World) : Calls Try.prog 47 #[.agg #[.int .i64 a, .bool p], .agg #[.int .i64 b, .bool q]] W fun e w' => e = .returned (.int .i64 (ordS (a, p) (b, q))) ∧ Below W.heap.size W w' := by
  have HB := Lib.hid (show Below W.heap.size W ((W.alloc (.cells #[.int .i64 a, .bool p] 44)).alloc (.cells #[.int .i64 b, .bool q] 44)) from ((Below.refl _ _).alloc (Nat.le_refl _) _).alloc (by simp) _)
  unfold ordS
  dsimp only
  by_cases hpq : p = q
  · rw [if_pos hpq]
    subst hpq
    unfold cmp3
    by_cases h : a < b
    · rw [if_pos h]
      cases p
      all_goals
        go_enter Try.func47, Try.ntmps47
        go_wp2
        go_ret
        exact ⟨rfl, HB.out⟩
    · rw [if_neg h]
      have h1 : b ≤ a := by omega
      by_cases h2 : b < a
      · rw [if_pos h2]
        cases p
        all_goals
          go_enter Try.func47, Try.ntmps47
          go_wp2
          go_ret
          exact ⟨rfl, HB.out⟩
      · rw [if_neg h2]
        have h3 : a ≤ b := by omega
        cases p
        all_goals
          go_enter Try.func47, Try.ntmps47
          go_wp2
          go_ret
          exact ⟨rfl, HB.out⟩
  · rw [if_neg hpq]
    cases p <;> cases q <;> first | exact absurd rfl hpq | skip
    all_goals
      go_enter Try.func47, Try.ntmps47
      go_wp2
      go_ret
      exact ⟨rfl, HB.out⟩
theorem cmpI_any (a b : Int) (W : World) : Calls Try.prog 68 #[.int .i64 a, .int .i64 b] W fun e w' => e = .returned (.int .i64 (cmp3 a b)) ∧ w' = W := by
  unfold cmp3
  by_cases h : a < b
  · rw [if_pos h]
    go_enter Try.func68, Try.ntmps68
    go_wp2
    go_ret
    exact ⟨rfl, rfl⟩
  · rw [if_neg h]
    have h1 : b ≤ a := by omega
    by_cases h2 : b < a
    · rw [if_pos h2]
      go_enter Try.func68, Try.ntmps68
      go_wp2
      go_ret
      exact ⟨rfl, rfl⟩
    · rw [if_neg h2]
      have h3 : a ≤ b := by omega
      go_enter Try.func68, Try.ntmps68
      go_wp2
      go_ret
      exact ⟨rfl, rfl⟩
theorem or_any {W : World} {g : Nat} {x y : Int} (h0 : W.cell? ⟨g, 0, none⟩ = some (.int .i64 x)) (h1 : W.cell? ⟨g, 1, none⟩ = some (.int .i64 y)) : Calls Try.prog 69 #[.slice (some ⟨g, 0, none⟩) 2 2] W fun e w' => e = .returned (.int .i64 (if x ≠ 0 then x else y)) ∧ w' = W := by
  by_cases hx : x = 0
  · rw [if_neg (by simp [hx])]
    subst hx
    by_cases hy : y = 0
    · subst hy
      go_enter Try.func69, Try.ntmps69
      go_wp2
      go_loopg [8] 2 (fun g s8 wr => W = wr ∧ ((g = 2 ∧ s8 = .int .i64 0) ∨ (g = 1 ∧ s8 = .int .i64 1) ∨ (g = 0 ∧ s8 = .int .i64 2)))
      case atStart => exact ⟨rfl, .inl ⟨rfl, rfl⟩⟩
      case round =>
        obtain ⟨rfl, hr⟩ := hrel
        rcases hr with ⟨hg, rfl⟩ | ⟨hg, rfl⟩ | ⟨hg, rfl⟩
        · subst hg
          go_wp2
          go_roundg 1
          case measure => exact Nat.lt_succ_self _
          case rel => exact ⟨rfl, .inr (.inl ⟨rfl, rfl⟩)⟩
        · subst hg
          go_wp2
          go_roundg 0
          case measure => exact Nat.lt_succ_self _
          case rel => exact ⟨rfl, .inr (.inr ⟨rfl, rfl⟩)⟩
        · subst hg
          go_wp2
          go_ret
          exact ⟨rfl, rfl⟩
    · go_enter Try.func69, Try.ntmps69
      go_wp2
      go_loopg [8] 1 (fun g s8 wr => W = wr ∧ ((g = 1 ∧ s8 = .int .i64 0) ∨ (g = 0 ∧ s8 = .int .i64 1)))
      case atStart => exact ⟨rfl, .inl ⟨rfl, rfl⟩⟩
      case round =>
        obtain ⟨rfl, hr⟩ := hrel
        rcases hr with ⟨hg, rfl⟩ | ⟨hg, rfl⟩
        · subst hg
          go_wp2
          go_roundg 0
          case measure => exact Nat.lt_succ_self _
          case rel => exact ⟨rfl, .inr ⟨rfl, rfl⟩⟩
        · subst hg
          go_wp2
          go_ret
          exact ⟨rfl, rfl⟩
  · rw [if_pos hx]
    go_enter Try.func69, Try.ntmps69
    go_wp2
    go_loopg [8] 0 (fun g s8 wr => W = wr ∧ s8 = .int .i64 0)
    case atStart => exact ⟨rfl, rfl⟩
    case round =>
      obtain ⟨rfl, rfl⟩ := hrel
      go_wp2
      go_ret
      exact ⟨rfl, rfl⟩
set_option maxHeartbeats 8000000 in
theorem before_any (a t b u : Int) (p q : Bool) (W : World) : Calls Try.prog 54 #[.agg #[.int .i64 a, .bool p, .int .i64 t], .agg #[.int .i64 b, .bool q, .int .i64 u]] W fun e w' => e = .returned (.int .i64 (if ordS (a, p) (b, q) ≠ 0 then ordS (a, p) (b, q) else cmp3 t u)) ∧ Below W.heap.size W w' := by
  obtain ⟨W1, hW1⟩ : ∃ W1, W1 = (W.alloc (.cells #[.int .i64 a, .bool p, .int .i64 t] 84)).alloc (.cells #[.int .i64 b, .bool q, .int .i64 u] 84) := ⟨_, rfl⟩
  have hb : Below W.heap.size W W1 := by rw [hW1]; exact ((Below.refl _ _).alloc (Nat.le_refl _) _).alloc (by simp) _
  have hA : Fb W1 W.heap.size 84 #[.int .i64 a, .bool p, .int .i64 t] := by rw [hW1]; exact (Fb.new W _ _).alloc _
  have hC : Fb W1 (W.heap.size + 1) 84 #[.int .i64 b, .bool q, .int .i64 u] := by
    have := Fb.new (W.alloc (.cells #[.int .i64 a, .bool p, .int .i64 t] 84)) 84 #[.int .i64 b, .bool q, .int .i64 u]
    rw [World.size_alloc] at this
    rw [hW1]; exact this
  have HB := Lib.hid hb
  have a0 := hA.cell 0
  have a1 := hA.cell 1
  have a2 := hA.cell 2
  have c0 := hC.cell 0
  have c1 := hC.cell 1
  have c2 := hC.cell 2
  have cO := fun W => ordS_any a b p q W
  have cC := fun W => cmpI_any t u W
  generalize ordS (a, p) (b, q) = o at cO ⊢
  generalize cmp3 t u = k at cC ⊢
  have cR : ∀ (W : World) (g : Nat), W.cell? ⟨g, 0, none⟩ = some (.int .i64 o) → W.cell? ⟨g, 1, none⟩ = some (.int .i64 k) → Calls Try.prog 69 #[.slice (some ⟨g, 0, none⟩) 2 2] W fun e w' => e = .returned (.int .i64 (if o ≠ 0 then o else k)) ∧ w' = W := fun W g h0 h1 => or_any h0 h1
  generalize (if o ≠ 0 then o else k) = r at cR ⊢
  clear hb hA hC
  go_enter Try.func54, Try.ntmps54
  go_wp2
  rw [← hW1]
  clear hW1
  go_region_held3 (fun w => w.cell? ⟨W.heap.size, 0, none⟩ = some (.int .i64 a) ∧ w.cell? ⟨W.heap.size, 1, none⟩ = some (.bool p) ∧ w.cell? ⟨W.heap.size, 2, none⟩ = some (.int .i64 t) ∧ w.cell? ⟨W.heap.size + 1, 0, none⟩ = some (.int .i64 b) ∧ w.cell? ⟨W.heap.size + 1, 1, none⟩ = some (.bool q) ∧ w.cell? ⟨W.heap.size + 1, 2, none⟩ = some (.int .i64 u))
    (first | exact ⟨a0, a1, a2, c0, c1, c2⟩ | exact ⟨cell_below a0 hB, cell_below a1 hB, cell_below a2 hB, cell_below c0 hB, cell_below c1 hB, cell_below c2 hB⟩ | exact ⟨cell_below a0 (hB.alloc hB.size _), cell_below a1 (hB.alloc hB.size _), cell_below a2 (hB.alloc hB.size _), cell_below c0 (hB.alloc hB.size _), cell_below c1 (hB.alloc hB.size _), cell_below c2 (hB.alloc hB.size _)⟩)
    (first
      | (go_at_call 69; (with_reducible refine (cR _ _ ((Fb.new _ 3 #[.int .i64 o, .int .i64 k]).cell 0) ((Fb.new _ 3 #[.int .i64 o, .int .i64 k]).cell 1)).mono ?_); rintro e w2 ⟨rfl, rfl⟩)
      | (go_at_call 68; (with_reducible refine (cC _).mono ?_); rintro e w1 ⟨rfl, rfl⟩)
      | (go_at_call 47; (with_reducible refine (cO _).mono ?_); rintro e w1 ⟨rfl, hB0⟩; have hB := (Below.drew (Below.refl W1.heap.size W1)).trans hB0)
      | fail)
  all_goals
    have HB5 := Lib.hid (HB.out.trans ((hB.alloc hB.size (.cells #[.int .i64 o, .int .i64 k] 3)).mono HB.out.size))
    clear hB
    go_wp2
    go_ret
    exact ⟨rfl, HB5.out⟩
/-! ### The order is a whole one -/
theorem cmp3_neg (a b : Int) : cmp3 a b < 0 ↔ a < b := by unfold cmp3; split <;> (try split) <;> omega
theorem cmp3_zero (a b : Int) : cmp3 a b = 0 ↔ a = b := by unfold cmp3; split <;> (try split) <;> omega
theorem ordS_zero (a b : Sy) : ordS a b = 0 ↔ a = b := by
  obtain ⟨a, p⟩ := a
  obtain ⟨b, q⟩ := b
  unfold ordS
  cases p <;> cases q <;> simp [cmp3_zero]
def ltS (a b : Sy) : Prop := (a.2 = b.2 ∧ a.1 < b.1) ∨ (a.2 = false ∧ b.2 = true)
theorem ordS_neg (a b : Sy) : ordS a b < 0 ↔ ltS a b := by
  obtain ⟨a, p⟩ := a
  obtain ⟨b, q⟩ := b
  unfold ordS ltS
  cases p <;> cases q <;> simp [cmp3_neg]
def ltM (x y : Mo) : Prop := ltS x.1 y.1 ∨ (x.1 = y.1 ∧ x.2 < y.2)
theorem ordM_neg (x y : Mo) : ordM x y < 0 ↔ ltM x y := by
  unfold ordM ltM
  by_cases h : ordS x.1 y.1 = 0
  · rw [if_neg (by simp [h]), cmp3_neg]
    have h' := (ordS_zero _ _).1 h
    constructor
    · intro h1; exact .inr ⟨h', by omega⟩
    · rintro (h1 | ⟨_, h1⟩)
      · have := (ordS_neg _ _).2 h1; omega
      · omega
  · rw [if_pos h, ordS_neg]
    constructor
    · exact .inl
    · rintro (h1 | ⟨h1, _⟩)
      · exact h1
      · exact absurd ((ordS_zero _ _).2 h1) h
theorem ordM_zero (x y : Mo) : ordM x y = 0 ↔ x = y := by
  unfold ordM
  by_cases h : ordS x.1 y.1 = 0
  · rw [if_neg (by simp [h]), cmp3_zero]
    have h' := (ordS_zero _ _).1 h
    constructor
    · intro h1; exact Prod.ext h' (by omega)
    · rintro rfl; rfl
  · rw [if_pos h]
    constructor
    · intro h1; exact absurd h1 h
    · rintro rfl; exact absurd ((ordS_zero _ _).2 rfl) h
theorem ltS_trans {a b c : Sy} (h : ltS a b) (h' : ltS b c) : ltS a c := by
  obtain ⟨a, p⟩ := a
  obtain ⟨b, q⟩ := b
  obtain ⟨c, r⟩ := c
  unfold ltS at *
  cases p <;> cases q <;> cases r <;> simp at * <;> omega
theorem ltS_irrefl (a : Sy) : ¬ ltS a a := by
  obtain ⟨a, p⟩ := a
  unfold ltS
  cases p <;> simp
theorem ltS_tri (a b : Sy) : ltS a b ∨ a = b ∨ ltS b a := by
  obtain ⟨a, p⟩ := a
  obtain ⟨b, q⟩ := b
  unfold ltS
  cases p <;> cases q <;> simp <;> omega
theorem ltM_trans {a b c : Mo} (h : ltM a b) (h' : ltM b c) : ltM a c := by
  rcases h with h | ⟨h, h1⟩ <;> rcases h' with h' | ⟨h', h2⟩
  · exact .inl (ltS_trans h h')
  · exact .inl (h' ▸ h)
  · exact .inl (h ▸ h')
  · exact .inr ⟨h.trans h', by omega⟩
theorem ltM_irrefl (a : Mo) : ¬ ltM a a := by
  rintro (h | ⟨_, h⟩)
  · exact ltS_irrefl _ h
  · omega
theorem ltM_tri (a b : Mo) : ltM a b ∨ a = b ∨ ltM b a := by
  rcases ltS_tri a.1 b.1 with h | h | h
  · exact .inl (.inl h)
  · rcases Nat.lt_trichotomy a.2 b.2 with h1 | h1 | h1
    · exact .inl (.inr ⟨h, h1⟩)
    · exact .inr (.inl (Prod.ext h h1))
    · exact .inr (.inr (.inr ⟨h.symm, h1⟩))
  · exact .inr (.inr (.inl h))
end Go.Proofs.Ytghlajfalgdkfaa

/-
  append to nothing: a new row.
-/
namespace Go.Proofs.Ytghlajfalgdkfaa
open Go.RowKit
set_option linter.unusedVariables false
set_option linter.unusedSimpArgs false
set_option maxRecDepth 100000

theorem info_parts {e : TypeId} {x : Option Value × Nat × Nat} (h : (Try.prog.info? e).map (fun i => (i.zero, i.size, i.bytes)) = some x) : ∃ i, Try.prog.info? e = some i ∧ i.zero = x.1 ∧ i.size = x.2.1 ∧ i.bytes = x.2.2 := by
  cases hi : Try.prog.info? e with
  | none => rw [hi] at h; cases h
  | some i =>
    rw [hi] at h
    simp only [Option.map_some, Option.some.injEq] at h
    exact ⟨i, rfl, by rw [← h], by rw [← h], by rw [← h]⟩
theorem nfInt : (Try.prog.info? 3).map (fun i => (i.zero, i.size, i.bytes)) = some (some (.int .i64 0), 1, 8) := by kernel_rfl
theorem nfMove : (Try.prog.info? 84).map (fun i => (i.zero, i.size, i.bytes)) = some (some (.agg #[.int .i64 0, .bool false, .int .i64 0]), 3, 24) := by kernel_rfl
theorem nfState : (Try.prog.info? 73).map (fun i => (i.zero, i.size, i.bytes)) = some (some (.agg #[.slice none 0 0, .bool false]), 2, 32) := by kernel_rfl
/-- A row with something in it, where it lies. -/
theorem own_at {B : Nat} {w : World} {e : TypeId} {size n : Nat} {v : Value} {xs : List Value} (h : w.ownsRow B e size v n xs) (hn : n ≠ 0) : ∃ g c, v = .slice (some ⟨g, 0, none⟩) n c ∧ n ≤ c ∧ B ≤ g ∧ g < w.heap.size ∧ ∀ j u, xs[j]? = some u → w.cell? ⟨g, j, none⟩ = some u := by
  rcases id h.2 with ⟨_, h0⟩ | ⟨g, cap, cur, hv, hB, hg, hc, _⟩
  · exact absurd h0 hn
  · refine ⟨g, cap, hv, hc, hB, (Array.getElem?_eq_some_iff.1 hg).1, fun j u hj => ?_⟩
    have := h.cells (g := g) (by rw [hv]; rfl) j u hj
    rwa [at_add, Nat.zero_add] at this
theorem app_ints1 (B : Nat) (w : World) (hB : B ≤ w.heap.size) (x : Int) : ∃ g c w', (Builtin.append_ #[51, 51] 51 #[.slice none 0 0, .slice (some ⟨w.heap.size, 0, none⟩) 1 1]).run Try.prog (w.alloc (.cells #[.int .i64 x] 3)) = .ok (.slice (some ⟨g, 0, none⟩) 1 c) w' ∧
    w'.ownsRow B 3 1 (.slice (some ⟨g, 0, none⟩) 1 c) 1 [.int .i64 x] ∧ Below w.heap.size w w' ∧ w'.cell? ⟨g, 0, none⟩ = some (.int .i64 x) := by
  obtain ⟨i0, hi0, hi1, hi2, hi3⟩ := info_parts nfInt
  obtain ⟨v', w', hap, hown, hgrow, _⟩ := run_append_own (P := Try.prog) (w := w.alloc (.cells #[.int .i64 x] 3)) B 51 51 3 i0 (.int .i64 0) 1 8 Try.underlying51 hi0 hi1 hi2 hi3 rfl (by decide)
    (.slice none 0 0) 0 [] (World.ownsRow_nil _ _ _ _) ⟨w.heap.size, 0, none⟩ 1 1 [.int .i64 x] rfl (fun j u hj => by
      match j, hj with
      | 0, hj => simp at hj; subst hj; simp [Addr.add]) (fun u hu => by simp at hu; subst hu; rfl) (by unfold maxLen; omega) (by omega) (by rw [World.size_alloc]; omega)
  simp only [Nat.zero_add, List.nil_append] at hown
  obtain ⟨g, c, rfl, hc, hBg, hlt, hcell⟩ := own_at hown (by omega)
  exact ⟨g, c, w', hap, hown, ((Below.refl w.heap.size w).alloc (Nat.le_refl _) _).grown hgrow (by simp) (fun k hk => by cases hk), hcell 0 _ rfl⟩
/-- append of one move that lies at the beginning of a row. -/
theorem app_moves1 (w : World) (k c0 : Nat) (N : Int) (h0 : w.cell? ⟨k, 0, none⟩ = some (.int .i64 N)) (h1 : w.cell? ⟨k, 1, none⟩ = some (.bool false)) (h2 : w.cell? ⟨k, 2, none⟩ = some (.int .i64 1)) :
    ∃ g c w', (Builtin.append_ #[67, 67] 67 #[.slice none 0 0, .slice (some ⟨k, 0, none⟩) 1 c0]).run Try.prog w = .ok (.slice (some ⟨g, 0, none⟩) 1 c) w' ∧ 1 ≤ c ∧ w.heap.size ≤ g ∧ g < w'.heap.size ∧ Below w.heap.size w w' ∧
      w'.cell? ⟨g, 0, none⟩ = some (.int .i64 N) ∧ w'.cell? ⟨g, 1, none⟩ = some (.bool false) ∧ w'.cell? ⟨g, 2, none⟩ = some (.int .i64 1) := by
  obtain ⟨i0, hi0, hi1, hi2, hi3⟩ := info_parts nfMove
  obtain ⟨v', w', hap, hown, hgrow, _⟩ := run_append_own (P := Try.prog) (w := w) w.heap.size 67 67 84 i0 (.agg #[.int .i64 0, .bool false, .int .i64 0]) 3 24 Try.underlying67 hi0 hi1 hi2 hi3 (by decide) (by decide)
    (.slice none 0 0) 0 [] (World.ownsRow_nil _ _ _ _) ⟨k, 0, none⟩ 1 c0 [.int .i64 N, .bool false, .int .i64 1] rfl (fun j u hj => by
      rw [at_add, Nat.zero_add]
      match j, hj with
      | 0, hj => simp at hj; subst hj; exact h0
      | 1, hj => simp at hj; subst hj; exact h1
      | 2, hj => simp at hj; subst hj; exact h2) (fun u hu => by simp at hu; rcases hu with rfl | rfl | rfl <;> rfl) (by unfold maxLen; omega) (by omega) (Nat.le_refl _)
  simp only [Nat.zero_add, List.nil_append] at hown
  obtain ⟨g, c, rfl, hc, hBg, hlt, hcell⟩ := own_at hown (by omega)
  exact ⟨g, c, w', hap, hc, hBg, hlt, (Below.refl w.heap.size w).grown hgrow (Nat.le_refl _) (fun k hk => by cases hk), hcell 0 _ rfl, hcell 1 _ rfl, hcell 2 _ rfl⟩
end Go.Proofs.Ytghlajfalgdkfaa
