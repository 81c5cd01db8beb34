/-
  MERGED (a claim has at most 60 files): NgBin.
-/
import Derived.Test.YtghlajfalgdkfaaZ03
import Derived.Test.YtghlajfalgdkfaaZ05
import Derived.Test.YtghlajfalgdkfaaZ06
import Derived.Deep.Cut
/-
  BinarySearchFunc of a move in a row of moves that rise: any.
-/
namespace Go.Proofs.Ytghlajfalgdkfaa
open Go.RowKit
set_option linter.unusedVariables false
set_option linter.unusedSimpArgs false
set_option maxRecDepth 100000

theorem flat_at {L : List Mo} {j t : Nat} {x : Mo} (hj : L[j]? = some x) (ht : t < 3) : (L.flatMap mvc)[j * 3 + t]? = (mvc x)[t]? := by
  rw [← List.getElem?_drop, ← flat_dropK]
  obtain ⟨hlt, rfl⟩ := List.getElem?_eq_some_iff.1 hj
  rw [List.drop_eq_getElem_cons hlt, List.flatMap_cons, List.getElem?_append_left (by rw [mvc_len]; exact ht)]
/-- A move, where it lies. -/
structure MvA (W : World) (g j : Nat) (x : Mo) : Prop where
  a : W.cell? ⟨g, j * 3, none⟩ = some (.int .i64 x.1.1)
  b : W.cell? ⟨g, j * 3 + 1, none⟩ = some (.bool x.1.2)
  c : W.cell? ⟨g, j * 3 + 2, none⟩ = some (.int .i64 (x.2 : Int))
theorem MvA.below {W W' : World} {g j : Nat} {x : Mo} (h : MvA W g j x) (hb : Below W.heap.size W W') : MvA W' g j x := ⟨cell_below h.a hb, cell_below h.b hb, cell_below h.c hb⟩
theorem MvR.at {B g n c : Nat} {W : World} {L : List Mo} (h : MvR B W (.slice (some ⟨g, 0, none⟩) n c) L) {j : Nat} {x : Mo} (hj : L[j]? = some x) : MvA W g j x := by
  have key : ∀ t u, t < 3 → (mvc x)[t]? = some u → W.cell? ⟨g, j * 3 + t, none⟩ = some u := fun t u ht hu => by
    have := h.cells (g := g) rfl (j * 3 + t) u ((flat_at hj ht).trans hu)
    rwa [at_add, Nat.zero_add] at this
  exact ⟨key 0 _ (by decide) rfl, key 1 _ (by decide) rfl, key 2 _ (by decide) rfl⟩
theorem MvR.shape {B : Nat} {W : World} {v : Value} {L : List Mo} (h : MvR B W v L) : ∃ A c, v = .slice A L.length c ∧ (L = [] ∨ ∃ g, A = some ⟨g, 0, none⟩ ∧ B ≤ g ∧ g < W.heap.size) := by
  rcases id h.2 with ⟨hv, hl⟩ | ⟨g, cap, cur, hv, hB, hg, _⟩
  · exact ⟨none, 0, by rw [hv, hl], .inl (List.length_eq_zero_iff.1 hl)⟩
  · exact ⟨_, cap, hv, .inr ⟨g, rfl, hB, (Array.getElem?_eq_some_iff.1 hg).1⟩⟩
/-- Where a move stands among moves that rise. -/
structure BinAt (L : List Mo) (x : Mo) (k : Nat) (b : Bool) : Prop where
  le : k ≤ L.length
  lo : ∀ j y, j < k → L[j]? = some y → ltM y x
  hi : ∀ j y, k ≤ j → L[j]? = some y → ¬ ltM y x
  eq : b = true ↔ L[k]? = some x
def BinQ (L : List Mo) (x : Mo) (W : World) (e : Ending) (w' : World) : Prop := ∃ (k : Nat) (b : Bool), e = .returned (.tuple #[.int .i64 (k : Int), .bool b]) ∧ BinAt L x k b ∧ Below W.heap.size W w'
def BnR (W1 : World) (L : List Mo) (x : Mo) (gk : Nat) (s9 s10 : Value) (wr : World) : Prop := ∃ lo hi : Nat, s9 = .int .i64 (lo : Int) ∧ s10 = .int .i64 (hi : Int) ∧ lo ≤ hi ∧ hi ≤ L.length ∧ hi - lo ≤ gk ∧ Below W1.heap.size W1 wr ∧ (∀ j y, j < lo → L[j]? = some y → ltM y x) ∧ ∀ j y, hi ≤ j → L[j]? = some y → ¬ ltM y x
theorem rise_lt {L : List Mo} (hs : L.Pairwise ltM) {i j : Nat} {x y : Mo} (hij : i < j) (hx : L[i]? = some x) (hy : L[j]? = some y) : ltM x y := by
  obtain ⟨h1, rfl⟩ := List.getElem?_eq_some_iff.1 hx
  obtain ⟨h2, rfl⟩ := List.getElem?_eq_some_iff.1 hy
  exact List.pairwise_iff_getElem.1 hs i j h1 h2 hij
set_option maxHeartbeats 16000000 in
theorem bin_any {B : Nat} {W : World} {v : Value} {L : List Mo} (h : MvR B W v L) (hs : L.Pairwise ltM) (hl : L.length ≤ 1000) (a t : Int) (p : Bool) (x : Mo) (hx : x = ((a, p), t.toNat)) (ht : 0 ≤ t) :
    Calls Try.prog 53 #[v, .agg #[.int .i64 a, .bool p, .int .i64 t], .func (.func 54) #[] #[]] W (BinQ L x W) := by
  obtain ⟨W1, hW1⟩ : ∃ W1, W1 = W.alloc (.cells #[.int .i64 a, .bool p, .int .i64 t] 84) := ⟨_, rfl⟩
  have hb : Below W.heap.size W W1 := by rw [hW1]; exact (Below.refl _ _).alloc (Nat.le_refl _) _
  have hF : Fb W1 W.heap.size 84 #[.int .i64 a, .bool p, .int .i64 t] := by rw [hW1]; exact Fb.new W _ _
  obtain ⟨A, c, rfl, hA⟩ := h.shape
  have HB := Lib.hid hb
  have HF := Lib.hid hF
  have HS := Lib.hid hs
  have eg := cf_bef
  have hn0 : (0 : Int) ≤ (L.length : Int) := by omega
  have hn1 : (L.length : Int) ≤ 1000 := by omega
  -- what before answers of the move at a place
  have hcmp : ∀ (y : Mo), (if ordS y.1 (a, p) ≠ 0 then ordS y.1 (a, p) else cmp3 (y.2 : Int) t) = ordM y x := fun y => by
    rw [hx]
    unfold ordM
    dsimp only
    rw [Int.toNat_of_nonneg ht]
  have HC : Hid (∀ (w : World) (y : Mo), Calls Try.prog 54 #[.agg #[.int .i64 y.1.1, .bool y.1.2, .int .i64 (y.2 : Int)], .agg #[.int .i64 a, .bool p, .int .i64 t]] w fun e w' => e = .returned (.int .i64 (ordM y x)) ∧ Below w.heap.size w w') := Lib.hid fun w y => by
    have := before_any y.1.1 (y.2 : Int) a t y.1.2 p w
    rw [show ((y.1.1, y.1.2) : Sy) = y.1 from rfl, hcmp y] at this
    exact this
  clear hcmp
  have HM := Lib.hid (fun (w : World) (hw : Below W.heap.size W w) (g : Nat) (hg : A = some ⟨g, 0, none⟩) (j : Nat) (y : Mo) (hj : L[j]? = some y) => (MvR.at (by rw [hg] at h; exact h) hj : MvA W g j y).below hw)
  have HA := Lib.hid hA
  clear hb hF h hs hl hA hx ht
  go_enter Try.func53, Try.ntmps53
  go_wp2
  rw [← hW1]
  clear hW1
  go_loopg [9, 10] L.length (fun g s9 s10 wr => BnR W1 L x g s9 s10 wr)
  case atStart => exact ⟨0, L.length, rfl, rfl, Nat.zero_le _, Nat.le_refl _, by omega, Below.refl _ _, fun j y hj => absurd hj (Nat.not_lt_zero _), fun j y h1 h2 => by have := (List.getElem?_eq_some_iff.1 h2).1; omega⟩
  case round =>
    obtain ⟨lo, hi, rfl, rfl, hlh, hin, hgk, hbr, hI1, hI2⟩ := hrel
    have I1 := Lib.hid hI1
    have I2 := Lib.hid hI2
    have HBR := Lib.hid hbr
    clear hI1 hI2
    by_cases hlt : lo < hi
    · have hy := List.getElem?_eq_getElem (show (lo + hi) / 2 < L.length by omega)
      obtain ⟨y, hY⟩ : ∃ y, y = L[(lo + hi) / 2] := ⟨_, rfl⟩
      rw [← hY] at hy
      obtain ⟨g, hg, hBg, hgl⟩ := HA.out.resolve_left (fun e => by rw [e] at hin; simp at hin; omega)
      have hm := HM.out wr (HB.out.trans (hbr.mono HB.out.size)) g hg _ _ hy
      subst hg
      obtain ⟨k, hk⟩ : ∃ k, k = (lo + hi) / 2 := ⟨_, rfl⟩
      have hkI : ((lo : Int) + (hi : Int)) / 2 = (k : Int) := by omega
      rw [← hk] at hm hy
      have m0 := hm.a
      have m1 := hm.b
      have m2 := hm.c
      have hF9 := HF.out.below hbr
      have f0 := hF9.cell 0
      have f1 := hF9.cell 1
      have f2 := hF9.cell 2
      have k0 : (0 : Int) ≤ (k : Int) := by omega
      have k1 : (k : Int) < (L.length : Int) := by omega
      have k2 : (lo : Int) < (hi : Int) := by omega
      have k3 : (hi : Int) ≤ 1000 := by omega
      have HK := Lib.hid (And.intro hk (And.intro hlt (And.intro hin (And.intro hgk hy))))
      have cB := HC.out wr.drew y
      clear hbr hlh hk hin hgk hy hm hF9 hY hlt hBg hgl
      go_wp2
      clear hkI k3
      generalize hr : ordM y x = r at cB
      by_cases hr0 : r < 0
      · go_region_held3 (fun w => w.cell? ⟨W.heap.size, 0, none⟩ = some (.int .i64 a) ∧ w.cell? ⟨W.heap.size, 1, none⟩ = some (.bool p) ∧ w.cell? ⟨W.heap.size, 2, none⟩ = some (.int .i64 t) ∧ w.cell? ⟨g, k * 3, none⟩ = some (.int .i64 y.1.1) ∧ w.cell? ⟨g, k * 3 + 1, none⟩ = some (.bool y.1.2) ∧ w.cell? ⟨g, k * 3 + 2, none⟩ = some (.int .i64 (y.2 : Int)))
          (first | exact ⟨f0, f1, f2, m0, m1, m2⟩ | exact ⟨cell_below f0 hB, cell_below f1 hB, cell_below f2 hB, cell_below m0 hB, cell_below m1 hB, cell_below m2 hB⟩)
          (first
          | (go_at_fn 54; (with_reducible refine cB.mono ?_); rintro e w5 ⟨rfl, hB0⟩; have hB := (Below.drew (Below.refl wr.heap.size wr)).trans hB0)
          | (go_at_call 54; (with_reducible refine cB.mono ?_); rintro e w5 ⟨rfl, hB0⟩; have hB := (Below.drew (Below.refl wr.heap.size wr)).trans hB0)
          | fail)
        all_goals
          have HB5 := Lib.hid (HBR.out.trans (hB.mono HBR.out.size))
          have HR := Lib.hid (And.intro hr hr0)
          clear hB hB0 f0 f1 f2 m0 m1 m2 cB hr
          go_wp2
          go_roundg (hi - (k + 1))
          case measure => obtain ⟨h1, h2, h3, h4, _⟩ := HK.out; omega
          case rel =>
            obtain ⟨h1, h2, h3, h4, h5⟩ := HK.out
            have hyx : ltM y x := (ordM_neg y x).1 (by rw [HR.out.1]; exact HR.out.2)
            exact ⟨k + 1, hi, by rw [Int.natCast_add]; rfl, rfl, by omega, h3, Nat.le_refl _, HB5.out, fun j z hj hz => by
              rcases Nat.lt_or_ge j k with h | h
              · exact ltM_trans (rise_lt HS.out h hz h5) hyx
              · obtain rfl : j = k := by omega
                rw [h5] at hz; injection hz with hz; exact hz ▸ hyx, I2.out⟩
      · go_region_held3 (fun w => w.cell? ⟨W.heap.size, 0, none⟩ = some (.int .i64 a) ∧ w.cell? ⟨W.heap.size, 1, none⟩ = some (.bool p) ∧ w.cell? ⟨W.heap.size, 2, none⟩ = some (.int .i64 t) ∧ w.cell? ⟨g, k * 3, none⟩ = some (.int .i64 y.1.1) ∧ w.cell? ⟨g, k * 3 + 1, none⟩ = some (.bool y.1.2) ∧ w.cell? ⟨g, k * 3 + 2, none⟩ = some (.int .i64 (y.2 : Int)))
          (first | exact ⟨f0, f1, f2, m0, m1, m2⟩ | exact ⟨cell_below f0 hB, cell_below f1 hB, cell_below f2 hB, cell_below m0 hB, cell_below m1 hB, cell_below m2 hB⟩)
          (first
          | (go_at_fn 54; (with_reducible refine cB.mono ?_); rintro e w5 ⟨rfl, hB0⟩; have hB := (Below.drew (Below.refl wr.heap.size wr)).trans hB0)
          | (go_at_call 54; (with_reducible refine cB.mono ?_); rintro e w5 ⟨rfl, hB0⟩; have hB := (Below.drew (Below.refl wr.heap.size wr)).trans hB0)
          | fail)
        all_goals
          have HB5 := Lib.hid (HBR.out.trans (hB.mono HBR.out.size))
          have HR := Lib.hid (And.intro hr hr0)
          clear hB hB0 f0 f1 f2 m0 m1 m2 cB hr
          go_wp2
          go_roundg (k - lo)
          case measure => obtain ⟨h1, h2, h3, h4, _⟩ := HK.out; omega
          case rel =>
            obtain ⟨h1, h2, h3, h4, h5⟩ := HK.out
            have hyx : ¬ ltM y x := fun h => by
              have h1 := (ordM_neg y x).2 h
              have h2 := HR.out.2
              have h3 := HR.out.1
              omega
            exact ⟨lo, k, rfl, rfl, by omega, by omega, Nat.le_refl _, HB5.out, I1.out, fun j z hj hz h => by
              rcases Nat.lt_or_ge k j with h' | h'
              · exact hyx (ltM_trans (rise_lt HS.out h' h5 hz) h)
              · obtain rfl : j = k := by omega
                rw [h5] at hz; injection hz with hz; exact hyx (hz ▸ h)⟩
    · obtain rfl : hi = lo := by omega
      by_cases hlen : hi < L.length
      · have hy := List.getElem?_eq_getElem hlen
        obtain ⟨y, hY⟩ : ∃ y, y = L[hi] := ⟨_, rfl⟩
        rw [← hY] at hy
        obtain ⟨g, hg, hBg, hgl⟩ := HA.out.resolve_left (fun e => by rw [e] at hlen; simp at hlen)
        have hm := HM.out wr (HB.out.trans (hbr.mono HB.out.size)) g hg _ _ hy
        subst hg
        obtain ⟨k, hk⟩ : ∃ k, k = hi := ⟨_, rfl⟩
        rw [← hk] at hm hy I1 I2 hlen ⊢
        have m0 := hm.a
        have m1 := hm.b
        have m2 := hm.c
        have hF9 := HF.out.below hbr
        have f0 := hF9.cell 0
        have f1 := hF9.cell 1
        have f2 := hF9.cell 2
        have k0 : (0 : Int) ≤ (k : Int) := by omega
        have k1 : (k : Int) < (L.length : Int) := by omega
        have HK := Lib.hid (And.intro hlen hy)
        have cB := HC.out wr.drew y
        clear hbr hlh hk hin hgk hy hm hF9 hY hlt hBg hgl hlen
        generalize hr : ordM y x = r at cB
        go_wp2
        go_region_held3 (fun w => w.cell? ⟨W.heap.size, 0, none⟩ = some (.int .i64 a) ∧ w.cell? ⟨W.heap.size, 1, none⟩ = some (.bool p) ∧ w.cell? ⟨W.heap.size, 2, none⟩ = some (.int .i64 t) ∧ w.cell? ⟨g, k * 3, none⟩ = some (.int .i64 y.1.1) ∧ w.cell? ⟨g, k * 3 + 1, none⟩ = some (.bool y.1.2) ∧ w.cell? ⟨g, k * 3 + 2, none⟩ = some (.int .i64 (y.2 : Int)))
          (first | exact ⟨f0, f1, f2, m0, m1, m2⟩ | exact ⟨cell_below f0 hB, cell_below f1 hB, cell_below f2 hB, cell_below m0 hB, cell_below m1 hB, cell_below m2 hB⟩)
          (first
          | (go_at_fn 54; (with_reducible refine cB.mono ?_); rintro e w5 ⟨rfl, hB0⟩; have hB := (Below.drew (Below.refl wr.heap.size wr)).trans hB0)
          | (go_at_call 54; (with_reducible refine cB.mono ?_); rintro e w5 ⟨rfl, hB0⟩; have hB := (Below.drew (Below.refl wr.heap.size wr)).trans hB0)
          | fail)
        all_goals
          have HB5 := Lib.hid (HBR.out.trans (hB.mono HBR.out.size))
          have HR := Lib.hid hr
          clear hB hB0 f0 f1 f2 m0 m1 m2 cB hr
          go_wp2
          go_ret2
          refine ⟨k, _, rfl, ⟨Nat.le_of_lt HK.out.1, I1.out, I2.out, ?_⟩, HB.out.trans (HB5.out.mono HB.out.size)⟩
          rw [HK.out.2]
          have := ordM_zero y x
          rw [HR.out] at this
          simp [this]
      · obtain rfl : hi = L.length := by omega
        have k1 : ¬ ((L.length : Int) < (L.length : Int)) := by omega
        clear hbr hlh hgk hlt hin hlen
        go_wp2
        go_quiet (fail)
        go_wp2
        go_ret2
        refine ⟨L.length, false, rfl, ⟨Nat.le_refl _, I1.out, I2.out, ?_⟩, HB.out.trans (below_drewP HBR.out _ |>.mono HB.out.size)⟩
        simp
end Go.Proofs.Ytghlajfalgdkfaa
