/-
  MERGED (a claim has at most 60 files): NgRc, NgRt, NgRh.
-/
import Derived.Test.YtghlajfalgdkfaaZ24
import Derived.Test.YtghlajfalgdkfaaZ16
import Derived.Test.YtghlajfalgdkfaaZ20
import Derived.Test.YtghlajfalgdkfaaZ19
/-
  The reference's Check is what Check answers.
-/
namespace Go.Proofs.Ytghlajfalgdkfaa
open Go.RowKit
set_option linter.unusedVariables false
set_option linter.unusedSimpArgs false
set_option maxRecDepth 100000

set_option maxHeartbeats 8000000 in
theorem rcheck_gen {W : World} {g len c : Nat} {T : List PT} (hR : Rf W g len T) (hlen : len ≤ 1000) {t : PT} (hs : sz t ≤ 1000) (hw : Wd t) {at_ : Nat} (hat : T[at_]? = some t) :
    Calls Try.prog 14 #[.slice (some ⟨g, 0, none⟩) len c, .int .i64 (at_ : Int)] W fun e w' => e = .returned (.int .i64 (chk t)) ∧ Below W.heap.size W w' := by
  have c1 := rdepth_gen (c := c) hR hlen t hs at_ hat
  have c2 := rsize_gen (c := c) hR hlen t hs at_ hat
  have c3 := rform_gen (c := c) hlen t hw W at_ hR hat
  unfold RoQ at c3
  have hsz := hgt_sz t
  unfold chk
  obtain ⟨a, ha⟩ : ∃ a, a = 1 + hgt t := ⟨_, rfl⟩
  obtain ⟨b, hb⟩ : ∃ b, b = sz t := ⟨_, rfl⟩
  obtain ⟨f, hf⟩ : ∃ f, f = frm t := ⟨_, rfl⟩
  rw [← ha] at c1
  rw [← hb] at c2 ⊢
  rw [← hf] at c3 ⊢
  have a0 : (0 : Int) ≤ (a : Int) := by omega
  have a9 : (a : Int) ≤ 1000 := by omega
  have b0 : (0 : Int) ≤ (b : Int) := by omega
  have b9 : (b : Int) ≤ 1000 := by omega
  by_cases h1 : 40 ≤ hgt t
  · rw [if_pos h1]
    have z1 : (40 : Int) < (a : Int) := by omega
    have z2 : 40 < a := by omega
    clear hR hlen hs hw hat c2 c3 hsz ha hb hf h1
    go_enter Try.func14, Try.ntmps14
    go_wp2_with (go_at_call 32; (with_reducible refine c1.mono ?_); rintro e w5 ⟨rfl, rfl⟩)
    go_ret
    exact ⟨rfl, Below.refl _ _⟩
  · rw [if_neg h1]
    have z1 : ¬ ((40 : Int) < (a : Int)) := by omega
    have z2 : ¬ (40 < a) := by omega
    by_cases h2 : 200 < b
    · rw [if_pos h2]
      have y1 : (200 : Int) < (b : Int) := by omega
      clear hR hlen hs hw hat c3 hsz ha hb hf h1
      go_enter Try.func14, Try.ntmps14
      go_wp2_with (first
        | (go_at_call 32; (with_reducible refine c1.mono ?_); rintro e w5 ⟨rfl, rfl⟩)
        | (go_at_call 33; (with_reducible refine c2.mono ?_); rintro e w6 ⟨rfl, rfl⟩))
      go_ret
      exact ⟨rfl, Below.refl _ _⟩
    · rw [if_neg h2]
      have y1 : ¬ ((200 : Int) < (b : Int)) := by omega
      clear hR hlen hs hw hat hsz ha hb hf h1
      cases f with
      | true =>
        go_enter Try.func14, Try.ntmps14
        go_wp2_with (first
          | (go_at_call 32; (with_reducible refine c1.mono ?_); rintro e w5 ⟨rfl, rfl⟩)
          | (go_at_call 33; (with_reducible refine c2.mono ?_); rintro e w6 ⟨rfl, rfl⟩)
          | (go_at_call 34; (with_reducible refine c3.mono ?_); rintro e w7 ⟨rfl, hb7⟩; have HB7 := Lib.hid hb7; clear hb7))
        go_ret
        exact ⟨rfl, HB7.out⟩
      | false =>
        go_enter Try.func14, Try.ntmps14
        go_wp2_with (first
          | (go_at_call 32; (with_reducible refine c1.mono ?_); rintro e w5 ⟨rfl, rfl⟩)
          | (go_at_call 33; (with_reducible refine c2.mono ?_); rintro e w6 ⟨rfl, rfl⟩)
          | (go_at_call 34; (with_reducible refine c3.mono ?_); rintro e w7 ⟨rfl, hb7⟩; have HB7 := Lib.hid hb7; clear hb7))
        go_ret
        exact ⟨rfl, HB7.out⟩
end Go.Proofs.Ytghlajfalgdkfaa

/-
  Words of a path by where they may be parted: plain, as the reference asks.
-/
namespace Go.Proofs.Ytghlajfalgdkfaa
set_option linter.unusedVariables false

theorem seq_step (A : Lg) (As : List Lg) (w : List Sy) : Seql (A :: As) w ↔ ∃ k, k ≤ w.length ∧ A (w.take k) ∧ Seql As (w.drop k) := by
  constructor
  · rintro ⟨u, v, rfl, h1, h2⟩
    exact ⟨u.length, by simp, by simpa using h1, by simpa using h2⟩
  · rintro ⟨k, _, h1, h2⟩
    exact ⟨w.take k, w.drop k, (List.take_append_drop k w).symm, h1, h2⟩
theorem star_step {A : Lg} {w : List Sy} (hw : w ≠ []) : StarL A w ↔ ∃ k, 1 ≤ k ∧ k ≤ w.length ∧ A (w.take k) ∧ (k = w.length ∨ StarL A (w.drop k)) := by
  constructor
  · intro h
    induction h with
    | nil => exact absurd rfl hw
    | @app u v a b ih =>
      by_cases hu : u = []
      · subst hu
        exact ih hw
      · refine ⟨u.length, List.length_pos_iff.2 hu, by simp, by simpa using a, .inr (by simpa using b)⟩
  · rintro ⟨k, _, h2, h3, h4⟩
    have e := (List.take_append_drop k w).symm
    rw [e]
    refine .app h3 ?_
    rcases h4 with h4 | h4
    · rw [h4, List.drop_length]; exact .nil
    · exact h4
theorem plus_step {A : Lg} {w : List Sy} (hw : w ≠ []) : plusL A w ↔ ∃ k, 1 ≤ k ∧ k ≤ w.length ∧ A (w.take k) ∧ (k = w.length ∨ plusL A (w.drop k)) := by
  constructor
  · intro h
    obtain ⟨k, h1, h2, h3, h4⟩ := (star_step hw).1 ((starL_iff A w).2 (.inr h))
    refine ⟨k, h1, h2, h3, ?_⟩
    rcases h4 with h4 | h4
    · exact .inl h4
    · rcases (starL_iff A _).1 h4 with h5 | h5
      · left
        have := congrArg List.length h5
        simp at this
        omega
      · exact .inr h5
  · rintro ⟨k, _, h2, h3, h4⟩
    refine ⟨w.take k, w.drop k, (List.take_append_drop k w).symm, h3, ?_⟩
    rcases h4 with h4 | h4
    · rw [h4, List.drop_length]; exact .nil
    · exact (starL_iff A _).2 (.inr h4)
theorem plus_nil (A : Lg) : plusL A [] ↔ A [] := by
  constructor
  · rintro ⟨u, v, e, h1, _⟩
    have : u = [] := (List.append_eq_nil_iff.1 e.symm).1
    rw [this] at h1; exact h1
  · intro h
    exact ⟨[], [], rfl, h, .nil⟩
/-- What the law NfaStars asks, of words. -/
theorem star_or (A : Lg) (w : List Sy) : StarL A w ↔ (w = [] ∨ plusL A w) := starL_iff A w
theorem plus_seq (A : Lg) (w : List Sy) : plusL A w ↔ CatL A (StarL A) w := Iff.rfl
/-- Of two, one behind the other: where the word is parted. -/
theorem cat_cut (A B : Lg) (w : List Sy) : CatL A B w ↔ ∃ k, k ≤ w.length ∧ A (w.take k) ∧ B (w.drop k) := by
  constructor
  · rintro ⟨u, v, rfl, h1, h2⟩
    exact ⟨u.length, by simp, by simpa using h1, by simpa using h2⟩
  · rintro ⟨k, _, h1, h2⟩
    exact ⟨w.take k, w.drop k, (List.take_append_drop k w).symm, h1, h2⟩
end Go.Proofs.Ytghlajfalgdkfaa

/-
  The reference's words in memory, whole and in parts; what its Takes promises.
-/
namespace Go.Proofs.Ytghlajfalgdkfaa
open Go.RowKit
set_option linter.unusedVariables false
set_option linter.unusedSimpArgs false
set_option maxRecDepth 100000

/-- A word of the reference, where it lies. -/
def WdG (W : World) (A : Option Addr) (n c : Nat) (ws : List Sy) : Prop := n = ws.length ∧ n ≤ c ∧ c ≤ maxLen ∧ ((A = none ∧ c = 0) ∨ ∃ gw ow, A = some ⟨gw, ow, none⟩ ∧ ∀ (j : Nat) (s : Sy), ws[j]? = some s → W.cell? ⟨gw, ow + j * 2, none⟩ = some (.int .i64 s.1) ∧ W.cell? ⟨gw, ow + j * 2 + 1, none⟩ = some (.bool s.2))
theorem WdG.below {W W' : World} {A : Option Addr} {n c : Nat} {ws : List Sy} (h : WdG W A n c ws) (hb : Below W.heap.size W W') : WdG W' A n c ws := by
  obtain ⟨h1, h2, h3, h4⟩ := h
  refine ⟨h1, h2, h3, h4.imp id ?_⟩
  rintro ⟨gw, ow, e, hat⟩
  exact ⟨gw, ow, e, fun j s hj => ⟨cell_below (hat j s hj).1 hb, cell_below (hat j s hj).2 hb⟩⟩
theorem WdG.pre {W : World} {A : Option Addr} {n c k : Nat} {ws : List Sy} (h : WdG W A n c ws) (hk : k ≤ n) : WdG W A k c (ws.take k) := by
  obtain ⟨h1, h2, h3, h4⟩ := h
  refine ⟨by rw [List.length_take]; omega, by omega, h3, h4.imp id ?_⟩
  rintro ⟨gw, ow, e, hat⟩
  refine ⟨gw, ow, e, fun j s hj => ?_⟩
  have hjk : j < k := by have := (List.getElem?_eq_some_iff.1 hj).1; simp at this; omega
  rw [List.getElem?_take_of_lt hjk] at hj
  exact hat j s hj
theorem WdG.suf {W : World} {gw ow n c k : Nat} {ws : List Sy} (h : WdG W (some ⟨gw, ow, none⟩) n c ws) (hk : k ≤ n) : WdG W (some ⟨gw, ow + k * 2, none⟩) (n - k) (c - k) (ws.drop k) := by
  obtain ⟨h1, h2, h3, h4⟩ := h
  refine ⟨by rw [List.length_drop, h1], by omega, by omega, .inr ?_⟩
  rcases h4 with ⟨e, _⟩ | ⟨gw', ow', e, hat⟩
  · cases e
  · injection e with e
    injection e with e1 e2 _
    subst e1 e2
    refine ⟨gw, ow + k * 2, rfl, fun j s hj => ?_⟩
    rw [List.getElem?_drop] at hj
    have := hat (k + j) s hj
    rw [show ow + k * 2 + j * 2 = ow + (k + j) * 2 by omega]
    exact this
theorem WdG.fin {W : World} {gw ow n c k : Nat} {ws : List Sy} (h : WdG W (some ⟨gw, ow, none⟩) n c ws) (hk : n ≤ k) : WdG W (some ⟨gw, ow, none⟩) 0 0 (ws.drop k) := by
  obtain ⟨h1, h2, h3, h4⟩ := h
  have e : ws.drop k = [] := List.drop_eq_nil_of_le (by omega)
  rw [e]
  exact ⟨rfl, Nat.le_refl _, by unfold maxLen; omega, .inr ⟨gw, ow, rfl, fun j s hj => by simp at hj⟩⟩
theorem wdg_nil (W : World) : WdG W none 0 0 [] := ⟨rfl, Nat.le_refl _, by unfold maxLen; omega, .inl ⟨rfl, rfl⟩⟩
theorem SyR.wdg {B n c : Nat} {W : World} {A : Option Addr} {ws : List Sy} (h : SyR 75 B W (.slice A n c) ws) : WdG W A n c ws := by
  have hh := h
  unfold SyR at hh
  rcases id hh.2 with ⟨hv, hl⟩ | ⟨g, cap, cur, hv, hB, hg, hnc, hcm, _⟩
  · obtain ⟨e1, e2, e3⟩ := Value.slice.inj hv
    subst e1 e2 e3
    exact ⟨hl.symm, Nat.le_refl _, by unfold maxLen; omega, .inl ⟨rfl, rfl⟩⟩
  · obtain ⟨e1, e2, e3⟩ := Value.slice.inj hv
    subst e1 e3
    refine ⟨e2, by omega, hcm, .inr ⟨g, 0, rfl, fun j x hj => ?_⟩⟩
    have key : ∀ t u, t < 2 → (syc x)[t]? = some u → W.cell? ⟨g, j * 2 + t, none⟩ = some u := fun t u ht hu => by
      have := World.ownsRow.cells hh (g := g) rfl (j * 2 + t) u ((flat_atS hj ht).trans hu)
      rwa [at_add, Nat.zero_add] at this
    rw [Nat.zero_add]
    exact ⟨key 0 _ (by decide) rfl, key 1 _ (by decide) rfl⟩
def BqR (W : World) (b : Bool) (e : Ending) (w' : World) : Prop := e = .returned (.bool b) ∧ Below W.heap.size W w'
/-- What the reference's Takes promises of a tree and words of at most so many symbols. -/
def RTk (g len c : Nat) (T : List PT) (t : PT) (N : Nat) : Prop := ∀ (W : World) (at_ : Nat) (A : Option Addr) (n cw : Nat) (ws : List Sy) (b : Bool), Rf W g len T → RfC W g T → T[at_]? = some t → WdG W A n cw ws → ws.length ≤ N → (b = true ↔ lang t ws) → Calls Try.prog 16 #[.slice (some ⟨g, 0, none⟩) len c, .int .i64 (at_ : Int), .slice A n cw] W (BqR W b)
/-- A row of places, from one of its places on. -/
def RwS (W : World) (g' j : Nat) (ts T : List PT) : Prop := ∀ (i : Nat) (t : PT), ts[i]? = some t → ∃ q : Nat, W.cell? ⟨g', j + i, none⟩ = some (.int .i64 (q : Int)) ∧ T[q]? = some t
theorem RwS.below {W W' : World} {g' j : Nat} {ts T : List PT} (h : RwS W g' j ts T) (hb : Below W.heap.size W W') : RwS W' g' j ts T := fun i t hi => by
  obtain ⟨q, h1, h2⟩ := h i t hi
  exact ⟨q, cell_below h1 hb, h2⟩
theorem RwS.tail {W : World} {g' j : Nat} {t : PT} {ts T : List PT} (h : RwS W g' j (t :: ts) T) : RwS W g' (j + 1) ts T := fun i u hi => by
  obtain ⟨q, h1, h2⟩ := h (i + 1) u (by simpa using hi)
  exact ⟨q, by rw [show j + 1 + i = j + (i + 1) by omega]; exact h1, h2⟩
theorem bool_ofR (P : Prop) : ∃ b : Bool, b = true ↔ P := by
  by_cases h : P
  · exact ⟨true, by simp [h]⟩
  · exact ⟨false, by simp [h]⟩
def PtR (W : World) (X Y : Lg) (ws : List Sy) (lo gk : Nat) (s : Value) (wr : World) : Prop := ∃ k : Nat, lo ≤ k ∧ k + gk = ws.length + 1 ∧ s = .int .i64 (k : Int) ∧ (∀ i, lo ≤ i → i < k → ¬ (X (ws.take i) ∧ Y (ws.drop i))) ∧ Below W.heap.size W wr
end Go.Proofs.Ytghlajfalgdkfaa
