/-
  MERGED (a claim has at most 60 files): DNew, DArg.
-/
import Derived.Test.YtpnfjjgihkmjmaaZ18
import Derived.Test.YtpnfjjgihkmjmaaZ25
import Derived.Maps.Own
/-
  A DICTIONARY IS MADE; the laws' 'short'; their 'awake'.
-/
namespace Go.Proofs.Ytpnfjjgihkmjmaa
open Go.RowKit
set_option linter.unusedVariables false
set_option linter.unusedSimpArgs false
set_option maxRecDepth 100000

theorem dnew_ok (room : Int) (h1 : 1 ≤ room) (h2 : room ≤ 65536) (w : World) :
    Calls Try.prog 9 #[.int .i64 room] w fun e w' => ∃ d m, e = .returned (.tuple #[.pointer (some ⟨d, 0, none⟩), .int .i64 0]) ∧ Dc w.heap.size d m room (.slice none 0 0) [] w' ∧ Below w.heap.size w w' := by
  have hmm := @run_makeMap Try.prog
  have hend : Dc w.heap.size (w.heap.size + 1) w.heap.size room (.slice none 0 0) [] ((w.alloc (.map #[] 0)).alloc (.cells #[.int .i64 room, .slice none 0 0, .map (some w.heap.size)] 89)) := by
    have e1 : (w.alloc (.map #[] 0)).heap.size = w.heap.size + 1 := by simp
    refine ⟨?_, World.ownsRow_nil _ _ _ _, ⟨#[], 0, ?_, rfl⟩, by omega, Nat.le_refl _, (fun t h => by cases h), List.nodup_nil⟩
    · unfold Fb
      rw [← e1]
      exact heap_alloc_new _ _
    · exact (Below.heap_alloc _ _ _ (by simp)).trans (heap_alloc_new w _)
  have HE := Lib.hid hend
  clear hend
  go_enter Try.func9, Try.ntmps9
  go_wp2
  go_ret2
  exact ⟨_, _, rfl, HE.out, ((Below.refl _ _).alloc (Nat.le_refl _) _).alloc (by simp) _⟩
theorem dnew_bad (room : Int) (h : room < 1 ∨ 65536 < room) (w : World) :
    Calls Try.prog 9 #[.int .i64 room] w fun e w' => e = .returned (.tuple #[.pointer none, .int .i64 2]) ∧ w' = w := by
  rcases h with h | h
  · go_enter Try.func9, Try.ntmps9
    go_wp2
    go_ret2
    exact ⟨rfl, rfl⟩
  · have h1 : ¬ room < 1 := by omega
    go_enter Try.func9, Try.ntmps9
    go_wp2
    go_ret2
    exact ⟨rfl, rfl⟩
/-- A term that isn't long. -/
def shortD (a b c : ByteArray) : Bool := decide (a.size ≤ 300) && (decide (b.size ≤ 300) && decide (c.size ≤ 100))
theorem dshort_any (k : Int) (a b c : ByteArray) (w : World) : Calls Try.prog 10 #[F4 k a b c] w fun e w' => e = .returned (.bool (shortD a b c)) ∧ Below w.heap.size w w' := by
  unfold shortD
  obtain ⟨n1, hn1⟩ : ∃ n, n = a.size := ⟨_, rfl⟩
  obtain ⟨n2, hn2⟩ : ∃ n, n = b.size := ⟨_, rfl⟩
  obtain ⟨n3, hn3⟩ : ∃ n, n = c.size := ⟨_, rfl⟩
  by_cases h1 : a.size ≤ 300
  · rw [decide_eq_true h1]
    have i1 : (a.size : Int) ≤ 300 := by omega
    by_cases h2 : b.size ≤ 300
    · rw [decide_eq_true h2]
      have i2 : (b.size : Int) ≤ 300 := by omega
      by_cases h3 : c.size ≤ 100
      · rw [decide_eq_true h3]
        have i3 : (c.size : Int) ≤ 100 := by omega
        clear h1 h2 h3
        go_enter Try.func10, Try.ntmps10
        go_wp2
        go_ret
        exact ⟨rfl, (Below.refl _ _).alloc (Nat.le_refl _) _⟩
      · rw [decide_eq_false h3]
        have i3 : ¬ (c.size : Int) ≤ 100 := by omega
        clear h1 h2 h3
        go_enter Try.func10, Try.ntmps10
        go_wp2
        go_ret
        exact ⟨rfl, (Below.refl _ _).alloc (Nat.le_refl _) _⟩
    · rw [decide_eq_false h2]
      have i2 : ¬ (b.size : Int) ≤ 300 := by omega
      clear h1 h2
      go_enter Try.func10, Try.ntmps10
      go_wp2
      go_ret
      exact ⟨rfl, (Below.refl _ _).alloc (Nat.le_refl _) _⟩
  · rw [decide_eq_false h1]
    have i1 : ¬ (a.size : Int) ≤ 300 := by omega
    clear h1
    go_enter Try.func10, Try.ntmps10
    go_wp2
    go_ret
    exact ⟨rfl, (Below.refl _ _).alloc (Nat.le_refl _) _⟩
/-! ### awake -/
theorem dplain_any (s : ByteArray) (w : World) : Calls Try.prog 34 #[.string s] w fun e w' => e = .returned (.agg #[.string s, .string XS, .string mt]) ∧ Below w.heap.size w w' := by
  go_enter Try.func34, Try.ntmps34
  go_wp2
  exact bodyPost_ret (v := .agg #[.string s, .string XS, .string mt]) (by simp [results, Try.results34, go_sem]) rfl ⟨rfl, (Below.refl _ _).alloc (Nat.le_refl _) _⟩
theorem good_a : goodT (.lit ⟨#[97]⟩ XS mt) = true := by
  show litG _ _ _ = true
  unfold litG
  rw [textG_of (ascii_parts ⟨#[97]⟩ [97] (by decide) (by decide)), if_pos (by decide), iriG_of (ascii_parts XS (sigs lS) (by decide) (by decide)), ByteArray.toList_eq]
  decide
theorem good_b : goodT (.lit ⟨#[98]⟩ XS mt) = true := by
  show litG _ _ _ = true
  unfold litG
  rw [textG_of (ascii_parts ⟨#[98]⟩ [98] (by decide) (by decide)), if_pos (by decide), iriG_of (ascii_parts XS (sigs lS) (by decide) (by decide)), ByteArray.toList_eq]
  decide
theorem put_a : putP 3 [] (.lit ⟨#[97]⟩ XS mt) = ([.lit ⟨#[97]⟩ XS mt], 0, 0) := by
  unfold putP
  rw [if_pos good_a]
  rfl
theorem put_b : putP 3 [.lit ⟨#[97]⟩ XS mt] (.lit ⟨#[98]⟩ XS mt) = ([.lit ⟨#[97]⟩ XS mt, .lit ⟨#[98]⟩ XS mt], 1, 0) := by
  unfold putP
  rw [if_pos good_b]
  have hs : sameB (.lit ⟨#[98]⟩ XS mt) (.lit ⟨#[97]⟩ XS mt) = false := by
    unfold sameB same4
    simp only [Tm.kind, Tm.ta, Tm.tb, Tm.tc, ByteArray.toList_eq]
    decide
  unfold putG nm
  rw [hs]
  rfl
set_option maxHeartbeats 4000000 in
theorem dawake_ok (w : World) : Calls Try.prog 8 #[] w fun e w' => e = .returned (.bool true) ∧ Below w.heap.size w w' := by
  have cN := dnew_ok 3 (by decide) (by decide) w
  have cP1 : ∀ {B d m : Nat} {v : Value} {W : World}, Dc B d m 3 v [] W → B ≤ W.heap.size → Calls Try.prog 14 #[.pointer (some ⟨d, 0, none⟩), (Tm.lit ⟨#[97]⟩ XS mt).val] W (PutPost B d m 3 v W ([.lit ⟨#[97]⟩ XS mt], 0, 0)) := fun {B d m v W} h hB => by
    have := dput_any h hB (by simp) (.lit ⟨#[97]⟩ XS mt) ⟨by decide, by decide, by decide⟩
    rw [put_a] at this
    exact this
  have cP2 : ∀ {B d m : Nat} {v : Value} {W : World}, Dc B d m 3 v [.lit ⟨#[97]⟩ XS mt] W → B ≤ W.heap.size → Calls Try.prog 14 #[.pointer (some ⟨d, 0, none⟩), (Tm.lit ⟨#[98]⟩ XS mt).val] W (PutPost B d m 3 v W ([.lit ⟨#[97]⟩ XS mt, .lit ⟨#[98]⟩ XS mt], 1, 0)) := fun {B d m v W} h hB => by
    have := dput_any h hB (by simp) (.lit ⟨#[98]⟩ XS mt) ⟨by decide, by decide, by decide⟩
    rw [put_b] at this
    exact this
  have cL : ∀ {B d m : Nat} {v : Value} {W : World}, Dc B d m 3 v [.lit ⟨#[97]⟩ XS mt, .lit ⟨#[98]⟩ XS mt] W → Calls Try.prog 31 #[.pointer (some ⟨d, 0, none⟩)] W fun e w' => e = .returned (.int .i64 2) ∧ w' = W := fun {B d m v W} h => dlen_any h (by simp)
  have cA := dplain_any ⟨#[97]⟩
  have cB := dplain_any ⟨#[98]⟩
  simp only [Tm.val] at cP1 cP2
  go_enter Try.func8, Try.ntmps8
  go_wp2_with (first
    | (go_at_call 9; (with_reducible refine cN.mono ?_); rintro e w1 ⟨d, m, rfl, hD1, hb1⟩)
    | (go_at_call 34; (with_reducible refine (cA _).mono ?_); rintro e w2 ⟨rfl, hb2⟩; have hD2 := hD1.below hb2; have hB2 := hb1.trans (hb2.mono hb1.size))
    | (go_at_call 14; (with_reducible refine (cP1 hD2 hB2.size).mono ?_); rintro e w3 ⟨v3, rfl, hD3, hT3⟩; have hB3 := hT3.below hD2 hB2)
    | (go_at_call 34; (with_reducible refine (cB _).mono ?_); rintro e w4 ⟨rfl, hb4⟩; have hD4 := hD3.below hb4; have hB4 := hB3.trans (hb4.mono hB3.size))
    | (go_at_call 14; (with_reducible refine (cP2 hD4 hB4.size).mono ?_); rintro e w5 ⟨v5, rfl, hD5, hT5⟩; have hB5 := hT5.below hD4 hB4)
    | (go_at_call 31; (with_reducible refine (cL hD5).mono ?_); rintro e w6 ⟨rfl, rfl⟩))
  go_ret
  exact ⟨rfl, hB5⟩
end Go.Proofs.Ytpnfjjgihkmjmaa

/-
  A SLICE OF THE DOCUMENT's TERMS AS THE CALL GETS IT.
-/
namespace Go.Proofs.Ytpnfjjgihkmjmaa
open Go.ChangeShapes Go.WideShapes Go.ChangeAt Go.RowKit
set_option linter.unusedVariables false
set_option maxRecDepth 100000

section
variable {H : Type} {enc : TypeId × Value → H} {W : World}
theorem rws_opened {fuel : Nat} {v : Value} {y : DataW H × List MemPlace} (h : DataW.trod enc Try.prog W 0 (fun _ => true) true fuel 28 [v] = some y) (hlt : ∀ z ∈ y.2, z.block < W.heap.size) :
    ∃ A l cap, v = .slice A (List.length (α := Dw) l) cap ∧ l.length ≤ cap ∧ cap ≤ maxLen ∧ SlAt W A 4 (l.map Dw.cells) ∧ ∀ t ∈ l, t.ok := by
  obtain ⟨A, l, cap, hv, h1, h2, h3, h4⟩ := slice_opened Try.underlying28 cellsT_four (by decide) h hlt
  obtain ⟨ts, rfl, hok⟩ := cells_map (p := Dw.ok) (f := Dw.cells) l fun cs hc => by
    obtain ⟨fu, z, hz⟩ := h4 cs hc
    exact rw_opened hz
  rw [List.length_map] at hv h1
  exact ⟨A, ts, cap, hv, h1, h2, h3, hok⟩
end
end Go.Proofs.Ytpnfjjgihkmjmaa
