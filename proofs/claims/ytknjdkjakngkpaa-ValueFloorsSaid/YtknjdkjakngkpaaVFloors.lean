/-
  ValueFloors, WHATEVER THE TWO INTEGERS: downwards a quotient is the one towards 0, or one less, just if that is above it: the law returns true, and its arguments read as before.
-/
import Derived.Test.YtknjdkjakngkpaaVFold
import Derived.Test.YtknjdkjakngkpaaRows
import Derived.ProofKit
import Derived.OpenShut
namespace Go.Proofs.Ytknjdkjakngkpaa
open Go.ChangeShapes Go.WideShapes Go.ChangeAt Go.RowKit
set_option linter.unusedVariables false

set_option maxHeartbeats 4000000 in
theorem floors_walk (a : Int) (ha : fit a) (b : Int) (hb : fit b) (w : World) :
    Calls Try.prog 10 #[.int .i64 a, .int .i64 b] w fun e w' => e = .returned (.bool true) ∧ Below w.heap.size w w' := by
  by_cases h0 : b = 0
  · subst h0
    clear ha hb
    go_enter Try.func10, Try.ntmps10
    go_wp2_with (first
      | (go_at_call 11; (with_reducible refine (awake_ok _).mono ?_); rintro e w' ⟨rfl, hbb⟩)
      | (go_at_call 27; (with_reducible refine (div_zero _ _).mono ?_); rintro e w' ⟨rfl, rfl⟩)
      | (go_at_call 28; (with_reducible refine (floor_zero _ _).mono ?_); rintro e w' ⟨rfl, rfl⟩))
    go_ret
    exact ⟨rfl, hbb⟩
  by_cases h1 : a = -9223372036854775808 ∧ b = -1
  · obtain ⟨rfl, rfl⟩ := h1
    clear ha hb h0
    go_enter Try.func10, Try.ntmps10
    go_wp2_with (first
      | (go_at_call 11; (with_reducible refine (awake_ok _).mono ?_); rintro e w' ⟨rfl, hbb⟩)
      | (go_at_call 27; (with_reducible refine (div_over _).mono ?_); rintro e w' ⟨rfl, rfl⟩)
      | (go_at_call 28; (with_reducible refine (floor_over _).mono ?_); rintro e w' ⟨rfl, rfl⟩))
    go_ret
    exact ⟨rfl, hbb⟩
  · have cD : ∀ W, Calls Try.prog 27 #[.int .i64 a, .int .i64 b] W fun e w' => e = .returned (two (a.tdiv b) 0) ∧ W = w' := div_yes a b ha h0 h1
    have cF : ∀ W, Calls Try.prog 28 #[.int .i64 a, .int .i64 b] W fun e w' => e = .returned (two (flr a b) 0) ∧ W = w' := floor_yes a b ha hb h0 h1
    have hq1 : a.tmod b ≠ 0 ∧ (decide (a < 0) != decide (b < 0)) = true → wrap64 (a.tdiv b - 1) = flr a b := by
      intro hc
      have hq := flr_fit a b ha hb h0 h1
      unfold flr at hq ⊢
      rw [if_pos hc] at hq ⊢
      rw [wrap64_is, wr64_fit hq]
    have hq2 : ¬ (a.tmod b ≠ 0 ∧ (decide (a < 0) != decide (b < 0)) = true) → a.tdiv b = flr a b := by
      intro hc
      unfold flr
      rw [if_neg hc]
    obtain ⟨q, hqq⟩ : ∃ q, q = a.tdiv b := ⟨_, rfl⟩
    obtain ⟨f, hff⟩ : ∃ f, f = flr a b := ⟨_, rfl⟩
    rw [← hqq] at cD hq1 hq2
    rw [← hff] at cF hq1 hq2
    have H1 := Lib.hid hq1
    have H2 := Lib.hid hq2
    clear ha hb h1 hqq hff hq1 hq2
    go_enter Try.func10, Try.ntmps10
    go_wp2_with (first
      | (go_at_call 11; (with_reducible refine (awake_ok _).mono ?_); rintro e w' ⟨rfl, hbb⟩)
      | (go_at_call 27; (with_reducible refine (cD _).mono ?_); rintro e w' ⟨rfl, rfl⟩)
      | (go_at_call 28; (with_reducible refine (cF _).mono ?_); rintro e w' ⟨rfl, rfl⟩))
    · go_ret
      have hm : a.tmod b = 0 := by assumption
      exact ⟨ret_bool (by rw [H2.out (fun x => x.1 hm)]; simp), hbb⟩
    · go_ret
      have hs : (a.tmod b != 0) = true ∧ (!decide (a < 0) == decide (b < 0)) = true := by assumption
      exact ⟨ret_bool (by rw [H1.out ⟨by simpa using hs.1, by simpa using hs.2⟩]; simp), hbb⟩
    · go_ret
      have hm : ¬ a.tmod b = 0 := by assumption
      have hs : (a.tmod b != 0) = false ∨ (!decide (a < 0) == decide (b < 0)) = false := by assumption
      refine ⟨ret_bool ?_, hbb⟩
      rw [H2.out ?_]
      · simp
      · rintro ⟨_, hc2⟩
        rcases hs with hs | hs
        · simp [hm] at hs
        · simp at hs hc2
          exact hc2 hs

namespace ValueFloorsF
theorem own : ownKnob Try.prog.godebug = none := by kernel_rfl

set_option maxRecDepth 100000 in
theorem lifted (os : Os) (started : os.Started) (H : Type) (enc : TypeId × Value → H) :
    ReturnsInHanded {} Try.checked os 10 .any (Rows.valueFloorsSpec.pre6 enc Try.prog Try.f10 Rows.valueFloorsRow.domain false) (Rows.valueFloorsSpec.post enc Try.prog Try.f10 false true false false) := by
  refine returnsInHanded_of_change (C := Try.checked) own started (by kernel_rfl) Try.func10
    (ChangeSpec.witness6 (enc := enc) (C := Try.checked) false ⟨#[], #[.int .i64 0, .int .i64 0], []⟩ 8 (by kernel_rfl) (by kernel_rfl) (by kernel_rfl) (by kernel_rfl)) ?_
  intro W base args ds gs before hval0 hW hcnd _
  have hval : ∀ (j : Nat) t v, Try.f10.params[j]? = some t → args[j]? = some v → Value.okWide Try.prog W .any base t v := hval0
  have hW' := hW
  obtain ⟨p, q, hA0, hV, rfl, hfz, hnd⟩ := hW
  have hA : DataW.TrodAll enc Try.prog W 0 (fun _ => true) true Try.f10.params.toList args.toList ds p := hA0
  rw [Try.params10] at hA hval
  obtain ⟨v0, vs0, d0, ds0, p0, q0, hargs, rfl, rfl, h0, r0⟩ := trodAll_cons hA
  obtain ⟨v1, vs1, d1, ds1, p1, q1, rfl, rfl, rfl, h1, r1⟩ := trodAll_cons r0
  obtain ⟨rfl, rfl, rfl⟩ := trodAll_nil r1
  obtain rfl : args = #[v0, v1] := by cases args; simp_all
  obtain ⟨rfl, rfl⟩ := trodVars_none hV
  obtain ⟨x0, rfl, rfl, rfl, w0⟩ := open_int Try.underlying2 (hval 0 2 v0 rfl rfl) h0
  have bd0 := bounds_i64 w0
  obtain ⟨x1, rfl, rfl, rfl, w1⟩ := open_int Try.underlying2 (hval 1 2 v1 rfl rfl) h1
  have bd1 := bounds_i64 w1
  clear hA0 hval0
  simp only [List.append_nil] at hW'
  refine (floors_walk x0 bd0 x1 bd1 W).mono fun e W' ⟨he, hb⟩ => ?_
  subst he
  exact ⟨_, rfl, _, _, _, [], [], [], hW', trodAll_mk1 (shut_bool Try.underlying4 _), trodAll_cons_mk (shut_int Try.underlying2 w0) (trodAll_cons_mk (shut_int Try.underlying2 w1) (trodAll_mk0)), rfl, hb.frame _, fun h => by cases h⟩
end ValueFloorsF
theorem valueFloors_holds : Rows.ValueFloorsSaid :=
  OpenClaim.holds_of_wide 10 Try.f10 rfl rfl rfl rfl rfl rfl rfl ⟨rfl, rfl, rfl, rfl, rfl⟩ rfl rfl rfl rfl rfl (by kernel_rfl) Try.func10 (by kernel_rfl)
    (of_decide_eq_true (by kernel_rfl)) (by unfold Func.isWrapper; first | (rw [if_pos (by decide +kernel)]; kernel_rfl) | (rw [if_neg (by decide +kernel)]; exact ⟨rfl, rfl⟩))
    (fun os started H enc _ => ValueFloorsF.lifted os started H enc)

end Go.Proofs.Ytknjdkjakngkpaa
