/-
  ValueOrders, WHATEVER THE THREE INTEGERS: the order is the document's, a whole one, and that of the difference, where there is one: the law returns true, and its arguments read as before.
-/
import Derived.Test.YtknjdkjakngkpaaVInt
import Derived.Test.YtknjdkjakngkpaaRows
import Derived.ProofKit
import Derived.OpenShut
namespace Go.Proofs.Ytknjdkjakngkpaa
open Go.ChangeShapes Go.WideShapes Go.ChangeAt Go.RowKit
set_option linter.unusedVariables false

theorem ord_at (a b o : Int) (h : ord a b = o) (W : World) : Calls Try.prog 24 #[.int .i64 a, .int .i64 b] W fun e w' => e = .returned (.int .i64 o) ∧ W = w' := by rw [← h]; exact order_any a b W
theorem lord_at (a b o : Int) (h : ord a b = o) (W : World) : Calls Try.prog 25 #[.int .i64 a, .int .i64 b] W fun e w' => e = .returned (.int .i64 o) ∧ W = w' := by rw [← h]; exact lorder_any a b W
theorem ord_three (a b : Int) : (ord a b = -1 ∧ ord b a = 1 ∧ ord (a - b) 0 = -1) ∨ (ord a b = 0 ∧ ord b a = 0 ∧ ord (a - b) 0 = 0) ∨ (ord a b = 1 ∧ ord b a = -1 ∧ ord (a - b) 0 = 1) := by
  unfold ord; omega
theorem ord_vals (a b : Int) : ord a b = -1 ∨ ord a b = 0 ∨ ord a b = 1 := by unfold ord; omega
theorem ord_trans (a b c : Int) (h : ord a b ≤ 0) (k : ord b c ≤ 0) : ord a c = -1 ∨ ord a c = 0 := by unfold ord at *; omega
set_option maxHeartbeats 4000000 in
theorem orders_walk (a : Int) (ha : fit a) (b : Int) (hb : fit b) (c : Int) (hc : fit c) (w : World) :
    Calls Try.prog 8 #[.int .i64 a, .int .i64 b, .int .i64 c] w fun e w' => e = .returned (.bool true) ∧ Below w.heap.size w w' := by
  have hs : (∀ W, Calls Try.prog 18 #[.int .i64 a, .int .i64 b] W fun e w' => e = .returned (two (a - b) 0) ∧ W = w') ∨ (∀ W, Calls Try.prog 18 #[.int .i64 a, .int .i64 b] W fun e w' => e = .returned (two 0 9) ∧ W = w') := by
    by_cases h : fit (a - b)
    · exact .inl (sub_yes a b ha hb h)
    · exact .inr (sub_no a b ha hb h)
  obtain ⟨d, hd⟩ : ∃ d, d = a - b := ⟨_, rfl⟩
  have h3 := ord_three a b
  rw [← hd] at hs h3
  have htr := ord_trans a b c
  clear ha hb hc hd
  rcases h3 with ⟨h1, h2, h3⟩ | ⟨h1, h2, h3⟩ | ⟨h1, h2, h3⟩
  · have cAB := ord_at a b _ h1
    have lAB := lord_at a b _ h1
    have cBA := ord_at b a _ h2
    have cD := ord_at d 0 _ h3
    rw [h1] at htr
    rcases ord_vals b c with h4 | h4 | h4
    · rcases htr (by decide) (by rw [h4]; decide) with h5 | h5
      all_goals
        have cBC := ord_at b c _ h4
        have cAC := ord_at a c _ h5
        clear htr h1 h2 h3 h4 h5
        rcases hs with cS | cS
        all_goals
          go_enter Try.func8, Try.ntmps8
          go_wp2_with (first
            | (go_at_call 11; (with_reducible refine (awake_ok _).mono ?_); rintro e w' ⟨rfl, hbb⟩)
            | (go_at_call 25; (with_reducible refine (lAB _).mono ?_); rintro e w' ⟨rfl, rfl⟩)
            | (go_at_call 18; (with_reducible refine (cS _).mono ?_); rintro e w' ⟨rfl, rfl⟩)
            | (go_at_call 24; (with_reducible refine (cAB _).mono ?_); rintro e w' ⟨rfl, rfl⟩)
            | (go_at_call 24; (with_reducible refine (cBA _).mono ?_); rintro e w' ⟨rfl, rfl⟩)
            | (go_at_call 24; (with_reducible refine (cBC _).mono ?_); rintro e w' ⟨rfl, rfl⟩)
            | (go_at_call 24; (with_reducible refine (cAC _).mono ?_); rintro e w' ⟨rfl, rfl⟩)
            | (go_at_call 24; (with_reducible refine (cD _).mono ?_); rintro e w' ⟨rfl, rfl⟩))
          go_ret
          exact ⟨rfl, hbb⟩
    · rcases htr (by decide) (by rw [h4]; decide) with h5 | h5
      all_goals
        have cBC := ord_at b c _ h4
        have cAC := ord_at a c _ h5
        clear htr h1 h2 h3 h4 h5
        rcases hs with cS | cS
        all_goals
          go_enter Try.func8, Try.ntmps8
          go_wp2_with (first
            | (go_at_call 11; (with_reducible refine (awake_ok _).mono ?_); rintro e w' ⟨rfl, hbb⟩)
            | (go_at_call 25; (with_reducible refine (lAB _).mono ?_); rintro e w' ⟨rfl, rfl⟩)
            | (go_at_call 18; (with_reducible refine (cS _).mono ?_); rintro e w' ⟨rfl, rfl⟩)
            | (go_at_call 24; (with_reducible refine (cAB _).mono ?_); rintro e w' ⟨rfl, rfl⟩)
            | (go_at_call 24; (with_reducible refine (cBA _).mono ?_); rintro e w' ⟨rfl, rfl⟩)
            | (go_at_call 24; (with_reducible refine (cBC _).mono ?_); rintro e w' ⟨rfl, rfl⟩)
            | (go_at_call 24; (with_reducible refine (cAC _).mono ?_); rintro e w' ⟨rfl, rfl⟩)
            | (go_at_call 24; (with_reducible refine (cD _).mono ?_); rintro e w' ⟨rfl, rfl⟩))
          go_ret
          exact ⟨rfl, hbb⟩
    · have cBC := ord_at b c _ h4
      clear htr h1 h2 h3 h4
      rcases hs with cS | cS
      all_goals
        go_enter Try.func8, Try.ntmps8
        go_wp2_with (first
          | (go_at_call 11; (with_reducible refine (awake_ok _).mono ?_); rintro e w' ⟨rfl, hbb⟩)
          | (go_at_call 25; (with_reducible refine (lAB _).mono ?_); rintro e w' ⟨rfl, rfl⟩)
          | (go_at_call 18; (with_reducible refine (cS _).mono ?_); rintro e w' ⟨rfl, rfl⟩)
          | (go_at_call 24; (with_reducible refine (cAB _).mono ?_); rintro e w' ⟨rfl, rfl⟩)
          | (go_at_call 24; (with_reducible refine (cBA _).mono ?_); rintro e w' ⟨rfl, rfl⟩)
          | (go_at_call 24; (with_reducible refine (cBC _).mono ?_); rintro e w' ⟨rfl, rfl⟩)
          | (go_at_call 24; (with_reducible refine (cD _).mono ?_); rintro e w' ⟨rfl, rfl⟩))
        go_ret
        exact ⟨rfl, hbb⟩
  · have cAB := ord_at a b _ h1
    have lAB := lord_at a b _ h1
    have cBA := ord_at b a _ h2
    have cD := ord_at d 0 _ h3
    rw [h1] at htr
    rcases ord_vals b c with h4 | h4 | h4
    · rcases htr (by decide) (by rw [h4]; decide) with h5 | h5
      all_goals
        have cBC := ord_at b c _ h4
        have cAC := ord_at a c _ h5
        clear htr h1 h2 h3 h4 h5
        rcases hs with cS | cS
        all_goals
          go_enter Try.func8, Try.ntmps8
          go_wp2_with (first
            | (go_at_call 11; (with_reducible refine (awake_ok _).mono ?_); rintro e w' ⟨rfl, hbb⟩)
            | (go_at_call 25; (with_reducible refine (lAB _).mono ?_); rintro e w' ⟨rfl, rfl⟩)
            | (go_at_call 18; (with_reducible refine (cS _).mono ?_); rintro e w' ⟨rfl, rfl⟩)
            | (go_at_call 24; (with_reducible refine (cAB _).mono ?_); rintro e w' ⟨rfl, rfl⟩)
            | (go_at_call 24; (with_reducible refine (cBA _).mono ?_); rintro e w' ⟨rfl, rfl⟩)
            | (go_at_call 24; (with_reducible refine (cBC _).mono ?_); rintro e w' ⟨rfl, rfl⟩)
            | (go_at_call 24; (with_reducible refine (cAC _).mono ?_); rintro e w' ⟨rfl, rfl⟩)
            | (go_at_call 24; (with_reducible refine (cD _).mono ?_); rintro e w' ⟨rfl, rfl⟩))
          go_ret
          exact ⟨rfl, hbb⟩
    · rcases htr (by decide) (by rw [h4]; decide) with h5 | h5
      all_goals
        have cBC := ord_at b c _ h4
        have cAC := ord_at a c _ h5
        clear htr h1 h2 h3 h4 h5
        rcases hs with cS | cS
        all_goals
          go_enter Try.func8, Try.ntmps8
          go_wp2_with (first
            | (go_at_call 11; (with_reducible refine (awake_ok _).mono ?_); rintro e w' ⟨rfl, hbb⟩)
            | (go_at_call 25; (with_reducible refine (lAB _).mono ?_); rintro e w' ⟨rfl, rfl⟩)
            | (go_at_call 18; (with_reducible refine (cS _).mono ?_); rintro e w' ⟨rfl, rfl⟩)
            | (go_at_call 24; (with_reducible refine (cAB _).mono ?_); rintro e w' ⟨rfl, rfl⟩)
            | (go_at_call 24; (with_reducible refine (cBA _).mono ?_); rintro e w' ⟨rfl, rfl⟩)
            | (go_at_call 24; (with_reducible refine (cBC _).mono ?_); rintro e w' ⟨rfl, rfl⟩)
            | (go_at_call 24; (with_reducible refine (cAC _).mono ?_); rintro e w' ⟨rfl, rfl⟩)
            | (go_at_call 24; (with_reducible refine (cD _).mono ?_); rintro e w' ⟨rfl, rfl⟩))
          go_ret
          exact ⟨rfl, hbb⟩
    · have cBC := ord_at b c _ h4
      clear htr h1 h2 h3 h4
      rcases hs with cS | cS
      all_goals
        go_enter Try.func8, Try.ntmps8
        go_wp2_with (first
          | (go_at_call 11; (with_reducible refine (awake_ok _).mono ?_); rintro e w' ⟨rfl, hbb⟩)
          | (go_at_call 25; (with_reducible refine (lAB _).mono ?_); rintro e w' ⟨rfl, rfl⟩)
          | (go_at_call 18; (with_reducible refine (cS _).mono ?_); rintro e w' ⟨rfl, rfl⟩)
          | (go_at_call 24; (with_reducible refine (cAB _).mono ?_); rintro e w' ⟨rfl, rfl⟩)
          | (go_at_call 24; (with_reducible refine (cBA _).mono ?_); rintro e w' ⟨rfl, rfl⟩)
          | (go_at_call 24; (with_reducible refine (cBC _).mono ?_); rintro e w' ⟨rfl, rfl⟩)
          | (go_at_call 24; (with_reducible refine (cD _).mono ?_); rintro e w' ⟨rfl, rfl⟩))
        go_ret
        exact ⟨rfl, hbb⟩
  · have cAB := ord_at a b _ h1
    have lAB := lord_at a b _ h1
    have cBA := ord_at b a _ h2
    have cD := ord_at d 0 _ h3
    clear htr h1 h2 h3
    rcases hs with cS | cS
    all_goals
      go_enter Try.func8, Try.ntmps8
      go_wp2_with (first
        | (go_at_call 11; (with_reducible refine (awake_ok _).mono ?_); rintro e w' ⟨rfl, hbb⟩)
        | (go_at_call 25; (with_reducible refine (lAB _).mono ?_); rintro e w' ⟨rfl, rfl⟩)
        | (go_at_call 18; (with_reducible refine (cS _).mono ?_); rintro e w' ⟨rfl, rfl⟩)
        | (go_at_call 24; (with_reducible refine (cAB _).mono ?_); rintro e w' ⟨rfl, rfl⟩)
        | (go_at_call 24; (with_reducible refine (cBA _).mono ?_); rintro e w' ⟨rfl, rfl⟩)
        | (go_at_call 24; (with_reducible refine (cD _).mono ?_); rintro e w' ⟨rfl, rfl⟩))
      go_ret
      exact ⟨rfl, hbb⟩

namespace ValueOrdersF
theorem own : ownKnob Try.prog.godebug = none := by kernel_rfl

set_option maxRecDepth 100000 in
theorem lifted (os : Os) (started : os.Started) (H : Type) (enc : TypeId × Value → H) :
    ReturnsInHanded {} Try.checked os 8 .any (Rows.valueOrdersSpec.pre6 enc Try.prog Try.f8 Rows.valueOrdersRow.domain false) (Rows.valueOrdersSpec.post enc Try.prog Try.f8 false true false false) := by
  refine returnsInHanded_of_change (C := Try.checked) own started (by kernel_rfl) Try.func8
    (ChangeSpec.witness6 (enc := enc) (C := Try.checked) false ⟨#[], #[.int .i64 0, .int .i64 0, .int .i64 0], []⟩ 8 (by kernel_rfl) (by kernel_rfl) (by kernel_rfl) (by kernel_rfl)) ?_
  intro W base args ds gs before hval0 hW hcnd _
  have hval : ∀ (j : Nat) t v, Try.f8.params[j]? = some t → args[j]? = some v → Value.okWide Try.prog W .any base t v := hval0
  have hW' := hW
  obtain ⟨p, q, hA0, hV, rfl, hfz, hnd⟩ := hW
  have hA : DataW.TrodAll enc Try.prog W 0 (fun _ => true) true Try.f8.params.toList args.toList ds p := hA0
  rw [Try.params8] at hA hval
  obtain ⟨v0, vs0, d0, ds0, p0, q0, hargs, rfl, rfl, h0, r0⟩ := trodAll_cons hA
  obtain ⟨v1, vs1, d1, ds1, p1, q1, rfl, rfl, rfl, h1, r1⟩ := trodAll_cons r0
  obtain ⟨v2, vs2, d2, ds2, p2, q2, rfl, rfl, rfl, h2, r2⟩ := trodAll_cons r1
  obtain ⟨rfl, rfl, rfl⟩ := trodAll_nil r2
  obtain rfl : args = #[v0, v1, v2] := by cases args; simp_all
  obtain ⟨rfl, rfl⟩ := trodVars_none hV
  obtain ⟨x0, rfl, rfl, rfl, w0⟩ := open_int Try.underlying2 (hval 0 2 v0 rfl rfl) h0
  have bd0 := bounds_i64 w0
  obtain ⟨x1, rfl, rfl, rfl, w1⟩ := open_int Try.underlying2 (hval 1 2 v1 rfl rfl) h1
  have bd1 := bounds_i64 w1
  obtain ⟨x2, rfl, rfl, rfl, w2⟩ := open_int Try.underlying2 (hval 2 2 v2 rfl rfl) h2
  have bd2 := bounds_i64 w2
  clear hA0 hval0
  simp only [List.append_nil] at hW'
  refine (orders_walk x0 bd0 x1 bd1 x2 bd2 W).mono fun e W' ⟨he, hb⟩ => ?_
  subst he
  exact ⟨_, rfl, _, _, _, [], [], [], hW', trodAll_mk1 (shut_bool Try.underlying4 _), trodAll_cons_mk (shut_int Try.underlying2 w0) (trodAll_cons_mk (shut_int Try.underlying2 w1) (trodAll_cons_mk (shut_int Try.underlying2 w2) (trodAll_mk0))), rfl, hb.frame _, fun h => by cases h⟩
end ValueOrdersF
theorem valueOrders_holds : Rows.ValueOrdersSaid :=
  OpenClaim.holds_of_wide 8 Try.f8 rfl rfl rfl rfl rfl rfl rfl ⟨rfl, rfl, rfl, rfl, rfl⟩ rfl rfl rfl rfl rfl (by kernel_rfl) Try.func8 (by kernel_rfl)
    (of_decide_eq_true (by kernel_rfl)) (by unfold Func.isWrapper; first | (rw [if_pos (by decide +kernel)]; kernel_rfl) | (rw [if_neg (by decide +kernel)]; exact ⟨rfl, rfl⟩))
    (fun os started H enc _ => ValueOrdersF.lifted os started H enc)

end Go.Proofs.Ytknjdkjakngkpaa
