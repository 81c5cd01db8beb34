/-
  ValueBacks, WHATEVER THE TWO INTEGERS: sums and products are the same either way; what is added, and taken away again, leaves what was there: the law returns true, and its arguments read as before.
-/
import Derived.Test.YtknjdkjakngkpaaVTwo
import Derived.Test.YtknjdkjakngkpaaRows
import Derived.ProofKit
import Derived.OpenShut
namespace Go.Proofs.Ytknjdkjakngkpaa
open Go.ChangeShapes Go.WideShapes Go.ChangeAt Go.RowKit
set_option linter.unusedVariables false

theorem sub_at {w : World} (a b s : Int) (ha : fit a) (hb : fit b) (h : fit (a - b)) (hs : a - b = s) (W : World) : Calls Try.prog 18 #[.int .i64 a, .int .i64 b] W fun e w' => e = .returned (two s 0) ∧ W = w' := by
  rw [← hs]; exact sub_yes a b ha hb h W
set_option maxHeartbeats 4000000 in
theorem backs_walk (a : Int) (ha : fit a) (b : Int) (hb : fit b) (w : World) :
    Calls Try.prog 7 #[.int .i64 a, .int .i64 b] w fun e w' => e = .returned (.bool true) ∧ Below w.heap.size w w' := by
  have hm : (∃ p, (∀ W, Below w.heap.size w W → Calls Try.prog 19 #[.slice (some ⟨W.heap.size, 0, none⟩) 2 2] (W.alloc (pairObj a b)) fun e w' => e = .returned (two p 0) ∧ Below w.heap.size w w') ∧
      (∀ W, Below w.heap.size w W → Calls Try.prog 19 #[.slice (some ⟨W.heap.size, 0, none⟩) 2 2] (W.alloc (pairObj b a)) fun e w' => e = .returned (two p 0) ∧ Below w.heap.size w w')) ∨
      ((∀ W, Below w.heap.size w W → Calls Try.prog 19 #[.slice (some ⟨W.heap.size, 0, none⟩) 2 2] (W.alloc (pairObj a b)) fun e w' => e = .returned (two 0 9) ∧ Below w.heap.size w w') ∧
      (∀ W, Below w.heap.size w W → Calls Try.prog 19 #[.slice (some ⟨W.heap.size, 0, none⟩) 2 2] (W.alloc (pairObj b a)) fun e w' => e = .returned (two 0 9) ∧ Below w.heap.size w w')) := by
    by_cases h : fit (a * b)
    · exact .inl ⟨a * b, mul_yes a b _ ha hb h rfl, mul_yes b a _ hb ha (by rw [Int.mul_comm]; exact h) (Int.mul_comm b a)⟩
    · exact .inr ⟨mul_no a b ha hb h, mul_no b a hb ha (by rw [Int.mul_comm]; exact h)⟩
  have hbb : Below w.heap.size w w := Below.refl _ _
  have cA := fun W hW => vawake_at (w := w) W hW
  by_cases hs : fit (a + b)
  · obtain ⟨s, hss⟩ : ∃ s, s = a + b := ⟨_, rfl⟩
    have c1 := fun W hW => add_yes (w := w) a b s ha hb hs hss.symm W hW
    have c2 := fun W hW => add_yes (w := w) b a s hb ha (by rw [Int.add_comm]; exact hs) (by omega) W hW
    have c3 := fun W => sub_at (w := w) s b a (by rw [hss]; exact hs) hb (by rw [show s - b = a by omega]; exact ha) (by omega) W
    by_cases hd : fit (a - b)
    · obtain ⟨d, hdd⟩ : ∃ d, d = a - b := ⟨_, rfl⟩
      have c4 := fun W => sub_at (w := w) a b d ha hb hd hdd.symm W
      have c5 := fun W hW => add_yes (w := w) d b a (by rw [hdd]; exact hd) hb (by rw [show d + b = a by omega]; exact ha) (by omega) W hW
      clear ha hb hs hss hd hdd
      rcases hm with ⟨p, c6, c7⟩ | ⟨c6, c7⟩
      all_goals
        go_enter Try.func7, Try.ntmps7
        go_wp2_with (first
          | (go_at_call 11; (with_reducible refine (cA _ (by assumption)).mono ?_); rintro e w' ⟨rfl, hbb⟩)
          | (go_at_call 17; (with_reducible refine (c1 _ (by assumption)).mono ?_); rintro e w' ⟨rfl, hbb⟩)
          | (go_at_call 17; (with_reducible refine (c2 _ (by assumption)).mono ?_); rintro e w' ⟨rfl, hbb⟩)
          | (go_at_call 17; (with_reducible refine (c5 _ (by assumption)).mono ?_); rintro e w' ⟨rfl, hbb⟩)
          | (go_at_call 19; (with_reducible refine (c6 _ (by assumption)).mono ?_); rintro e w' ⟨rfl, hbb⟩)
          | (go_at_call 19; (with_reducible refine (c7 _ (by assumption)).mono ?_); rintro e w' ⟨rfl, hbb⟩)
          | (go_at_call 18; (with_reducible refine (c3 _).mono ?_); rintro e w' ⟨rfl, rfl⟩)
          | (go_at_call 18; (with_reducible refine (c4 _).mono ?_); rintro e w' ⟨rfl, rfl⟩))
        go_ret
        exact ⟨rfl, by assumption⟩
    · have c4 := fun W => sub_no a b ha hb hd W
      clear ha hb hs hss hd
      rcases hm with ⟨p, c6, c7⟩ | ⟨c6, c7⟩
      all_goals
        go_enter Try.func7, Try.ntmps7
        go_wp2_with (first
          | (go_at_call 11; (with_reducible refine (cA _ (by assumption)).mono ?_); rintro e w' ⟨rfl, hbb⟩)
          | (go_at_call 17; (with_reducible refine (c1 _ (by assumption)).mono ?_); rintro e w' ⟨rfl, hbb⟩)
          | (go_at_call 17; (with_reducible refine (c2 _ (by assumption)).mono ?_); rintro e w' ⟨rfl, hbb⟩)
          | (go_at_call 19; (with_reducible refine (c6 _ (by assumption)).mono ?_); rintro e w' ⟨rfl, hbb⟩)
          | (go_at_call 19; (with_reducible refine (c7 _ (by assumption)).mono ?_); rintro e w' ⟨rfl, hbb⟩)
          | (go_at_call 18; (with_reducible refine (c3 _).mono ?_); rintro e w' ⟨rfl, rfl⟩)
          | (go_at_call 18; (with_reducible refine (c4 _).mono ?_); rintro e w' ⟨rfl, rfl⟩))
        go_ret
        exact ⟨rfl, by assumption⟩
  · have c1 := fun W hW => add_no (w := w) a b ha hb hs W hW
    have c2 := fun W hW => add_no (w := w) b a hb ha (by rw [Int.add_comm]; exact hs) W hW
    by_cases hd : fit (a - b)
    · obtain ⟨d, hdd⟩ : ∃ d, d = a - b := ⟨_, rfl⟩
      have c4 := fun W => sub_at (w := w) a b d ha hb hd hdd.symm W
      have c5 := fun W hW => add_yes (w := w) d b a (by rw [hdd]; exact hd) hb (by rw [show d + b = a by omega]; exact ha) (by omega) W hW
      clear ha hb hs hd hdd
      rcases hm with ⟨p, c6, c7⟩ | ⟨c6, c7⟩
      all_goals
        go_enter Try.func7, Try.ntmps7
        go_wp2_with (first
          | (go_at_call 11; (with_reducible refine (cA _ (by assumption)).mono ?_); rintro e w' ⟨rfl, hbb⟩)
          | (go_at_call 17; (with_reducible refine (c1 _ (by assumption)).mono ?_); rintro e w' ⟨rfl, hbb⟩)
          | (go_at_call 17; (with_reducible refine (c2 _ (by assumption)).mono ?_); rintro e w' ⟨rfl, hbb⟩)
          | (go_at_call 17; (with_reducible refine (c5 _ (by assumption)).mono ?_); rintro e w' ⟨rfl, hbb⟩)
          | (go_at_call 19; (with_reducible refine (c6 _ (by assumption)).mono ?_); rintro e w' ⟨rfl, hbb⟩)
          | (go_at_call 19; (with_reducible refine (c7 _ (by assumption)).mono ?_); rintro e w' ⟨rfl, hbb⟩)
          | (go_at_call 18; (with_reducible refine (c4 _).mono ?_); rintro e w' ⟨rfl, rfl⟩))
        go_ret
        exact ⟨rfl, by assumption⟩
    · have c4 := fun W => sub_no a b ha hb hd W
      clear ha hb hs hd
      rcases hm with ⟨p, c6, c7⟩ | ⟨c6, c7⟩
      all_goals
        go_enter Try.func7, Try.ntmps7
        go_wp2_with (first
          | (go_at_call 11; (with_reducible refine (cA _ (by assumption)).mono ?_); rintro e w' ⟨rfl, hbb⟩)
          | (go_at_call 17; (with_reducible refine (c1 _ (by assumption)).mono ?_); rintro e w' ⟨rfl, hbb⟩)
          | (go_at_call 17; (with_reducible refine (c2 _ (by assumption)).mono ?_); rintro e w' ⟨rfl, hbb⟩)
          | (go_at_call 19; (with_reducible refine (c6 _ (by assumption)).mono ?_); rintro e w' ⟨rfl, hbb⟩)
          | (go_at_call 19; (with_reducible refine (c7 _ (by assumption)).mono ?_); rintro e w' ⟨rfl, hbb⟩)
          | (go_at_call 18; (with_reducible refine (c4 _).mono ?_); rintro e w' ⟨rfl, rfl⟩))
        go_ret
        exact ⟨rfl, by assumption⟩

namespace ValueBacksF
theorem own : ownKnob Try.prog.godebug = none := by kernel_rfl

set_option maxRecDepth 100000 in
theorem lifted (os : Os) (started : os.Started) (H : Type) (enc : TypeId × Value → H) :
    ReturnsInHanded {} Try.checked os 7 .any (Rows.valueBacksSpec.pre6 enc Try.prog Try.f7 Rows.valueBacksRow.domain false) (Rows.valueBacksSpec.post enc Try.prog Try.f7 false true false false) := by
  refine returnsInHanded_of_change (C := Try.checked) own started (by kernel_rfl) Try.func7
    (ChangeSpec.witness6 (enc := enc) (C := Try.checked) false ⟨#[], #[.int .i64 0, .int .i64 0], []⟩ 8 (by kernel_rfl) (by kernel_rfl) (by kernel_rfl) (by kernel_rfl)) ?_
  intro W base args ds gs before hval0 hW hcnd _
  have hval : ∀ (j : Nat) t v, Try.f7.params[j]? = some t → args[j]? = some v → Value.okWide Try.prog W .any base t v := hval0
  have hW' := hW
  obtain ⟨p, q, hA0, hV, rfl, hfz, hnd⟩ := hW
  have hA : DataW.TrodAll enc Try.prog W 0 (fun _ => true) true Try.f7.params.toList args.toList ds p := hA0
  rw [Try.params7] at hA hval
  obtain ⟨v0, vs0, d0, ds0, p0, q0, hargs, rfl, rfl, h0, r0⟩ := trodAll_cons hA
  obtain ⟨v1, vs1, d1, ds1, p1, q1, rfl, rfl, rfl, h1, r1⟩ := trodAll_cons r0
  obtain ⟨rfl, rfl, rfl⟩ := trodAll_nil r1
  obtain rfl : args = #[v0, v1] := by cases args; simp_all
  obtain ⟨rfl, rfl⟩ := trodVars_none hV
  obtain ⟨x0, rfl, rfl, rfl, w0⟩ := open_int Try.underlying2 (hval 0 2 v0 rfl rfl) h0
  have bd0 := bounds_i64 w0
  obtain ⟨x1, rfl, rfl, rfl, w1⟩ := open_int Try.underlying2 (hval 1 2 v1 rfl rfl) h1
  have bd1 := bounds_i64 w1
  clear hA0 hval0
  simp only [List.append_nil] at hW'
  refine (backs_walk x0 bd0 x1 bd1 W).mono fun e W' ⟨he, hb⟩ => ?_
  subst he
  exact ⟨_, rfl, _, _, _, [], [], [], hW', trodAll_mk1 (shut_bool Try.underlying4 _), trodAll_cons_mk (shut_int Try.underlying2 w0) (trodAll_cons_mk (shut_int Try.underlying2 w1) (trodAll_mk0)), rfl, hb.frame _, fun h => by cases h⟩
end ValueBacksF
theorem valueBacks_holds : Rows.ValueBacksSaid :=
  OpenClaim.holds_of_wide 7 Try.f7 rfl rfl rfl rfl rfl rfl rfl ⟨rfl, rfl, rfl, rfl, rfl⟩ rfl rfl rfl rfl rfl (by kernel_rfl) Try.func7 (by kernel_rfl)
    (of_decide_eq_true (by kernel_rfl)) (by unfold Func.isWrapper; first | (rw [if_pos (by decide +kernel)]; kernel_rfl) | (rw [if_neg (by decide +kernel)]; exact ⟨rfl, rfl⟩))
    (fun os started H enc _ => ValueBacksF.lifted os started H enc)

end Go.Proofs.Ytknjdkjakngkpaa
