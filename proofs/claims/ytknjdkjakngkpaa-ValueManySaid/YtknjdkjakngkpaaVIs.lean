/-
  THE LAW's 'is': whether an answer is a number, or tells that there is none.
-/
import Derived.Test.YtknjdkjakngkpaaVFits
import Derived.Deep.RegionHeld3
namespace Go.Proofs.Ytknjdkjakngkpaa
open Go.RowKit
set_option linter.unusedVariables false

/-- One box of the call's own. -/
def B1 (w : World) (u : Array Value) (w' : World) : Prop := Below w.heap.size w w' ∧ Bk w' w.heap.size 32 u
theorem B1.drew {w : World} {u : Array Value} {w' : World} (h : B1 w u w') : B1 w u w'.drew := ⟨Below.drew h.1, h.2⟩
theorem B1.below {w : World} {u : Array Value} {w' w2 : World} (h : B1 w u w') (hb : Below w'.heap.size w' w2) : B1 w u w2 := ⟨h.1.trans (hb.mono h.1.size), h.2.below hb h.2.lt⟩
theorem B1.all {w : World} {a : Bool} {A : Option Addr} {n ca : Nat} {w' : World} (h : B1 w #[.bool a, .slice A n ca] w') :
    w'.cell? ⟨w.heap.size, 0, none⟩ = some (.bool a) ∧ w'.cell? ⟨w.heap.size, 1, none⟩ = some (.slice A n ca) ∧ B1 w #[.bool a, .slice A n ca] w' := by
  refine ⟨?_, ?_, h⟩
  · rw [h.2.cell]; rfl
  · rw [h.2.cell]; rfl
theorem BigV.mk {w : World} {z : Int} {A : Option Addr} {c : Nat} (h : (digs z.natAbs).length ≤ c ∧ c ≤ maxLen) (hA : DAt w A (digs z.natAbs)) : BigV w (.agg #[.bool (decide (z < 0)), .slice A (digs z.natAbs).length c]) z := ⟨A, c, rfl, h, hA⟩
theorem is_over (z : Int) (hx : (digs z.natAbs).length ≤ 1000) (hz : ¬ F64 z) (u : Value) (w : World) (hu : BigV w u z) :
    Calls Try.prog 20 #[.int .i64 0, .int .i64 9, u] w fun e w' => e = .returned (.bool true) ∧ Below w.heap.size w w' := by
  obtain ⟨A, ca, rfl, hca, hA⟩ := hu
  have hb0 : Below w.heap.size w (w.alloc (.cells #[.bool (decide (z < 0)), .slice A (digs z.natAbs).length ca] 32)) := (Below.refl _ _).alloc (Nat.le_refl _) _
  have cF := fits_big z hx _ _ (BigV.mk hca (hA.below hb0))
  rw [decide_eq_false hz] at cF
  obtain ⟨dx, hdx⟩ : ∃ l, l = digs z.natAbs := ⟨_, rfl⟩
  obtain ⟨nb, hnb⟩ : ∃ b, b = decide (z < 0) := ⟨_, rfl⟩
  rw [← hdx, ← hnb] at cF hb0 ⊢
  have HB := Lib.hid hb0
  clear hx hz hA hca hdx hnb hb0
  go_enter Try.func20, Try.ntmps20
  go_wp2_with (go_at_call 26; (with_reducible refine cF.mono ?_); rintro e w2 ⟨rfl, hb2⟩)
  go_ret
  exact ⟨rfl, HB.out.trans (hb2.mono (by simp))⟩
set_option maxHeartbeats 4000000 in
theorem is_fit (z : Int) (hz : F64 z) (u : Value) (w : World) (hu : BigV w u z) :
    Calls Try.prog 20 #[.int .i64 z, .int .i64 0, u] w fun e w' => e = .returned (.bool true) ∧ Below w.heap.size w w' := by
  have hx : (digs z.natAbs).length ≤ 1000 := Nat.le_trans (digs_len (k := 20) (by unfold F64 at hz; omega)) (by decide)
  obtain ⟨A, ca, rfl, hca, hA⟩ := hu
  have hb0 : Below w.heap.size w (w.alloc (.cells #[.bool (decide (z < 0)), .slice A (digs z.natAbs).length ca] 32)) := (Below.refl _ _).alloc (Nat.le_refl _) _
  have hS0 : B1 w #[.bool (decide (z < 0)), .slice A (digs z.natAbs).length ca] (w.alloc (.cells #[.bool (decide (z < 0)), .slice A (digs z.natAbs).length ca] 32)) := ⟨hb0, Bk.new w _ _⟩
  have cF := fits_big z hx _ _ (BigV.mk hca (hA.below hb0))
  rw [decide_eq_true hz] at cF
  have cO := fun W => of_big z hz W
  have cS : ∀ (W : World) (v : Value), BigV W v z → B1 w #[.bool (decide (z < 0)), .slice A (digs z.natAbs).length ca] W → Calls Try.prog 34 #[v, .agg #[.bool (decide (z < 0)), .slice A (digs z.natAbs).length ca]] W fun e w' => e = .returned (.bool true) ∧ B1 w #[.bool (decide (z < 0)), .slice A (digs z.natAbs).length ca] w' := by
    intro W v hv hS
    refine (same_big z z hx hx _ _ W hv (BigV.mk hca (hA.below hS.1))).mono fun e w' ⟨he, hb⟩ => ⟨by rw [he]; simp, hS.below hb⟩
  have cO2 : ∀ W, B1 w #[.bool (decide (z < 0)), .slice A (digs z.natAbs).length ca] W → Calls Try.prog 16 #[.int .i64 z] W fun e w' => ∃ A5 c5, e = .returned (.agg #[.bool (decide (z < 0)), .slice A5 (digs z.natAbs).length c5]) ∧ BigV w' (.agg #[.bool (decide (z < 0)), .slice A5 (digs z.natAbs).length c5]) z ∧ B1 w #[.bool (decide (z < 0)), .slice A (digs z.natAbs).length ca] w' := by
    intro W hS
    refine (of_big z hz W).mono fun e w' ⟨v, he, hB, hb⟩ => ?_
    obtain ⟨A5, c5, hv, h1, h2⟩ := hB
    exact ⟨A5, c5, by rw [he, hv], BigV.mk h1 h2, hS.below hb⟩
  obtain ⟨dx, hdx⟩ : ∃ l, l = digs z.natAbs := ⟨_, rfl⟩
  obtain ⟨nb, hnb⟩ : ∃ b, b = decide (z < 0) := ⟨_, rfl⟩
  rw [← hdx, ← hnb] at cF hS0 cS cO2 ⊢
  have HS0 := Lib.hid hS0
  clear hx hz hA hca hdx hnb hb0 cO hS0
  go_enter Try.func20, Try.ntmps20
  go_wp2_with (go_at_call 26; (with_reducible refine cF.mono ?_); rintro e w2 ⟨rfl, hb2⟩; have hS2 := HS0.out.below hb2; obtain ⟨p1, p2, _⟩ := hS2.all)
  go_region_held3 (fun w' => w'.cell? ⟨w.heap.size, 0, none⟩ = some (.bool nb) ∧ w'.cell? ⟨w.heap.size, 1, none⟩ = some (.slice A dx.length ca) ∧ B1 w #[.bool nb, .slice A dx.length ca] w')
    (first | exact B1.all (by assumption) | exact B1.all (B1.drew (by assumption)))
    (first
      | (go_at_call 16; (with_reducible refine (cO2 _ (by first | exact B1.drew (by assumption) | assumption)).mono ?_); rintro e w5 ⟨A5, c5, rfl, h51, hS5⟩)
      | (go_at_call 34; (with_reducible refine (cS _ _ h51 hS5).mono ?_); rintro e w6 ⟨rfl, hS6⟩))
  go_wp2
  go_ret
  exact ⟨rfl, hS6.1⟩
end Go.Proofs.Ytknjdkjakngkpaa
