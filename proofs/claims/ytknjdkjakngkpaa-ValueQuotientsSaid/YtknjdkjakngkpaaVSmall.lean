/-
  THE LAW's closure 'small': a number's size is below another one's.
-/
import Derived.Test.YtknjdkjakngkpaaVRes
namespace Go.Proofs.Ytknjdkjakngkpaa
open Go.RowKit
set_option linter.unusedVariables false

/-- A number's size. -/
def sz (z : Int) : Int := (z.natAbs : Int)
theorem sz_nat (z : Int) : (sz z).natAbs = z.natAbs := by unfold sz; omega
theorem sz_neg (z : Int) : decide (sz z < 0) = false := by unfold sz; rw [decide_eq_false_iff_not]; omega
/-- The box of x, its sign struck; the box of the size. -/
def Sm (w : World) (g : Nat) (u v : Array Value) (W : World) : Prop := Below w.heap.size w W ∧ Bk W w.heap.size 32 u ∧ Bk W g 32 v
theorem Sm.drew {w : World} {g : Nat} {u v : Array Value} {W : World} (h : Sm w g u v W) : Sm w g u v W.drew := ⟨Below.drew h.1, h.2.1, h.2.2⟩
theorem Sm.below {w : World} {g : Nat} {u v : Array Value} {W W' : World} (h : Sm w g u v W) (hb : Below W.heap.size W W') : Sm w g u v W' := ⟨h.1.trans (hb.mono h.1.size), h.2.1.below hb h.2.1.lt, h.2.2.below hb h.2.2.lt⟩
theorem Sm.all {w : World} {g : Nat} {A B : Option Addr} {n m c d : Nat} {W : World} (h : Sm w g #[.bool false, .slice A n c] #[.bool false, .slice B m d] W) :
    W.cell? ⟨w.heap.size, 0, none⟩ = some (.bool false) ∧ W.cell? ⟨w.heap.size, 1, none⟩ = some (.slice A n c) ∧ W.cell? ⟨g, 0, none⟩ = some (.bool false) ∧ W.cell? ⟨g, 1, none⟩ = some (.slice B m d) ∧ Sm w g #[.bool false, .slice A n c] #[.bool false, .slice B m d] W := by
  refine ⟨?_, ?_, ?_, ?_, h⟩
  · rw [h.2.1.cell]; rfl
  · rw [h.2.1.cell]; rfl
  · rw [h.2.2.cell]; rfl
  · rw [h.2.2.cell]; rfl
theorem sz_big {w : World} {z : Int} {A : Option Addr} {c : Nat} (h : (digs z.natAbs).length ≤ c ∧ c ≤ maxLen) (hA : DAt w A (digs z.natAbs)) : BigV w (.agg #[.bool false, .slice A (digs z.natAbs).length c]) (sz z) :=
  ⟨A, c, by rw [sz_neg, sz_nat], by rw [sz_nat]; exact h, by rw [sz_nat]; exact hA⟩
set_option maxHeartbeats 8000000 in
theorem small_yes (x b : Int) (hx : (digs x.natAbs).length ≤ 1000) (hb : (digs b.natAbs).length ≤ 1000) (hlt : x.natAbs < b.natAbs) (A B : Option Addr) (c d : Nat) (g : Nat) (w : World)
    (hc : (digs x.natAbs).length ≤ c ∧ c ≤ maxLen) (hd : (digs b.natAbs).length ≤ d ∧ d ≤ maxLen) (hA : DAt w A (digs x.natAbs)) (hB : DAt w B (digs b.natAbs)) (hg : Bk w g 32 #[.bool false, .slice B (digs b.natAbs).length d]) :
    Calls Try.prog 29 #[bigv x A c, .pointer (some ⟨g, 0, none⟩)] w fun e w' => e = .returned (.bool true) ∧ Below w.heap.size w w' := by
  have hglt := hg.lt
  have hS0 : Sm w g #[.bool false, .slice A (digs x.natAbs).length c] #[.bool false, .slice B (digs b.natAbs).length d] (w.alloc (.cells #[.bool false, .slice A (digs x.natAbs).length c] 32)) := ⟨(Below.refl _ _).alloc (Nat.le_refl _) _, Bk.new w _ _, hg.alloc _⟩
  have hls : (digs (sz b).natAbs).length ≤ 1000 := by rw [sz_nat]; exact hb
  have hln : (digs (-(sz b)).natAbs).length ≤ 1000 := by rw [Int.natAbs_neg, sz_nat]; exact hb
  have hlx : (digs (sz x).natAbs).length ≤ 1000 := by rw [sz_nat]; exact hx
  have cN : ∀ W, Sm w g #[.bool false, .slice A (digs x.natAbs).length c] #[.bool false, .slice B (digs b.natAbs).length d] W → Calls Try.prog 22 #[.agg #[.bool false, .slice B (digs b.natAbs).length d]] W (BgP (Sm w g #[.bool false, .slice A (digs x.natAbs).length c] #[.bool false, .slice B (digs b.natAbs).length d]) (-(sz b))) := fun W hS =>
    bg_open (fun _ h => hS.below h) (neg_big (sz b) hls _ W (sz_big hd (hB.below hS.1)))
  have cA : ∀ (W : World) (v : Value), BigV W v (-(sz b)) → Sm w g #[.bool false, .slice A (digs x.natAbs).length c] #[.bool false, .slice B (digs b.natAbs).length d] W → Calls Try.prog 21 #[.agg #[.bool false, .slice A (digs x.natAbs).length c], v] W (fun e w' => ∃ A6 c6, e = .returned (.agg #[.bool (decide (sz x + -(sz b) < 0)), .slice A6 (digs (sz x + -(sz b)).natAbs).length c6]) ∧ BigV w' (.agg #[.bool (decide (sz x + -(sz b) < 0)), .slice A6 (digs (sz x + -(sz b)).natAbs).length c6]) (sz x + -(sz b)) ∧ Sm w g #[.bool false, .slice A (digs x.natAbs).length c] #[.bool false, .slice B (digs b.natAbs).length d] w') := fun W v hv hS =>
    bg_open (fun _ h => hS.below h) (add_big (sz x) (-(sz b)) hlx hln _ v W (sz_big hc (hA.below hS.1)) hv)
  have hz : decide (sz x + -(sz b) < 0) = true := by rw [decide_eq_true_eq]; unfold sz; omega
  obtain ⟨dx, hdx⟩ : ∃ l, l = digs x.natAbs := ⟨_, rfl⟩
  obtain ⟨db, hdb⟩ : ∃ l, l = digs b.natAbs := ⟨_, rfl⟩
  obtain ⟨y, hy⟩ : ∃ y, y = -(sz b) := ⟨_, rfl⟩
  obtain ⟨r, hr⟩ : ∃ r, r = sz x + y := ⟨_, rfl⟩
  unfold bigv
  rw [← hdx, ← hdb, ← hy] at cN cA
  rw [← hr] at cA
  rw [← hy, ← hr] at hz
  rw [← hdx, ← hdb] at hS0
  rw [← hdx]
  have hfld : ∀ (W : World) (b s : Value), (Instr.field 32 (.agg #[b, s]) 0).run Try.prog W = .ok b W := fun _ _ _ => by kernel_rfl
  have HS0 := Lib.hid hS0
  have HZ := Lib.hid hz
  clear hx hb hlt hc hd hA hB hg hls hln hlx hz hdx hdb hy hr hS0
  go_enter Try.func29, Try.ntmps29
  go_wp2
  obtain ⟨W0, hW0⟩ : ∃ W0, W0 = (w.alloc (.cells #[.bool false, .slice A dx.length c] 32)) := ⟨_, rfl⟩
  rw [← hW0] at HS0 ⊢
  obtain ⟨p1, p2, p3, p4, _⟩ := HS0.out.all
  clear hW0
  go_region_held3 (fun W => W.cell? ⟨w.heap.size, 0, none⟩ = some (.bool false) ∧ W.cell? ⟨w.heap.size, 1, none⟩ = some (.slice A dx.length c) ∧ W.cell? ⟨g, 0, none⟩ = some (.bool false) ∧ W.cell? ⟨g, 1, none⟩ = some (.slice B db.length d) ∧ Sm w g #[.bool false, .slice A dx.length c] #[.bool false, .slice B db.length d] W)
    (first | exact Sm.all (by assumption) | exact Sm.all (Sm.drew (by assumption)) | exact Sm.all HS0.out | exact Sm.all (Sm.drew HS0.out))
    (first
      | (go_at_call 22; (with_reducible refine (cN _ (Sm.drew HS0.out)).mono ?_); rintro e w5 ⟨A5, k5, rfl, hv5, hS5⟩)
      | (go_at_call 21; (with_reducible refine (cA _ _ hv5 hS5).mono ?_); rintro e w6 ⟨A6, k6, rfl, hv6, hS6⟩))
  go_wp2
  go_ret
  exact ⟨ret_bool (by rw [HZ.out]), hS6.1⟩
end Go.Proofs.Ytknjdkjakngkpaa
