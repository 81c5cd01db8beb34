/-
  ValueSums, WHATEVER THE TWO INTEGERS: their sum, difference, product, or that there is none, are the document's, and so is their order: the law returns true, and its arguments read as before.
-/
import Derived.Test.YtknjdkjakngkpaaVRes
import Derived.Test.YtknjdkjakngkpaaRows
import Derived.ProofKit
import Derived.OpenShut
namespace Go.Proofs.Ytknjdkjakngkpaa
open Go.ChangeShapes Go.WideShapes Go.ChangeAt Go.RowKit
set_option linter.unusedVariables false

theorem ord_at' (a b o : Int) (h : ord a b = o) (W : World) : Calls Try.prog 24 #[.int .i64 a, .int .i64 b] W fun e w' => e = .returned (.int .i64 o) ∧ W = w' := by rw [← h]; exact order_any a b W
theorem lord_at' (a b o : Int) (h : ord a b = o) (W : World) : Calls Try.prog 25 #[.int .i64 a, .int .i64 b] W fun e w' => e = .returned (.int .i64 o) ∧ W = w' := by rw [← h]; exact lorder_any a b W
/-- The two boxes stand. -/
theorem two_boxes {w w2 W : World} {u v : Array Value} (hS : Aft w ((w2.alloc (.cells u 32)).alloc (.cells v 32)) W) : Bk W w2.heap.size 32 u ∧ Bk W (w2.heap.size + 1) 32 v := by
  refine ⟨((Bk.new w2 32 u).alloc _).below hS.2 (by simp; omega), ?_⟩
  have := (Bk.new (w2.alloc (.cells u 32)) 32 v).below hS.2 (by simp)
  simpa using this
theorem two_cells {w w2 W : World} {a b : Bool} {A B : Option Addr} {n m c d : Nat} (hS : Aft w ((w2.alloc (.cells #[.bool a, .slice A n c] 32)).alloc (.cells #[.bool b, .slice B m d] 32)) W) :
    W.cell? ⟨w2.heap.size, 0, none⟩ = some (.bool a) ∧ W.cell? ⟨w2.heap.size, 1, none⟩ = some (.slice A n c) ∧ W.cell? ⟨w2.heap.size + 1, 0, none⟩ = some (.bool b) ∧ W.cell? ⟨w2.heap.size + 1, 1, none⟩ = some (.slice B m d) ∧ Aft w ((w2.alloc (.cells #[.bool a, .slice A n c] 32)).alloc (.cells #[.bool b, .slice B m d] 32)) W := by
  obtain ⟨h1, h2⟩ := two_boxes hS
  refine ⟨?_, ?_, ?_, ?_, hS⟩
  · rw [h1.cell]; rfl
  · rw [h1.cell]; rfl
  · rw [h2.cell]; rfl
  · rw [h2.cell]; rfl
set_option maxHeartbeats 16000000 in
set_option maxRecDepth 100000 in
theorem sums_walk (a : Int) (ha : fit a) (b : Int) (hb : fit b) (w : World) :
    Calls Try.prog 4 #[.int .i64 a, .int .i64 b] w fun e w' => e = .returned (.bool true) ∧ Below w.heap.size w w' := by
  obtain ⟨n, e, hr1⟩ := res_of (a + b)
  obtain ⟨m, f, hr2⟩ := res_of (a - b)
  obtain ⟨p, g, hr3⟩ := res_of (a * b)
  have hla : (digs a.natAbs).length ≤ 1000 := len_two (by unfold fit at ha; omega)
  have hlb : (digs b.natAbs).length ≤ 1000 := len_two (by unfold fit at hb; omega)
  have hlb2 : (digs (-b).natAbs).length ≤ 1000 := len_two (by unfold fit at hb; omega)
  have hls : (digs (a + b).natAbs).length ≤ 1000 := len_two (by unfold fit at ha hb; omega)
  have hld : (digs (a - b).natAbs).length ≤ 1000 := len_two (by unfold fit at ha hb; omega)
  have hlp : (digs (a * b).natAbs).length ≤ 1000 := by
    apply len_two
    rw [Int.natAbs_mul]
    have h1 : a.natAbs ≤ 9223372036854775808 := by unfold fit at ha; omega
    have h2 : b.natAbs ≤ 9223372036854775808 := by unfold fit at hb; omega
    exact Nat.le_trans (Nat.mul_le_mul h1 h2) (by decide)
  have hbb : Below w.heap.size w w := Below.refl _ _
  have cA := fun W hW => vawake_at (w := w) W hW
  have cOa : ∀ W, Below w.heap.size w W → Calls Try.prog 16 #[.int .i64 a] W (BgP (fun w' => Below w.heap.size w w' ∧ Below W.heap.size W w') a) := fun W hW => bg_open (fun w' h => ⟨hW.trans (h.mono hW.size), h⟩) (of_big a ha W)
  have cOb : ∀ W, Below w.heap.size w W → Calls Try.prog 16 #[.int .i64 b] W (BgP (fun w' => Below w.heap.size w w' ∧ Below W.heap.size W w') b) := fun W hW => bg_open (fun w' h => ⟨hW.trans (h.mono hW.size), h⟩) (of_big b hb W)
  have c2 := fun W => sub_res ha hb hr2 W
  have HA := Lib.hid ha
  have HB := Lib.hid hb
  have R1 := Lib.hid hr1
  have R2 := Lib.hid hr2
  have R3 := Lib.hid hr3
  have L1 := Lib.hid hls
  have L2 := Lib.hid hld
  have L3 := Lib.hid hlp
  have La := Lib.hid hla
  have Lb := Lib.hid hlb
  have Lb2 := Lib.hid hlb2
  obtain ⟨o, ho⟩ : ∃ o, ord a b = o := ⟨_, rfl⟩
  have cO := fun W => ord_at' a b o ho W
  have cO2 := fun W => lord_at' a b o ho W
  clear ha hb hr1 hr2 hr3 hls hld hlp hla hlb hlb2 ho
  go_enter Try.func4, Try.ntmps4
  go_wp2_with (first
    | (go_at_call 11; (with_reducible refine (cA _ (by assumption)).mono ?_); rintro e w0 ⟨rfl, hbb⟩)
    | (go_at_call 16; (with_reducible refine (cOa _ (by assumption)).mono ?_); rintro e w1 ⟨A1, k1, rfl, hv1, hbb, _⟩)
    | (go_at_call 16; (with_reducible refine (cOb _ (by assumption)).mono ?_); rintro e w2 ⟨A2, k2, rfl, hv2, hbb, hb2⟩
       have hS3 : Aft w ((w2.alloc (.cells #[.bool (decide (a < 0)), .slice A1 (digs a.natAbs).length k1] 32)).alloc (.cells #[.bool (decide (b < 0)), .slice A2 (digs b.natAbs).length k2] 32)) ((w2.alloc (.cells #[.bool (decide (a < 0)), .slice A1 (digs a.natAbs).length k1] 32)).alloc (.cells #[.bool (decide (b < 0)), .slice A2 (digs b.natAbs).length k2] 32)) := ⟨(hbb.alloc hbb.size _).alloc (by have := hbb.size; simp; omega) _, Below.refl _ _⟩)
    | (go_at_call 17; (with_reducible refine (add_aft HA.out HB.out R1.out _ _ hS3 (by simp)).mono ?_); rintro e w4 ⟨rfl, hS4⟩)
    | (go_at_call 18; (with_reducible refine (c2 _).mono ?_); rintro e w5 ⟨rfl, rfl⟩)
    | (go_at_call 19; (with_reducible refine (mul_aft HA.out HB.out R3.out _ _ hS4 rfl).mono ?_); rintro e w5 ⟨rfl, hS5⟩))
  obtain ⟨W3, hW3⟩ : ∃ W3, W3 = (w2.alloc (.cells #[.bool (decide (a < 0)), .slice A1 (digs a.natAbs).length k1] 32)).alloc (.cells #[.bool (decide (b < 0)), .slice A2 (digs b.natAbs).length k2] 32) := ⟨_, rfl⟩
  have hal : Below w2.heap.size w2 W3 := by rw [hW3]; exact ((Below.refl _ _).alloc (Nat.le_refl _) _).alloc (by simp) _
  have VA := Lib.hid ((hv1.below hb2).below hal)
  have VB := Lib.hid (hv2.below hal)
  have cc : ∀ W, Aft w W3 W → W.cell? ⟨w2.heap.size, 0, none⟩ = some (.bool (decide (a < 0))) ∧ W.cell? ⟨w2.heap.size, 1, none⟩ = some (.slice A1 (digs a.natAbs).length k1) ∧ W.cell? ⟨w2.heap.size + 1, 0, none⟩ = some (.bool (decide (b < 0))) ∧ W.cell? ⟨w2.heap.size + 1, 1, none⟩ = some (.slice A2 (digs b.natAbs).length k2) ∧ Aft w W3 W := by
    intro W h
    rw [hW3] at h ⊢
    exact two_cells h
  rw [← hW3] at hS5
  clear hS4 hS3 hW3 hal hv1 hv2 hb2
  go_region_held3 (fun W => W.cell? ⟨w2.heap.size, 0, none⟩ = some (.bool (decide (a < 0))) ∧ W.cell? ⟨w2.heap.size, 1, none⟩ = some (.slice A1 (digs a.natAbs).length k1) ∧ W.cell? ⟨w2.heap.size + 1, 0, none⟩ = some (.bool (decide (b < 0))) ∧ W.cell? ⟨w2.heap.size + 1, 1, none⟩ = some (.slice A2 (digs b.natAbs).length k2) ∧ Aft w W3 W)
    (first | exact cc _ (by assumption) | exact cc _ (Aft.drew (by assumption)))
    (first
      | (go_at_call 21; (with_reducible refine (bg_aft (w := w) (w3 := W3) (Aft.drew hS5) (add_big a b La.out Lb.out _ _ _ (VA.out.box (Aft.drew hS5)) (VB.out.box (Aft.drew hS5)))).mono ?_); rintro e w6 ⟨A6, k6, rfl, hv6, hS6⟩)
      | (go_at_call 20; (with_reducible refine (is_aft R1.out L1.out hv6 hS6).mono ?_); rintro e w7 ⟨rfl, hS7⟩)
      | (go_at_call 22; (with_reducible refine (bg_aft (w := w) (w3 := W3) hS7 (neg_big b Lb.out _ _ (VB.out.box hS7))).mono ?_); rintro e w8 ⟨A8, k8, rfl, hv8, hS8⟩)
      | (go_at_call 21; (with_reducible refine (bg_aft (w := w) (w3 := W3) hS8 (add_big a (-b) La.out Lb2.out _ _ _ (VA.out.box hS8) hv8)).mono ?_); rintro e w9 ⟨A9, k9, rfl, hv9, hS9⟩)
      | (go_at_call 20; (with_reducible refine (is_aft R2.out L2.out hv9 hS9).mono ?_); rintro e w10 ⟨rfl, hS10⟩)
      | (go_at_call 23; (with_reducible refine (bg_aft (w := w) (w3 := W3) hS10 (mul_big a b La.out Lb.out _ _ _ (VA.out.box hS10) (VB.out.box hS10))).mono ?_); rintro e w11 ⟨A11, k11, rfl, hv11, hS11⟩)
      | (go_at_call 20; (with_reducible refine (is_aft R3.out L3.out hv11 hS11).mono ?_); rintro e w12 ⟨rfl, hS12⟩)
      | (go_at_call 24; (with_reducible refine (cO _).mono ?_); rintro e w13 ⟨rfl, rfl⟩)
      | (go_at_call 25; (with_reducible refine (cO2 _).mono ?_); rintro e w14 ⟨rfl, rfl⟩))
  go_wp2
  go_ret
  exact ⟨ret_bool (by simp), hS12.1⟩

namespace ValueSumsF
theorem own : ownKnob Try.prog.godebug = none := by kernel_rfl

set_option maxRecDepth 100000 in
theorem lifted (os : Os) (started : os.Started) (H : Type) (enc : TypeId × Value → H) :
    ReturnsInHanded {} Try.checked os 4 .any (Rows.valueSumsSpec.pre6 enc Try.prog Try.f4 Rows.valueSumsRow.domain false) (Rows.valueSumsSpec.post enc Try.prog Try.f4 false true false false) := by
  refine returnsInHanded_of_change (C := Try.checked) own started (by kernel_rfl) Try.func4
    (ChangeSpec.witness6 (enc := enc) (C := Try.checked) false ⟨#[], #[.int .i64 0, .int .i64 0], []⟩ 8 (by kernel_rfl) (by kernel_rfl) (by kernel_rfl) (by kernel_rfl)) ?_
  intro W base args ds gs before hval0 hW hcnd _
  have hval : ∀ (j : Nat) t v, Try.f4.params[j]? = some t → args[j]? = some v → Value.okWide Try.prog W .any base t v := hval0
  have hW' := hW
  obtain ⟨p, q, hA0, hV, rfl, hfz, hnd⟩ := hW
  have hA : DataW.TrodAll enc Try.prog W 0 (fun _ => true) true Try.f4.params.toList args.toList ds p := hA0
  rw [Try.params4] at hA hval
  obtain ⟨v0, vs0, d0, ds0, p0, q0, hargs, rfl, rfl, h0, r0⟩ := trodAll_cons hA
  obtain ⟨v1, vs1, d1, ds1, p1, q1, rfl, rfl, rfl, h1, r1⟩ := trodAll_cons r0
  obtain ⟨rfl, rfl, rfl⟩ := trodAll_nil r1
  obtain rfl : args = #[v0, v1] := by cases args; simp_all
  obtain ⟨rfl, rfl⟩ := trodVars_none hV
  obtain ⟨x0, rfl, rfl, rfl, w0⟩ := open_int Try.underlying2 (hval 0 2 v0 rfl rfl) h0
  have bd0 := bounds_i64 w0
  obtain ⟨x1, rfl, rfl, rfl, w1⟩ := open_int Try.underlying2 (hval 1 2 v1 rfl rfl) h1
  have bd1 := bounds_i64 w1
  clear hA0 hval0
  simp only [List.append_nil] at hW'
  refine (sums_walk x0 bd0 x1 bd1 W).mono fun e W' ⟨he, hb⟩ => ?_
  subst he
  exact ⟨_, rfl, _, _, _, [], [], [], hW', trodAll_mk1 (shut_bool Try.underlying4 _), trodAll_cons_mk (shut_int Try.underlying2 w0) (trodAll_cons_mk (shut_int Try.underlying2 w1) (trodAll_mk0)), rfl, hb.frame _, fun h => by cases h⟩
end ValueSumsF
theorem valueSums_holds : Rows.ValueSumsSaid :=
  OpenClaim.holds_of_wide 4 Try.f4 rfl rfl rfl rfl rfl rfl rfl ⟨rfl, rfl, rfl, rfl, rfl⟩ rfl rfl rfl rfl rfl (by kernel_rfl) Try.func4 (by kernel_rfl)
    (of_decide_eq_true (by kernel_rfl)) (by unfold Func.isWrapper; first | (rw [if_pos (by decide +kernel)]; kernel_rfl) | (rw [if_neg (by decide +kernel)]; exact ⟨rfl, rfl⟩))
    (fun os started H enc _ => ValueSumsF.lifted os started H enc)

end Go.Proofs.Ytknjdkjakngkpaa
