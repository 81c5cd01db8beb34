/-
  ValueTexts, WHATEVER THE BYTE STRING AND THE INTEGER: the text's number is the document's, or the same is told of it; and an integer's text is the document's, and reads back as it: the law returns true, and its arguments read as before.
-/
import Derived.Test.YtknjdkjakngkpaaDoorVNoughts
import Derived.Test.YtknjdkjakngkpaaDoorVRParse
import Derived.Deep.RegionHeld3
import Derived.BigQuiet
namespace Go.Proofs.YtknjdkjakngkpaaDoor
open Go.ChangeShapes Go.WideShapes Go.ChangeAt Go.RowKit
set_option linter.unusedVariables false

theorem rparse_any (s : ByteArray) (hs : s.size ≤ 100) (w : World) : Calls Tryd.prog 7 #[.string s] w (RpPost w s.data.toList) := by
  by_cases h0 : 0 < s.size
  · by_cases h43 : ((s[0]'h0).toNat : Int) = 43
    · exact rparse_plus s hs h0 h43 w
    · by_cases h45 : ((s[0]'h0).toNat : Int) = 45
      · exact rparse_minus s hs h0 h45 w
      · exact rparse_plain s hs h0 _ rfl h43 h45 w
  · have e : s = ⟨#[]⟩ := by
      apply ByteArray.ext
      have : s.data.size = 0 := by have : s.size = s.data.size := rfl; omega
      exact Array.eq_empty_of_size_eq_zero this
    rw [e]
    exact rparse_nil w
theorem body_digit {l : List UInt8} (h : l.all isD = true) (hne : l ≠ []) : body l = l ∧ neg l = false := by
  cases l with
  | nil => exact absurd rfl hne
  | cons c r =>
    have hc : isD c = true := by rw [List.all_cons, Bool.and_eq_true] at h; exact h.1
    have hd : 48 ≤ c.toNat ∧ c.toNat ≤ 57 := of_decide_eq_true hc
    refine ⟨by rw [body_cons', if_neg (by omega)], by rw [neg_cons', decide_eq_false (by omega)]⟩
theorem textZ_num (n : Int) : isNum (textZ n) = true ∧ numZ (textZ n) = n := by
  by_cases h : n < 0
  · have := minus_num h 0
    rw [List.replicate_zero, List.nil_append] at this
    rw [textZ_neg h]
    exact this
  · obtain ⟨a, b, c⟩ := textZ_pos (show 0 ≤ n by omega)
    obtain ⟨d, e⟩ := body_digit a b
    constructor
    · unfold isNum
      rw [d, a]
      have : (textZ n).isEmpty = false := by rw [List.isEmpty_eq_false_iff]; exact b
      rw [this]; rfl
    · unfold numZ
      rw [if_neg (by rw [e]; decide), d, c]
/-- One box, made at w2. -/
def Bx (w w2 : World) (u : Array Value) (W : World) : Prop := Below w.heap.size w W ∧ Below w2.heap.size w2 W ∧ Bk W w2.heap.size 28 u
theorem Bx.drew {w w2 : World} {u : Array Value} {W : World} (h : Bx w w2 u W) : Bx w w2 u W.drew := ⟨Below.drew h.1, Below.drew h.2.1, h.2.2⟩
theorem Bx.below {w w2 : World} {u : Array Value} {W W' : World} (h : Bx w w2 u W) (hb : Below W.heap.size W W') : Bx w w2 u W' := ⟨h.1.trans (hb.mono h.1.size), h.2.1.trans (hb.mono h.2.1.size), h.2.2.below hb h.2.2.lt⟩
theorem Bx.all {w w2 : World} {a : Bool} {A : Option Addr} {n ca : Nat} {W : World} (h : Bx w w2 #[.bool a, .slice A n ca] W) :
    W.cell? ⟨w2.heap.size, 0, none⟩ = some (.bool a) ∧ W.cell? ⟨w2.heap.size, 1, none⟩ = some (.slice A n ca) ∧ Bx w w2 #[.bool a, .slice A n ca] W := by
  refine ⟨?_, ?_, h⟩
  · rw [h.2.2.cell]; rfl
  · rw [h.2.2.cell]; rfl
theorem Bx.mk {w w2 : World} (hb : Below w.heap.size w w2) (u : Array Value) : Bx w w2 u (w2.alloc (.cells u 28)) := ⟨hb.alloc hb.size _, (Below.refl _ _).alloc (Nat.le_refl _) _, Bk.new _ _ _⟩
theorem ev {w W : World} {f : Nat} {args : Array Value} {v : Value} (hW : Below w.heap.size w W) (h : Calls Tryd.prog f args W fun e w' => e = .returned v ∧ Below W.heap.size W w') :
    Calls Tryd.prog f args W fun e w' => e = .returned v ∧ Below w.heap.size w w' := h.mono fun e w' ⟨a, b⟩ => ⟨a, hW.trans (b.mono hW.size)⟩
set_option maxHeartbeats 8000000 in
theorem texts_over (s : ByteArray) (hs : s.size ≤ 60) (hno : isNum s.data.toList = true) (hov : ¬ F64 (numZ s.data.toList)) (n : Int) (h0 : -9223372036854775808 ≤ n) (h1 : n ≤ 9223372036854775807) (w : World) (hv : LV w) :
    Calls Tryd.prog 3 #[.string s, .int .i64 n] w fun e w' => e = .returned (.bool true) ∧ Below w.heap.size w w' := by
  have hl := textZ_len h0 h1
  have cA : ∀ W, Below w.heap.size w W → Calls Tryd.prog 5 #[] W fun e w' => e = .returned (.bool true) ∧ Below w.heap.size w w' := fun W h => ev h (awake_ok W)
  have cO : ∀ W, Below w.heap.size w W → Calls Tryd.prog 9 #[.int .i64 n] W fun e w' => ∃ v, e = .returned v ∧ BigV w' v n ∧ Below w.heap.size w w' := fun W h => (of_big n ⟨h0, h1⟩ W).mono fun e w' ⟨v, a, b, c⟩ => ⟨v, a, b, h.trans (c.mono h.size)⟩
  have cT : ∀ W v, BigV W v n → Below w.heap.size w W → Calls Tryd.prog 11 #[v] W fun e w' => e = .returned (.string (strOf (textZ n))) ∧ Below w.heap.size w w' := fun W v hb h => ev h (rtext_big n (by have := digs_len64 h0 h1; omega) v W hb)
  have cV : ∀ W, Below w.heap.size w W → Calls Tryd.prog 10 #[.int .i64 n] W fun e w' => e = .returned (.string (strOf (textZ n))) ∧ Below w.heap.size w w' := fun W h => ev h (vtext_any n h0 h1 W (hv.below h))
  have cB : ∀ W, Below w.heap.size w W → Calls Tryd.prog 6 #[.string (strOf (textZ n))] W fun e w' => e = .returned (twoP n 0) ∧ Below w.heap.size w w' := fun W h => by
    have := vparse_ok (strOf (textZ n)) (by rw [strOf_size]; omega) (by rw [strOf_list]; exact (textZ_num n).1) (by rw [strOf_list, (textZ_num n).2]; exact h0) (by rw [strOf_list, (textZ_num n).2]; exact h1) W
    rw [strOf_list, (textZ_num n).2] at this
    exact ev h this
  obtain ⟨T, hT⟩ : ∃ T, T = strOf (textZ n) := ⟨_, rfl⟩
  rw [← hT] at cT cV cB
  have hs60 : ¬ (60 : Int) < (s.size : Int) := by omega
  have hb0 : Below w.heap.size w w := Below.refl _ _
  have cP : ∀ W, Below w.heap.size w W → Calls Tryd.prog 6 #[.string s] W fun e w' => e = .returned (twoP 0 9) ∧ Below w.heap.size w w' := fun W h => ev h (vparse_over s (by omega) hno hov W (hv.below h))
  have cR : ∀ W, Below w.heap.size w W → Calls Tryd.prog 7 #[.string s] W fun e w' => e = .returned (noBig 9) ∧ Below w.heap.size w w' := fun W h => ev h ((rparse_any s (by omega) W).mono fun e w' hp => by
    unfold RpPost at hp
    rw [if_neg (by rw [hno]; decide), if_neg hov] at hp
    exact hp)
  clear h0 h1 hl hT hs hv
  go_enter Tryd.func3, Tryd.ntmps3
  go_wp2_with (first
    | (go_at_call 5; (with_reducible refine (cA _ (by assumption)).mono ?_); rintro e w1 ⟨rfl, hb1⟩)
    | (go_at_call 6; (with_reducible refine (cP _ (by assumption)).mono ?_); rintro e w2 ⟨rfl, hb2⟩)
    | (go_at_call 7; (with_reducible refine (cR _ (by assumption)).mono ?_); rintro e w3 ⟨rfl, hb3⟩; have hx := Bx.mk hb3 #[.bool false, .slice none 0 0]; obtain ⟨p1, p2, _⟩ := hx.all; have hbx := hx.1))
  go_quiet (fail)
  have hbq := below_dr hbx nq
  obtain ⟨W, hW⟩ : ∃ W, W = (w3.alloc (.cells #[.bool false, .slice none 0 0] 28)).drewN nq := ⟨_, rfl⟩
  rw [← hW] at hbq ⊢
  clear hW hbx hx hb1 hb2 hb3 hb0
  go_wp2_with (first
    | (go_at_call 10; (with_reducible refine (cV _ (by assumption)).mono ?_); rintro e w6 ⟨rfl, hb6⟩)
    | (go_at_call 6; (with_reducible refine (cB _ (by assumption)).mono ?_); rintro e w7 ⟨rfl, hb7⟩)
    | (go_at_call 9; (with_reducible refine (cO _ (by assumption)).mono ?_); rintro e w8 ⟨v8, rfl, hv8, hb8⟩)
    | (go_at_call 11; (with_reducible refine (cT _ _ hv8 (by assumption)).mono ?_); rintro e w9 ⟨rfl, hb9⟩))
  go_ret
  exact ⟨rfl, by assumption⟩
set_option maxHeartbeats 8000000 in
theorem texts_form (s : ByteArray) (hs : s.size ≤ 60) (hno : isNum s.data.toList = false) (n : Int) (h0 : -9223372036854775808 ≤ n) (h1 : n ≤ 9223372036854775807) (w : World) (hv : LV w) :
    Calls Tryd.prog 3 #[.string s, .int .i64 n] w fun e w' => e = .returned (.bool true) ∧ Below w.heap.size w w' := by
  have hl := textZ_len h0 h1
  have cA : ∀ W, Below w.heap.size w W → Calls Tryd.prog 5 #[] W fun e w' => e = .returned (.bool true) ∧ Below w.heap.size w w' := fun W h => ev h (awake_ok W)
  have cO : ∀ W, Below w.heap.size w W → Calls Tryd.prog 9 #[.int .i64 n] W fun e w' => ∃ v, e = .returned v ∧ BigV w' v n ∧ Below w.heap.size w w' := fun W h => (of_big n ⟨h0, h1⟩ W).mono fun e w' ⟨v, a, b, c⟩ => ⟨v, a, b, h.trans (c.mono h.size)⟩
  have cT : ∀ W v, BigV W v n → Below w.heap.size w W → Calls Tryd.prog 11 #[v] W fun e w' => e = .returned (.string (strOf (textZ n))) ∧ Below w.heap.size w w' := fun W v hb h => ev h (rtext_big n (by have := digs_len64 h0 h1; omega) v W hb)
  have cV : ∀ W, Below w.heap.size w W → Calls Tryd.prog 10 #[.int .i64 n] W fun e w' => e = .returned (.string (strOf (textZ n))) ∧ Below w.heap.size w w' := fun W h => ev h (vtext_any n h0 h1 W (hv.below h))
  have cB : ∀ W, Below w.heap.size w W → Calls Tryd.prog 6 #[.string (strOf (textZ n))] W fun e w' => e = .returned (twoP n 0) ∧ Below w.heap.size w w' := fun W h => by
    have := vparse_ok (strOf (textZ n)) (by rw [strOf_size]; omega) (by rw [strOf_list]; exact (textZ_num n).1) (by rw [strOf_list, (textZ_num n).2]; exact h0) (by rw [strOf_list, (textZ_num n).2]; exact h1) W
    rw [strOf_list, (textZ_num n).2] at this
    exact ev h this
  obtain ⟨T, hT⟩ : ∃ T, T = strOf (textZ n) := ⟨_, rfl⟩
  rw [← hT] at cT cV cB
  have hs60 : ¬ (60 : Int) < (s.size : Int) := by omega
  have hb0 : Below w.heap.size w w := Below.refl _ _
  have cP : ∀ W, Below w.heap.size w W → Calls Tryd.prog 6 #[.string s] W fun e w' => e = .returned (twoP 0 1) ∧ Below w.heap.size w w' := fun W h => ev h (vparse_form s (by omega) hno W)
  have cR : ∀ W, Below w.heap.size w W → Calls Tryd.prog 7 #[.string s] W fun e w' => e = .returned (noBig 1) ∧ Below w.heap.size w w' := fun W h => ev h ((rparse_any s (by omega) W).mono fun e w' hp => by
    unfold RpPost at hp
    rw [if_pos hno] at hp
    exact hp)
  clear h0 h1 hl hT hs hv
  go_enter Tryd.func3, Tryd.ntmps3
  go_wp2_with (first
    | (go_at_call 5; (with_reducible refine (cA _ (by assumption)).mono ?_); rintro e w1 ⟨rfl, hb1⟩)
    | (go_at_call 6; (with_reducible refine (cP _ (by assumption)).mono ?_); rintro e w2 ⟨rfl, hb2⟩)
    | (go_at_call 7; (with_reducible refine (cR _ (by assumption)).mono ?_); rintro e w3 ⟨rfl, hb3⟩; have hx := Bx.mk hb3 #[.bool false, .slice none 0 0]; obtain ⟨p1, p2, _⟩ := hx.all; have hbx := hx.1))
  go_quiet (fail)
  have hbq := below_dr hbx nq
  obtain ⟨W, hW⟩ : ∃ W, W = (w3.alloc (.cells #[.bool false, .slice none 0 0] 28)).drewN nq := ⟨_, rfl⟩
  rw [← hW] at hbq ⊢
  clear hW hbx hx hb1 hb2 hb3 hb0
  go_wp2_with (first
    | (go_at_call 10; (with_reducible refine (cV _ (by assumption)).mono ?_); rintro e w6 ⟨rfl, hb6⟩)
    | (go_at_call 6; (with_reducible refine (cB _ (by assumption)).mono ?_); rintro e w7 ⟨rfl, hb7⟩)
    | (go_at_call 9; (with_reducible refine (cO _ (by assumption)).mono ?_); rintro e w8 ⟨v8, rfl, hv8, hb8⟩)
    | (go_at_call 11; (with_reducible refine (cT _ _ hv8 (by assumption)).mono ?_); rintro e w9 ⟨rfl, hb9⟩))
  go_ret
  exact ⟨rfl, by assumption⟩
theorem of_bx {z : Int} (hz : F64 z) {w w3 : World} {u : Array Value} {W : World} (hS : Bx w w3 u W) :
    Calls Tryd.prog 9 #[.int .i64 z] W fun e w' => ∃ A5 c5, e = .returned (.agg #[.bool (decide (z < 0)), .slice A5 (digs z.natAbs).length c5]) ∧ BigV w' (.agg #[.bool (decide (z < 0)), .slice A5 (digs z.natAbs).length c5]) z ∧ Bx w w3 u w' :=
  (of_big z hz W).mono fun e w' ⟨v, he, ⟨A5, c5, hv, h1, h2⟩, hb⟩ => ⟨A5, c5, by rw [he, hv], ⟨A5, c5, rfl, h1, h2⟩, hS.below hb⟩
theorem same_bx {z : Int} (hd : (digs z.natAbs).length ≤ 1000) {w w3 : World} {u : Array Value} {W : World} {v x : Value} (hx : BigV w3 x z) (hv : BigV W v z) (hS : Bx w w3 u W) :
    Calls Tryd.prog 8 #[v, x] W fun e w' => e = .returned (.bool true) ∧ Bx w w3 u w' :=
  (same_big z z hd hd v x W hv (hx.below hS.2.1)).mono fun e w' ⟨he, hb⟩ => ⟨by rw [he]; simp, hS.below hb⟩
set_option maxHeartbeats 8000000 in
theorem texts_fit (s : ByteArray) (hs : s.size ≤ 60) (hno : isNum s.data.toList = true) (hf : F64 (numZ s.data.toList)) (n : Int) (h0 : -9223372036854775808 ≤ n) (h1 : n ≤ 9223372036854775807) (w : World) (hv : LV w) :
    Calls Tryd.prog 3 #[.string s, .int .i64 n] w fun e w' => e = .returned (.bool true) ∧ Below w.heap.size w w' := by
  have hl := textZ_len h0 h1
  have cA : ∀ W, Below w.heap.size w W → Calls Tryd.prog 5 #[] W fun e w' => e = .returned (.bool true) ∧ Below w.heap.size w w' := fun W h => ev h (awake_ok W)
  have cO : ∀ W, Below w.heap.size w W → Calls Tryd.prog 9 #[.int .i64 n] W fun e w' => ∃ v, e = .returned v ∧ BigV w' v n ∧ Below w.heap.size w w' := fun W h => (of_big n ⟨h0, h1⟩ W).mono fun e w' ⟨v, a, b, c⟩ => ⟨v, a, b, h.trans (c.mono h.size)⟩
  have cT : ∀ W v, BigV W v n → Below w.heap.size w W → Calls Tryd.prog 11 #[v] W fun e w' => e = .returned (.string (strOf (textZ n))) ∧ Below w.heap.size w w' := fun W v hb h => ev h (rtext_big n (by have := digs_len64 h0 h1; omega) v W hb)
  have cV : ∀ W, Below w.heap.size w W → Calls Tryd.prog 10 #[.int .i64 n] W fun e w' => e = .returned (.string (strOf (textZ n))) ∧ Below w.heap.size w w' := fun W h => ev h (vtext_any n h0 h1 W (hv.below h))
  have cB : ∀ W, Below w.heap.size w W → Calls Tryd.prog 6 #[.string (strOf (textZ n))] W fun e w' => e = .returned (twoP n 0) ∧ Below w.heap.size w w' := fun W h => by
    have := vparse_ok (strOf (textZ n)) (by rw [strOf_size]; omega) (by rw [strOf_list]; exact (textZ_num n).1) (by rw [strOf_list, (textZ_num n).2]; exact h0) (by rw [strOf_list, (textZ_num n).2]; exact h1) W
    rw [strOf_list, (textZ_num n).2] at this
    exact ev h this
  obtain ⟨T, hT⟩ : ∃ T, T = strOf (textZ n) := ⟨_, rfl⟩
  rw [← hT] at cT cV cB
  have hs60 : ¬ (60 : Int) < (s.size : Int) := by omega
  have hb0 : Below w.heap.size w w := Below.refl _ _
  have hzd : (digs (numZ s.data.toList).natAbs).length ≤ 1000 := Nat.le_trans (digs_len (k := 20) (by unfold F64 at hf; omega)) (by decide)
  obtain ⟨z, hz⟩ : ∃ z, z = numZ s.data.toList := ⟨_, rfl⟩
  have cP : ∀ W, Below w.heap.size w W → Calls Tryd.prog 6 #[.string s] W fun e w' => e = .returned (twoP z 0) ∧ Below w.heap.size w w' := fun W h => ev h (by rw [hz]; exact vparse_ok s (by omega) hno hf.1 hf.2 W)
  have cR : ∀ W, Below w.heap.size w W → Calls Tryd.prog 7 #[.string s] W fun e w' => ∃ A c, e = .returned (.tuple #[.agg #[.bool (decide (z < 0)), .slice A (digs z.natAbs).length c], .int .i64 0]) ∧ BigV w' (.agg #[.bool (decide (z < 0)), .slice A (digs z.natAbs).length c]) z ∧ Below w.heap.size w w' := fun W h => (rparse_any s (by omega) W).mono fun e w' hp => by
    unfold RpPost at hp
    rw [if_neg (by rw [hno]; decide), if_pos hf, ← hz] at hp
    obtain ⟨v, he, ⟨A, c, hv, h1, h2⟩, hb⟩ := hp
    exact ⟨A, c, by rw [he, hv], ⟨A, c, rfl, h1, h2⟩, h.trans (hb.mono h.size)⟩
  rw [← hz] at hf hzd
  have HF := Lib.hid hf
  have HZD := Lib.hid hzd
  clear h0 h1 hl hT hs hv hno hf hz hzd
  go_enter Tryd.func3, Tryd.ntmps3
  go_wp2_with (first
    | (go_at_call 5; (with_reducible refine (cA _ (by assumption)).mono ?_); rintro e w1 ⟨rfl, hb1⟩)
    | (go_at_call 6; (with_reducible refine (cP _ (by assumption)).mono ?_); rintro e w2 ⟨rfl, hb2⟩)
    | (go_at_call 7; (with_reducible refine (cR _ (by assumption)).mono ?_); rintro e w3 ⟨A, c, rfl, hv3, hb3⟩; have hx := Bx.mk hb3 #[.bool (decide (z < 0)), .slice A (digs z.natAbs).length c]; have hbx := hx.1))
  first
    | (go_region_held (fun W => W.cell? ⟨w3.heap.size, 0, none⟩ = some (.bool (decide (z < 0))) ∧ W.cell? ⟨w3.heap.size, 1, none⟩ = some (.slice A (digs z.natAbs).length c) ∧ Bx w w3 #[.bool (decide (z < 0)), .slice A (digs z.natAbs).length c] W)
        (first | exact Bx.all (by assumption) | exact Bx.all (Bx.drew (by assumption)))
        (first
          | (go_at_call 9; (with_reducible refine (of_bx HF.out (by first | exact Bx.drew (by assumption) | assumption)).mono ?_); rintro e w5 ⟨A5, c5, rfl, h51, hS5⟩)
          | (go_at_call 8; (with_reducible refine (same_bx HZD.out hv3 h51 hS5).mono ?_); rintro e w6 ⟨rfl, hS6⟩)))
    | fail
  have hbq := hS6.1
  clear hS6 hb1 hb2 hb3 hb0 hbx hx hv3
  go_wp2_with (first
    | (go_at_call 10; (with_reducible refine (cV _ (by assumption)).mono ?_); rintro e w6 ⟨rfl, hb6⟩)
    | (go_at_call 6; (with_reducible refine (cB _ (by assumption)).mono ?_); rintro e w7 ⟨rfl, hb7⟩)
    | (go_at_call 9; (with_reducible refine (cO _ (by assumption)).mono ?_); rintro e w8 ⟨v8, rfl, hv8, hb8⟩)
    | (go_at_call 11; (with_reducible refine (cT _ _ hv8 (by assumption)).mono ?_); rintro e w9 ⟨rfl, hb9⟩))
  go_ret
  exact ⟨rfl, by assumption⟩
set_option maxHeartbeats 8000000 in
theorem texts_long (s : ByteArray) (hs : 60 < s.size) (n : Int) (h0 : -9223372036854775808 ≤ n) (h1 : n ≤ 9223372036854775807) (w : World) (hv : LV w) :
    Calls Tryd.prog 3 #[.string s, .int .i64 n] w fun e w' => e = .returned (.bool true) ∧ Below w.heap.size w w' := by
  have cA : ∀ W, Below w.heap.size w W → Calls Tryd.prog 5 #[] W fun e w' => e = .returned (.bool true) ∧ Below w.heap.size w w' := fun W h => ev h (awake_ok W)
  have hs60 : (60 : Int) < (s.size : Int) := by omega
  have hb0 : Below w.heap.size w w := Below.refl _ _
  clear hv h0 h1 hs
  go_enter Tryd.func3, Tryd.ntmps3
  go_wp2_with (go_at_call 5; (with_reducible refine (cA _ (by assumption)).mono ?_); rintro e w1 ⟨rfl, hb1⟩)
  go_ret
  exact ⟨rfl, by assumption⟩
theorem texts_walk (s : ByteArray) (_hs : s.size ≤ maxLen) (n : Int) (h0 : -9223372036854775808 ≤ n) (h1 : n ≤ 9223372036854775807) (w : World) (hv : LV w) :
    Calls Tryd.prog 3 #[.string s, .int .i64 n] w fun e w' => e = .returned (.bool true) ∧ Below w.heap.size w w' := by
  by_cases h60 : 60 < s.size
  · exact texts_long s h60 n h0 h1 w hv
  · cases hno : isNum s.data.toList with
    | false => exact texts_form s (by omega) hno n h0 h1 w hv
    | true =>
      by_cases hf : F64 (numZ s.data.toList)
      · exact texts_fit s (by omega) hno hf n h0 h1 w hv
      · exact texts_over s (by omega) hno hf n h0 h1 w hv

namespace ValueTextsF
theorem contract (H : Type) (enc : TypeId × Value → H) (W : World) (base : Nat) (args : Array Value) (ds gs : List (DataW H)) (before : List MemPlace)
    (hval : ∀ (j : Nat) t v, Tryd.f3.params[j]? = some t → args[j]? = some v → Value.okWide Tryd.prog W .any base t v)
    (hW : DataW.Whole enc Tryd.prog Tryd.f3.params.toList Rows.valueTextsSpec.vars false W args.toList ds gs before) (hL : laidMetH Tryd.prog Rows.valueTextsRow.laid W) :
    Calls Tryd.prog 3 args W fun e W' => ∃ v, e = .returned v ∧ Rows.valueTextsSpec.post enc Tryd.prog Tryd.f3 false true false false W args v W' := by
  have hW' := hW
  obtain ⟨p, q, hA0, hV, rfl, hfz, hnd⟩ := hW
  have hA : DataW.TrodAll enc Tryd.prog W 0 (fun _ => true) true Tryd.f3.params.toList args.toList ds p := hA0
  rw [Tryd.params3] at hA hval
  obtain ⟨v0, vs0, d0, ds0, p0, q0, hargs, rfl, rfl, h0, r0⟩ := trodAll_cons hA
  obtain ⟨v1, vs1, d1, ds1, p1, q1, rfl, rfl, rfl, h1, r1⟩ := trodAll_cons r0
  obtain ⟨rfl, rfl, rfl⟩ := trodAll_nil r1
  obtain rfl : args = #[v0, v1] := by cases args; simp_all
  obtain ⟨rfl, rfl⟩ := trodVars_none hV
  obtain ⟨x0, rfl, rfl, rfl, w0⟩ := Go.ChangeMaps.open_string Tryd.underlying9 (hval 0 9 v0 rfl rfl) h0
  obtain ⟨x1, rfl, rfl, rfl, w1⟩ := open_int Tryd.underlying2 (hval 1 2 v1 rfl rfl) h1
  have bd1 := bounds_i64 w1
  clear hA0
  simp only [List.append_nil] at hW'
  have hlv := lv_of hL
  refine (texts_walk x0 w0 x1 bd1.1 bd1.2 W hlv).mono fun e W' ⟨he, hb⟩ => ?_
  subst he
  exact ⟨_, rfl, _, _, _, [], [], [], hW', trodAll_mk1 (shut_bool Tryd.underlying4 _), trodAll_cons_mk (Go.ChangeMaps.shut_string Tryd.underlying9 w0) (trodAll_cons_mk (shut_int Tryd.underlying2 w1) (trodAll_mk0)), rfl, hb.frame _, fun h => by cases h⟩

theorem reads (os : Os) {H : Type} (enc : TypeId × Value → H) : ∃ places, DataW.whole enc Tryd.prog ((laidWorld os).forCall (fun _ _ => 0) ⟨#[], #[.string ⟨#[]⟩, .int .i64 0], []⟩).memory Tryd.f3.params.toList Rows.valueTextsSpec.vars false (#[.string ⟨#[]⟩, .int .i64 0] : Array Value).toList 8 = some ([.lit (.string []), .lit (.int .i64 0)], [], places) :=
  ⟨[], by kernel_rfl⟩

set_option maxRecDepth 100000 in
theorem lifted (os : Os) (started : os.Started) (H : Type) (enc : TypeId × Value → H) (F : Stop.Interp) :
    ReturnsInHanded {} Tryd.checked os 3 .any ((OpenSpec.ofChange Rows.valueTextsSpec).preRow enc Tryd.prog Tryd.f3 Rows.valueTextsRow.domain false Rows.valueTextsRow.laid) (((OpenSpec.ofChange Rows.valueTextsSpec).at F).post enc Tryd.prog Tryd.f3 false true false false) := by
  obtain ⟨places, hx⟩ := reads os enc
  refine returnsInHanded_of_row (C := Tryd.checked) (s := OpenSpec.ofChange Rows.valueTextsSpec) own started (by kernel_rfl) Tryd.func3
    (witness_row_at (enc := enc) (C := Tryd.checked) false (laidWorld os) #[.string ⟨#[]⟩, .int .i64 0] rfl (by kernel_rfl) (by kernel_rfl) (by kernel_rfl)
      (OpenSpec.preRow_of_cond 8 hx (by kernel_rfl) (fun k hk => by cases hk) (by kernel_rfl) (laid_met os _))) ?_
  intro W base args ds gs before hval hW _ _ _ hL _ _
  exact contract H enc W base args ds gs before hval hW hL

theorem said : Rows.ValueTextsSaid :=
  OpenClaim.holds_of_cond 3 Tryd.f3 rfl rfl rfl rfl rfl rfl rfl ⟨rfl, rfl, rfl, rfl, rfl⟩ rfl rfl rfl rfl rfl (by kernel_rfl) Tryd.func3 (by kernel_rfl)
    (of_decide_eq_true (by kernel_rfl)) (by unfold Func.isWrapper; first | (rw [if_pos (by decide +kernel)]; kernel_rfl) | (rw [if_neg (by decide +kernel)]; exact ⟨rfl, rfl⟩))
    (fun os started H enc _ F => by rw [OpenClaim.pre_eq_preRow]; exact lifted os started H enc F)

theorem plain (f : FuncId) (fn : Func) (hf : Tryd.pinned.checked.prog.funcNamed "beck/becklaw02.ValueTexts" = some f) (hfn : Tryd.pinned.checked.prog.funcs[f]? = some fn) :
    true = Tryd.pinned.checked.prog.looks [] ∧ ∀ (j : Nat) t, fn.params[j]? = some t → Tryd.pinned.checked.prog.wantsStandIn t = false := by
  obtain rfl : f = 3 := Option.some.inj ((show Tryd.prog.funcNamed "beck/becklaw02.ValueTexts" = some 3 by kernel_rfl).symm.trans hf) |>.symm
  obtain rfl : fn = Tryd.f3 := (Option.some.inj (Tryd.func3.symm.trans hfn)).symm
  refine ⟨by kernel_rfl, fun j t ht => ?_⟩
  rw [Tryd.params3] at ht
  have hm : t ∈ [9, 2] := by simpa using Array.mem_of_getElem? ht
  have hall : ([9, 2].all fun u => !Tryd.prog.wantsStandIn u) = true := by kernel_rfl
  exact (show Tryd.prog.wantsStandIn t = false by simpa using List.all_eq_true.1 hall t hm)
end ValueTextsF
theorem valueTexts_card : Rows.ValueTextsCardSaid :=
  Claim7.holds_tied_plain_at .later [] _ _ _ _ ValueTextsF.said (fun _ h => by cases h) (by kernel_rfl) (fun _ h => by cases h) valueTexts_row_tie rfl ⟨rfl, rfl⟩ (by kernel_rfl) rfl ValueTextsF.plain (by kernel_rfl)

end Go.Proofs.YtknjdkjakngkpaaDoor
