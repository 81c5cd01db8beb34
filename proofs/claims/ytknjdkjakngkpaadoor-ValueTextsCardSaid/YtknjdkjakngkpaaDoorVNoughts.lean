/-
  ValueNoughts, WHATEVER THE INTEGER AND THE NUMBER OF NOUGHTS: a sign and noughts ahead change no number's text: the law returns true, and its arguments read as before.
-/
import Derived.Test.YtknjdkjakngkpaaDoorVStr
import Derived.Test.YtknjdkjakngkpaaDoorVLaid
import Derived.Test.YtknjdkjakngkpaaDoorVRText
import Derived.Test.YtknjdkjakngkpaaDoorRows
import Derived.Test.YtknjdkjakngkpaaDoorCards
import Derived.Test.YtknjdkjakngkpaaDoorTie
import Derived.ProofKit
import Derived.OpenShut
namespace Go.Proofs.YtknjdkjakngkpaaDoor
open Go.ChangeShapes Go.WideShapes Go.ChangeAt Go.RowKit
set_option linter.unusedVariables false

theorem strOf_list (l : List UInt8) : (strOf l).data.toList = l := by simp [strOf]
theorem strOf_size (l : List UInt8) : (strOf l).size = l.length := by simp [strOf, ByteArray.size]
theorem chars_len (l : List Int) : (chars l).length = l.length := by simp [chars]
theorem digs_len64 {n : Int} (h0 : -9223372036854775808 ≤ n) (h1 : n ≤ 9223372036854775807) : (digs n.natAbs).length ≤ 19 := digs_len (by
  have : (10 : Nat) ^ 19 = 10000000000000000000 := by decide
  omega)
theorem textZ_len {n : Int} (h0 : -9223372036854775808 ≤ n) (h1 : n ≤ 9223372036854775807) : (textZ n).length ≤ 20 := by
  have h := digs_len64 h0 h1
  unfold textZ
  split
  · simp
  · split
    · simp [chars_len]; omega
    · simp [chars_len]; omega
theorem textZ_neg {n : Int} (h : n < 0) : textZ n = 45 :: chars (digs n.natAbs) := by
  unfold textZ
  rw [if_neg (by omega), if_pos h]; rfl
/-- Of no sign: digits only, and their number is it. -/
theorem textZ_pos {n : Int} (h : 0 ≤ n) : (textZ n).all isD = true ∧ textZ n ≠ [] ∧ (dval 0 (textZ n) : Int) = n := by
  by_cases h0 : n = 0
  · subst h0; exact ⟨by decide, by decide, by decide⟩
  · have e : textZ n = chars (digs n.natAbs) := by
      unfold textZ
      rw [if_neg h0, if_neg (by omega)]; rfl
    have hd := digs_dig n.natAbs
    refine ⟨by rw [e]; exact chars_all hd, ?_, by rw [e, chars_dval hd, digs_val]; omega⟩
    rw [e]
    intro hc
    have := congrArg List.length hc
    rw [chars_len] at this
    have := digs_nil.1 (List.length_eq_zero_iff.1 this)
    omega
theorem zeros_all (k : Nat) : (List.replicate k (48 : UInt8)).all isD = true := by
  rw [List.all_eq_true]
  intro c hc
  rw [List.eq_of_mem_replicate hc]; decide
theorem plus_num {n : Int} (h : 0 ≤ n) (k : Nat) : isNum (43 :: (List.replicate k 48 ++ textZ n)) = true ∧ numZ (43 :: (List.replicate k 48 ++ textZ n)) = n := by
  obtain ⟨a, b, c⟩ := textZ_pos h
  have e : body (43 :: (List.replicate k 48 ++ textZ n)) = List.replicate k 48 ++ textZ n := rfl
  constructor
  · unfold isNum
    rw [e, List.all_append, zeros_all, a]
    have : (List.replicate k 48 ++ textZ n).isEmpty = false := by
      rw [List.isEmpty_eq_false_iff]
      intro hc
      exact b (List.append_eq_nil_iff.1 hc).2
    rw [this]; rfl
  · unfold numZ
    rw [if_neg (by unfold neg; simp), e, dval_zeros, c]
theorem minus_num {n : Int} (h : n < 0) (k : Nat) : isNum (45 :: (List.replicate k 48 ++ chars (digs n.natAbs))) = true ∧ numZ (45 :: (List.replicate k 48 ++ chars (digs n.natAbs))) = n := by
  have hd := digs_dig n.natAbs
  have e : body (45 :: (List.replicate k 48 ++ chars (digs n.natAbs))) = List.replicate k 48 ++ chars (digs n.natAbs) := rfl
  constructor
  · unfold isNum
    rw [e, List.all_append, zeros_all, chars_all hd]
    have : (List.replicate k 48 ++ chars (digs n.natAbs)).isEmpty = false := by
      rw [List.isEmpty_eq_false_iff]
      intro hc
      have := congrArg List.length (List.append_eq_nil_iff.1 hc).2
      rw [chars_len] at this
      have := digs_nil.1 (List.length_eq_zero_iff.1 this)
      omega
    rw [this]; rfl
  · unfold numZ
    rw [if_pos (by unfold neg; simp), e, dval_zeros, chars_dval hd, digs_val]; omega
theorem cons_str (c : UInt8) (l : List UInt8) : (⟨#[c]⟩ : ByteArray) ++ strOf l = strOf (c :: l) := (strOf_app [c] l).symm
theorem tail_str (c : UInt8) (l : List UInt8) : (strOf (c :: l)).extract 1 (strOf (c :: l)).size = strOf l := by
  apply ByteArray.ext
  rw [ByteArray.data_extract]
  apply Array.ext'
  simp [strOf, ByteArray.size]
theorem zeros_snoc (g : Nat) : strOf (List.replicate g 48) ++ ⟨#[48]⟩ = strOf (List.replicate (g + 1) 48) := by
  rw [List.replicate_succ']; exact (strOf_app _ [48]).symm

def NoI (W : World) (k g : Nat) (s6 s17 : Value) (wr : World) : Prop := g ≤ k ∧ s17 = .int .u8 ((k - g : Nat) : Int) ∧ s6 = .string (strOf (List.replicate (k - g) 48)) ∧ wr = W
set_option maxHeartbeats 4000000 in
theorem noughts_walk (n : Int) (h0 : -9223372036854775808 ≤ n) (h1 : n ≤ 9223372036854775807) (b : Int) (hb0 : 0 ≤ b) (hb1 : b ≤ 255) (w : World) (hv : LV w) :
    Calls Tryd.prog 4 #[.int .i64 n, .int .u8 b] w fun e w' => e = .returned (.bool true) ∧ Below w.heap.size w w' := by
  have hl := textZ_len h0 h1
  have cO : ∀ W, Calls Tryd.prog 9 #[.int .i64 n] W fun e w' => ∃ v, e = .returned v ∧ BigV w' v n ∧ Below W.heap.size W w' := fun W => of_big n ⟨h0, h1⟩ W
  have cT : ∀ W v, BigV W v n → Calls Tryd.prog 11 #[v] W fun e w' => e = .returned (.string (strOf (textZ n))) ∧ Below W.heap.size W w' := fun W v h => rtext_big n (by have := digs_len64 h0 h1; omega) v W h
  have cV : ∀ W, LV W → Calls Tryd.prog 10 #[.int .i64 n] W fun e w' => e = .returned (.string (strOf (textZ n))) ∧ Below W.heap.size W w' := fun W h => vtext_any n h0 h1 W h
  obtain ⟨k, hk⟩ : ∃ k : Nat, b.tmod 40 = k := ⟨(b.tmod 40).toNat, by have := Int.tmod_nonneg 40 hb0; omega⟩
  have hk40 : k < 40 := by have := Int.tmod_lt_of_pos b (show (0 : Int) < 40 by decide); omega
  have cP : ∀ (l : List UInt8), l.length ≤ 100 → isNum l = true → numZ l = n → ∀ W, Calls Tryd.prog 6 #[.string (strOf l)] W fun e w' => e = .returned (twoP n 0) ∧ Below W.heap.size W w' := by
    intro l hl a e W
    have := vparse_ok (strOf l) (by rw [strOf_size]; omega) (by rw [strOf_list]; exact a) (by rw [strOf_list, e]; exact h0) (by rw [strOf_list, e]; exact h1) W
    rw [strOf_list, e] at this
    exact this
  obtain ⟨T, hT⟩ : ∃ T, T = strOf (textZ n) := ⟨_, rfl⟩
  rw [← hT] at cT cV
  have HT := Lib.hid hT
  have HL := Lib.hid hl
  have HV := Lib.hid hv
  clear h0 h1 hl hT hv
  have hz : ∀ g : Nat, g < 40 → ∀ W, (Op.stringOp .add (strOf (List.replicate g 48)) ⟨#[48]⟩).run Tryd.prog W = .ok (.string (strOf (List.replicate (g + 1) 48))) W := fun g hg W => by
    rw [← zeros_snoc]
    exact run_string_add_sum W _ _ (by rw [strOf_size]; simp [ByteArray.size]; omega)
  have HZ := Lib.hid hz
  clear hz
  have hsA : ∀ c : UInt8, ∀ W, (Op.stringOp .add ⟨#[c]⟩ (strOf (List.replicate k 48))).run Tryd.prog W = .ok (.string (strOf (c :: List.replicate k 48))) W := fun c W => by
    rw [← cons_str]
    exact run_string_add_sum W _ _ (by rw [strOf_size]; simp [ByteArray.size]; omega)
  have hsB : ∀ (c : UInt8) (l : List UInt8), l.length ≤ 20 → ∀ W, (Op.stringOp .add (strOf (c :: List.replicate k 48)) (strOf l)).run Tryd.prog W = .ok (.string (strOf (c :: (List.replicate k 48 ++ l)))) W := fun c l h W => by
    rw [show strOf (c :: (List.replicate k 48 ++ l)) = strOf (c :: List.replicate k 48) ++ strOf l from strOf_app (c :: List.replicate k 48) l]
    exact run_string_add_sum W _ _ (by rw [strOf_size, strOf_size]; simp; omega)
  by_cases hneg : n < 0
  · have hl20 := HL.out
    rw [textZ_neg hneg] at hl20
    simp only [List.length_cons] at hl20
    have cM := cP (45 :: (List.replicate k 48 ++ chars (digs n.natAbs))) (by simp; omega) (minus_num hneg k).1 (minus_num hneg k).2
    have e1 := hsA 43
    have e2 := hsB 43 (textZ n) HL.out
    rw [← HT.out] at e2
    have e3 := hsA 45
    have e4 := hsB 45 (chars (digs n.natAbs)) (by omega)
    have hx : T.extract 1 T.size = strOf (chars (digs n.natAbs)) := by rw [HT.out, textZ_neg hneg, tail_str]
    have hx1 : 1 ≤ T.size := by rw [HT.out, textZ_neg hneg, strOf_size]; simp
    obtain ⟨Z, hZ⟩ : ∃ Z, Z = strOf (43 :: (List.replicate k 48 ++ textZ n)) := ⟨_, rfl⟩
    obtain ⟨Y, hY⟩ : ∃ Y, Y = strOf (45 :: (List.replicate k 48 ++ chars (digs n.natAbs))) := ⟨_, rfl⟩
    obtain ⟨X, hX⟩ : ∃ X, X = strOf (chars (digs n.natAbs)) := ⟨_, rfl⟩
    rw [← hZ] at e2
    rw [← hY] at e4 cM
    rw [← hX] at e4 hx
    clear cP hsA hsB hZ hY hX hl20
    go_enter Tryd.func4, Tryd.ntmps4
    go_wp2_with (first
      | (go_at_call 5; (with_reducible refine (awake_ok _).mono ?_); rintro e w1 ⟨rfl, hb1⟩)
      | (go_at_call 9; (with_reducible refine (cO _).mono ?_); rintro e w2 ⟨v, rfl, hv2, hb2⟩)
      | (go_at_call 11; (with_reducible refine (cT _ _ hv2).mono ?_); rintro e w3 ⟨rfl, hb3⟩))
    have hlv := (((HV.out.below hb1).below hb2).below hb3)
    have hbb := hb1.trans ((hb2.trans (hb3.mono hb2.size)).mono hb1.size)
    have HLV := Lib.hid hlv
    have HBB := Lib.hid hbb
    clear hb1 hb2 hb3 hv2 hlv hbb
    go_loopg [6, 17] k (fun g s6 s17 wr => NoI w3 k g s6 s17 wr)
    case atStart => exact ⟨Nat.le_refl _, by rw [Nat.sub_self]; rfl, by rw [Nat.sub_self]; rfl, rfl⟩
    case round =>
      obtain ⟨hg, hs17, hs6, rfl⟩ := hrel
      cases gk with
      | zero =>
        rw [Nat.sub_zero] at hs17 hs6
        subst hs17
        subst hs6
        have hlt := Int.lt_irrefl (k : Int)
        go_wp2_with (first
          | (go_at_call 6; (with_reducible refine (cM _).mono ?_); rintro e w4 ⟨rfl, hb4⟩)
          | (go_at_call 10; (with_reducible refine (cV _ (HLV.out.below hb4)).mono ?_); rintro e w5 ⟨rfl, hb5⟩))
        go_ret
        exact ⟨rfl, HBB.out.trans ((hb4.trans (hb5.mono hb4.size)).mono HBB.out.size)⟩
      | succ j =>
        obtain ⟨i, hi⟩ : ∃ i, i = k - (j + 1) := ⟨_, rfl⟩
        rw [← hi] at hs17 hs6
        have hi2 : k - j = i + 1 := by omega
        have hik : (i : Int) < (k : Int) := by omega
        have hadd := HZ.out i (by omega)
        have hw1 : IntKind.u8.wrap ((i : Int) + 1) = ((i + 1 : Nat) : Int) := by
          rw [show ((i + 1 : Nat) : Int) = (i : Int) + 1 by omega]
          show ((i : Int) + 1) % 256 = _
          omega
        subst hs17
        subst hs6
        have hs : NoI wr k j (.string (strOf (List.replicate (i + 1) 48))) (.int .u8 ((i : Int) + 1)) wr := ⟨by omega, by rw [hi2, Int.natCast_succ], by rw [hi2], rfl⟩
        have HS := Lib.hid hs
        clear hi hi2 hs hg
        go_wp2
        go_roundg j
        case rel => exact HS.out
        case measure => exact Nat.lt_succ_self j
  · have cM := cP (43 :: (List.replicate k 48 ++ textZ n)) (by
      have := HL.out
      simp
      omega) (plus_num (by omega) k).1 (plus_num (by omega) k).2
    have e1 := hsA 43
    have e2 := hsB 43 (textZ n) HL.out
    rw [← HT.out] at e2
    obtain ⟨Z, hZ⟩ : ∃ Z, Z = strOf (43 :: (List.replicate k 48 ++ textZ n)) := ⟨_, rfl⟩
    rw [← hZ] at e2 cM
    clear cP hsA hsB hZ
    go_enter Tryd.func4, Tryd.ntmps4
    go_wp2_with (first
      | (go_at_call 5; (with_reducible refine (awake_ok _).mono ?_); rintro e w1 ⟨rfl, hb1⟩)
      | (go_at_call 9; (with_reducible refine (cO _).mono ?_); rintro e w2 ⟨v, rfl, hv2, hb2⟩)
      | (go_at_call 11; (with_reducible refine (cT _ _ hv2).mono ?_); rintro e w3 ⟨rfl, hb3⟩))
    have hlv := (((HV.out.below hb1).below hb2).below hb3)
    have hbb := hb1.trans ((hb2.trans (hb3.mono hb2.size)).mono hb1.size)
    have HLV := Lib.hid hlv
    have HBB := Lib.hid hbb
    clear hb1 hb2 hb3 hv2 hlv hbb
    go_loopg [6, 17] k (fun g s6 s17 wr => NoI w3 k g s6 s17 wr)
    case atStart => exact ⟨Nat.le_refl _, by rw [Nat.sub_self]; rfl, by rw [Nat.sub_self]; rfl, rfl⟩
    case round =>
      obtain ⟨hg, hs17, hs6, rfl⟩ := hrel
      cases gk with
      | zero =>
        rw [Nat.sub_zero] at hs17 hs6
        subst hs17
        subst hs6
        have hlt := Int.lt_irrefl (k : Int)
        go_wp2_with (first
          | (go_at_call 6; (with_reducible refine (cM _).mono ?_); rintro e w4 ⟨rfl, hb4⟩)
          | (go_at_call 10; (with_reducible refine (cV _ (HLV.out.below hb4)).mono ?_); rintro e w5 ⟨rfl, hb5⟩))
        go_ret
        exact ⟨rfl, HBB.out.trans ((hb4.trans (hb5.mono hb4.size)).mono HBB.out.size)⟩
      | succ j =>
        obtain ⟨i, hi⟩ : ∃ i, i = k - (j + 1) := ⟨_, rfl⟩
        rw [← hi] at hs17 hs6
        have hi2 : k - j = i + 1 := by omega
        have hik : (i : Int) < (k : Int) := by omega
        have hadd := HZ.out i (by omega)
        have hw1 : IntKind.u8.wrap ((i : Int) + 1) = ((i + 1 : Nat) : Int) := by
          rw [show ((i + 1 : Nat) : Int) = (i : Int) + 1 by omega]
          show ((i : Int) + 1) % 256 = _
          omega
        subst hs17
        subst hs6
        have hs : NoI wr k j (.string (strOf (List.replicate (i + 1) 48))) (.int .u8 ((i : Int) + 1)) wr := ⟨by omega, by rw [hi2, Int.natCast_succ], by rw [hi2], rfl⟩
        have HS := Lib.hid hs
        clear hi hi2 hs hg
        go_wp2
        go_roundg j
        case rel => exact HS.out
        case measure => exact Nat.lt_succ_self j

namespace ValueNoughtsF
theorem contract (H : Type) (enc : TypeId × Value → H) (W : World) (base : Nat) (args : Array Value) (ds gs : List (DataW H)) (before : List MemPlace)
    (hval : ∀ (j : Nat) t v, Tryd.f4.params[j]? = some t → args[j]? = some v → Value.okWide Tryd.prog W .any base t v)
    (hW : DataW.Whole enc Tryd.prog Tryd.f4.params.toList Rows.valueNoughtsSpec.vars false W args.toList ds gs before) (hL : laidMetH Tryd.prog Rows.valueNoughtsRow.laid W) :
    Calls Tryd.prog 4 args W fun e W' => ∃ v, e = .returned v ∧ Rows.valueNoughtsSpec.post enc Tryd.prog Tryd.f4 false true false false W args v W' := by
  have hW' := hW
  obtain ⟨p, q, hA0, hV, rfl, hfz, hnd⟩ := hW
  have hA : DataW.TrodAll enc Tryd.prog W 0 (fun _ => true) true Tryd.f4.params.toList args.toList ds p := hA0
  rw [Tryd.params4] at hA hval
  obtain ⟨v0, vs0, d0, ds0, p0, q0, hargs, rfl, rfl, h0, r0⟩ := trodAll_cons hA
  obtain ⟨v1, vs1, d1, ds1, p1, q1, rfl, rfl, rfl, h1, r1⟩ := trodAll_cons r0
  obtain ⟨rfl, rfl, rfl⟩ := trodAll_nil r1
  obtain rfl : args = #[v0, v1] := by cases args; simp_all
  obtain ⟨rfl, rfl⟩ := trodVars_none hV
  obtain ⟨x0, rfl, rfl, rfl, w0⟩ := open_int Tryd.underlying2 (hval 0 2 v0 rfl rfl) h0
  have bd0 := bounds_i64 w0
  obtain ⟨x1, rfl, rfl, rfl, w1⟩ := open_int Tryd.underlying5 (hval 1 5 v1 rfl rfl) h1
  have bd1 := bounds_u8 w1
  clear hA0
  simp only [List.append_nil] at hW'
  have hlv := lv_of hL
  refine (noughts_walk x0 bd0.1 bd0.2 x1 bd1.1 bd1.2 W hlv).mono fun e W' ⟨he, hb⟩ => ?_
  subst he
  exact ⟨_, rfl, _, _, _, [], [], [], hW', trodAll_mk1 (shut_bool Tryd.underlying4 _), trodAll_cons_mk (shut_int Tryd.underlying2 w0) (trodAll_cons_mk (shut_int Tryd.underlying5 w1) (trodAll_mk0)), rfl, hb.frame _, fun h => by cases h⟩

theorem reads (os : Os) {H : Type} (enc : TypeId × Value → H) : ∃ places, DataW.whole enc Tryd.prog ((laidWorld os).forCall (fun _ _ => 0) ⟨#[], #[.int .i64 0, .int .u8 0], []⟩).memory Tryd.f4.params.toList Rows.valueNoughtsSpec.vars false (#[.int .i64 0, .int .u8 0] : Array Value).toList 8 = some ([.lit (.int .i64 0), .lit (.int .u8 0)], [], places) :=
  ⟨[], by kernel_rfl⟩

set_option maxRecDepth 100000 in
theorem lifted (os : Os) (started : os.Started) (H : Type) (enc : TypeId × Value → H) (F : Stop.Interp) :
    ReturnsInHanded {} Tryd.checked os 4 .any ((OpenSpec.ofChange Rows.valueNoughtsSpec).preRow enc Tryd.prog Tryd.f4 Rows.valueNoughtsRow.domain false Rows.valueNoughtsRow.laid) (((OpenSpec.ofChange Rows.valueNoughtsSpec).at F).post enc Tryd.prog Tryd.f4 false true false false) := by
  obtain ⟨places, hx⟩ := reads os enc
  refine returnsInHanded_of_row (C := Tryd.checked) (s := OpenSpec.ofChange Rows.valueNoughtsSpec) own started (by kernel_rfl) Tryd.func4
    (witness_row_at (enc := enc) (C := Tryd.checked) false (laidWorld os) #[.int .i64 0, .int .u8 0] rfl (by kernel_rfl) (by kernel_rfl) (by kernel_rfl)
      (OpenSpec.preRow_of_cond 8 hx (by kernel_rfl) (fun k hk => by cases hk) (by kernel_rfl) (laid_met os _))) ?_
  intro W base args ds gs before hval hW _ _ _ hL _ _
  exact contract H enc W base args ds gs before hval hW hL

theorem said : Rows.ValueNoughtsSaid :=
  OpenClaim.holds_of_cond 4 Tryd.f4 rfl rfl rfl rfl rfl rfl rfl ⟨rfl, rfl, rfl, rfl, rfl⟩ rfl rfl rfl rfl rfl (by kernel_rfl) Tryd.func4 (by kernel_rfl)
    (of_decide_eq_true (by kernel_rfl)) (by unfold Func.isWrapper; first | (rw [if_pos (by decide +kernel)]; kernel_rfl) | (rw [if_neg (by decide +kernel)]; exact ⟨rfl, rfl⟩))
    (fun os started H enc _ F => by rw [OpenClaim.pre_eq_preRow]; exact lifted os started H enc F)

theorem plain (f : FuncId) (fn : Func) (hf : Tryd.pinned.checked.prog.funcNamed "beck/becklaw02.ValueNoughts" = some f) (hfn : Tryd.pinned.checked.prog.funcs[f]? = some fn) :
    true = Tryd.pinned.checked.prog.looks [] ∧ ∀ (j : Nat) t, fn.params[j]? = some t → Tryd.pinned.checked.prog.wantsStandIn t = false := by
  obtain rfl : f = 4 := Option.some.inj ((show Tryd.prog.funcNamed "beck/becklaw02.ValueNoughts" = some 4 by kernel_rfl).symm.trans hf) |>.symm
  obtain rfl : fn = Tryd.f4 := (Option.some.inj (Tryd.func4.symm.trans hfn)).symm
  refine ⟨by kernel_rfl, fun j t ht => ?_⟩
  rw [Tryd.params4] at ht
  have hm : t ∈ [2, 5] := by simpa using Array.mem_of_getElem? ht
  have hall : ([2, 5].all fun u => !Tryd.prog.wantsStandIn u) = true := by kernel_rfl
  exact (show Tryd.prog.wantsStandIn t = false by simpa using List.all_eq_true.1 hall t hm)
end ValueNoughtsF
theorem valueNoughts_card : Rows.ValueNoughtsCardSaid :=
  Claim7.holds_tied_plain_at .later [] _ _ _ _ ValueNoughtsF.said (fun _ h => by cases h) (by kernel_rfl) (fun _ h => by cases h) valueNoughts_row_tie rfl ⟨rfl, rfl⟩ (by kernel_rfl) rfl ValueNoughtsF.plain (by kernel_rfl)

end Go.Proofs.YtknjdkjakngkpaaDoor
