/-
  TermOrders, WHATEVER THE THREE TERMS: how any three are in the order, whether two are the same, or of one value, are as the document says, and the order is a whole one: the law returns true, and its arguments read as before. The listed variables of the standard library start as their text lays them (tied).
-/
import Derived.Test.YtbecjlmbalcgeaaDoorTOrdU
import Derived.Test.YtbecjlmbalcgeaaDoorTOrdVL
import Derived.Test.YtbecjlmbalcgeaaDoorVLaid
import Derived.Test.YtbecjlmbalcgeaaDoorRows
import Derived.Test.YtbecjlmbalcgeaaDoorCards
import Derived.Test.YtbecjlmbalcgeaaDoorTie
import Derived.Lib.SmallJoins
import Derived.ProofKit
import Derived.OpenShut
namespace Go.Proofs.YtbecjlmbalcgeaaDoor
open Go.ChangeShapes Go.WideShapes Go.ChangeAt Go.RowKit
set_option linter.unusedVariables false

theorem orders_walk (k : Int) (hk0 : -9223372036854775808 ≤ k) (hk1 : k ≤ 9223372036854775807) (a : ByteArray) (_ : a.size ≤ maxLen) (b : ByteArray) (_ : b.size ≤ maxLen) (c : ByteArray) (_ : c.size ≤ maxLen)
    (k' : Int) (hk0' : -9223372036854775808 ≤ k') (hk1' : k' ≤ 9223372036854775807) (a' : ByteArray) (_ : a'.size ≤ maxLen) (b' : ByteArray) (_ : b'.size ≤ maxLen) (c' : ByteArray) (_ : c'.size ≤ maxLen)
    (k'' : Int) (hk0'' : -9223372036854775808 ≤ k'') (hk1'' : k'' ≤ 9223372036854775807) (a'' : ByteArray) (_ : a''.size ≤ maxLen) (b'' : ByteArray) (_ : b''.size ≤ maxLen) (c'' : ByteArray) (_ : c''.size ≤ maxLen) (w : World) (hv : LV w) :
    Calls Tryd.prog 3 #[F4 k a b c, F4 k' a' b' c', F4 k'' a'' b'' c''] w fun e w' => e = .returned (.bool true) ∧ Below w.heap.size w w' := by
  cases h1 : shortB a b c
  · exact orders_long k a b c k' a' b' c' k'' a'' b'' c'' (.inl h1) w hv
  · cases h2 : shortB a' b' c'
    · exact orders_long k a b c k' a' b' c' k'' a'' b'' c'' (.inr (.inl ⟨h1, h2⟩)) w hv
    · cases h3 : shortB a'' b'' c''
      · exact orders_long k a b c k' a' b' c' k'' a'' b'' c'' (.inr (.inr ⟨h1, h2, h3⟩)) w hv
      · exact orders_short k a b c k' a' b' c' k'' a'' b'' c'' ⟨hk0, hk1⟩ ⟨hk0', hk1'⟩ ⟨hk0'', hk1''⟩ h1 h2 h3 w hv

namespace TermOrdersF
theorem laidOut : laidOutB Tryd.prog = true := by kernel_rfl
set_option maxRecDepth 100000 in
theorem contract (H : Type) (enc : TypeId × Value → H) (W : World) (base : Nat) (args : Array Value) (ds gs : List (DataW H)) (before : List MemPlace)
    (hval : ∀ (j : Nat) t v, Tryd.f3.params[j]? = some t → args[j]? = some v → Value.okWide Tryd.prog W .any base t v)
    (hW : DataW.Whole enc Tryd.prog Tryd.f3.params.toList Rows.termOrdersSpec.vars false W args.toList ds gs before) (hL : laidMetH Tryd.prog Rows.termOrdersRow.laid W) :
    Calls Tryd.prog 3 args W fun e W' => ∃ v, e = .returned v ∧ Rows.termOrdersSpec.post enc Tryd.prog Tryd.f3 false true false false W args v W' := by
  have hW' := hW
  obtain ⟨p, q, hA0, hV, rfl, hfz, hnd⟩ := hW
  have hA : DataW.TrodAll enc Tryd.prog W 0 (fun _ => true) true Tryd.f3.params.toList args.toList ds p := hA0
  rw [Tryd.params3] at hA hval
  obtain ⟨v0, vs0, d0, ds0, p0, q0, hargs, rfl, rfl, h0, r0⟩ := trodAll_cons hA
  obtain ⟨v1, vs1, d1, ds1, p1, q1, rfl, rfl, rfl, h1, r1⟩ := trodAll_cons r0
  obtain ⟨v2, vs2, d2, ds2, p2, q2, rfl, rfl, rfl, h2, r2⟩ := trodAll_cons r1
  obtain ⟨rfl, rfl, rfl⟩ := trodAll_nil r2
  obtain rfl : args = #[v0, v1, v2] := by cases args; simp_all
  obtain ⟨rfl, rfl⟩ := trodVars_none hV
  obtain ⟨a0, b0, c0, e0, y0, u0, s0, z0, n0, rfl, rfl, rfl, t0, m0, k0, l0⟩ := Joins.open_agg4 Tryd.underlying23 (by kernel_rfl) (by kernel_rfl) (hval 0 23 v0 rfl rfl) h0
  obtain ⟨ki0, ea0, _, wa0⟩ := DataW.trod_int Tryd.underlying3 t0
  obtain ⟨sb0, eb0, _, wb0⟩ := DataW.trod_string Tryd.underlying9 m0
  obtain ⟨sc0, ec0, _, wc0⟩ := DataW.trod_string Tryd.underlying9 k0
  obtain ⟨se0, ee0, _, we0⟩ := DataW.trod_string Tryd.underlying9 l0
  obtain rfl : a0 = .int .i64 ki0 := by simpa using ea0
  obtain rfl : b0 = .string sb0 := by simpa using eb0
  obtain rfl : c0 = .string sc0 := by simpa using ec0
  obtain rfl : e0 = .string se0 := by simpa using ee0
  have bd0 := bounds_i64 wa0
  clear ea0 eb0 ec0 ee0
  obtain ⟨a1, b1, c1, e1, y1, u1, s1, z1, n1, rfl, rfl, rfl, t1, m1, k1, l1⟩ := Joins.open_agg4 Tryd.underlying23 (by kernel_rfl) (by kernel_rfl) (hval 1 23 v1 rfl rfl) h1
  obtain ⟨ki1, ea1, _, wa1⟩ := DataW.trod_int Tryd.underlying3 t1
  obtain ⟨sb1, eb1, _, wb1⟩ := DataW.trod_string Tryd.underlying9 m1
  obtain ⟨sc1, ec1, _, wc1⟩ := DataW.trod_string Tryd.underlying9 k1
  obtain ⟨se1, ee1, _, we1⟩ := DataW.trod_string Tryd.underlying9 l1
  obtain rfl : a1 = .int .i64 ki1 := by simpa using ea1
  obtain rfl : b1 = .string sb1 := by simpa using eb1
  obtain rfl : c1 = .string sc1 := by simpa using ec1
  obtain rfl : e1 = .string se1 := by simpa using ee1
  have bd1 := bounds_i64 wa1
  clear ea1 eb1 ec1 ee1
  obtain ⟨a2, b2, c2, e2, y2, u2, s2, z2, n2, rfl, rfl, rfl, t2, m2, k2, l2⟩ := Joins.open_agg4 Tryd.underlying23 (by kernel_rfl) (by kernel_rfl) (hval 2 23 v2 rfl rfl) h2
  obtain ⟨ki2, ea2, _, wa2⟩ := DataW.trod_int Tryd.underlying3 t2
  obtain ⟨sb2, eb2, _, wb2⟩ := DataW.trod_string Tryd.underlying9 m2
  obtain ⟨sc2, ec2, _, wc2⟩ := DataW.trod_string Tryd.underlying9 k2
  obtain ⟨se2, ee2, _, we2⟩ := DataW.trod_string Tryd.underlying9 l2
  obtain rfl : a2 = .int .i64 ki2 := by simpa using ea2
  obtain rfl : b2 = .string sb2 := by simpa using eb2
  obtain rfl : c2 = .string sc2 := by simpa using ec2
  obtain rfl : e2 = .string se2 := by simpa using ee2
  have bd2 := bounds_i64 wa2
  clear ea2 eb2 ec2 ee2
  clear hA0
  simp only [List.append_nil] at hW'
  have hlt0 : ∀ x ∈ y0.2 ++ (u0.2 ++ (s0.2 ++ z0.2)), x.block < W.heap.size := fun x hx => by
    have := hW'.lt x (by first | exact hx | exact List.mem_append_left _ hx | exact List.mem_append_right _ (List.mem_append_left _ hx) | exact List.mem_append_right _ (List.mem_append_right _ hx) | exact List.mem_append_right _ hx | (simp [hx]; done))
    simpa using this
  have hargs0 := fun (W' : World) (hn : Below W.heap.size W W') => Below.trod laidOut (by kernel_rfl) (of_decide_eq_true (by kernel_rfl)) h0 hn hlt0
  have hlt1 : ∀ x ∈ y1.2 ++ (u1.2 ++ (s1.2 ++ z1.2)), x.block < W.heap.size := fun x hx => by
    have := hW'.lt x (by first | exact hx | exact List.mem_append_left _ hx | exact List.mem_append_right _ (List.mem_append_left _ hx) | exact List.mem_append_right _ (List.mem_append_right _ hx) | exact List.mem_append_right _ hx | (simp [hx]; done))
    simpa using this
  have hargs1 := fun (W' : World) (hn : Below W.heap.size W W') => Below.trod laidOut (by kernel_rfl) (of_decide_eq_true (by kernel_rfl)) h1 hn hlt1
  have hlt2 : ∀ x ∈ y2.2 ++ (u2.2 ++ (s2.2 ++ z2.2)), x.block < W.heap.size := fun x hx => by
    have := hW'.lt x (by first | exact hx | exact List.mem_append_left _ hx | exact List.mem_append_right _ (List.mem_append_left _ hx) | exact List.mem_append_right _ (List.mem_append_right _ hx) | exact List.mem_append_right _ hx | (simp [hx]; done))
    simpa using this
  have hargs2 := fun (W' : World) (hn : Below W.heap.size W W') => Below.trod laidOut (by kernel_rfl) (of_decide_eq_true (by kernel_rfl)) h2 hn hlt2
  have hlv := lv_of hL
  refine (orders_walk ki0 bd0.1 bd0.2 sb0 wb0 sc0 wc0 se0 we0 ki1 bd1.1 bd1.2 sb1 wb1 sc1 wc1 se1 we1 ki2 bd2.1 bd2.2 sb2 wb2 sc2 wc2 se2 we2 W hlv).mono fun e W' ⟨he, hb⟩ => ?_
  subst he
  exact ⟨_, rfl, _, _, _, [], _, [], hW', trodAll_mk1 (shut_bool Tryd.underlying4 _), trodAll_cons_mk (hargs0 _ hb) (trodAll_cons_mk (hargs1 _ hb) (trodAll_cons_mk (hargs2 _ hb) (trodAll_mk0))), rfl, hb.frame _, fun h => by cases h⟩

theorem reads (os : Os) {H : Type} (enc : TypeId × Value → H) : ∃ places, DataW.whole enc Tryd.prog ((laidWorld os).forCall (fun _ _ => 0) ⟨#[], #[.agg #[.int .i64 0, .string ⟨#[]⟩, .string ⟨#[]⟩, .string ⟨#[]⟩], .agg #[.int .i64 0, .string ⟨#[]⟩, .string ⟨#[]⟩, .string ⟨#[]⟩], .agg #[.int .i64 0, .string ⟨#[]⟩, .string ⟨#[]⟩, .string ⟨#[]⟩]], []⟩).memory Tryd.f3.params.toList Rows.termOrdersSpec.vars false (#[.agg #[.int .i64 0, .string ⟨#[]⟩, .string ⟨#[]⟩, .string ⟨#[]⟩], .agg #[.int .i64 0, .string ⟨#[]⟩, .string ⟨#[]⟩, .string ⟨#[]⟩], .agg #[.int .i64 0, .string ⟨#[]⟩, .string ⟨#[]⟩, .string ⟨#[]⟩]] : Array Value).toList 8 = some ([.agg [.lit (.int .i64 0), .lit (.string []), .lit (.string []), .lit (.string [])], .agg [.lit (.int .i64 0), .lit (.string []), .lit (.string []), .lit (.string [])], .agg [.lit (.int .i64 0), .lit (.string []), .lit (.string []), .lit (.string [])]], [], places) :=
  ⟨[], by kernel_rfl⟩

set_option maxRecDepth 100000 in
theorem lifted (os : Os) (started : os.Started) (H : Type) (enc : TypeId × Value → H) (F : Stop.Interp) :
    ReturnsInHanded {} Tryd.checked os 3 .any ((OpenSpec.ofChange Rows.termOrdersSpec).preRow enc Tryd.prog Tryd.f3 Rows.termOrdersRow.domain false Rows.termOrdersRow.laid) (((OpenSpec.ofChange Rows.termOrdersSpec).at F).post enc Tryd.prog Tryd.f3 false true false false) := by
  obtain ⟨places, hx⟩ := reads os enc
  refine returnsInHanded_of_row (C := Tryd.checked) (s := OpenSpec.ofChange Rows.termOrdersSpec) own started (by kernel_rfl) Tryd.func3
    (witness_row_at (enc := enc) (C := Tryd.checked) false (laidWorld os) #[.agg #[.int .i64 0, .string ⟨#[]⟩, .string ⟨#[]⟩, .string ⟨#[]⟩], .agg #[.int .i64 0, .string ⟨#[]⟩, .string ⟨#[]⟩, .string ⟨#[]⟩], .agg #[.int .i64 0, .string ⟨#[]⟩, .string ⟨#[]⟩, .string ⟨#[]⟩]] rfl (by kernel_rfl) (by kernel_rfl) (by kernel_rfl)
      (OpenSpec.preRow_of_cond 8 hx (by kernel_rfl) (fun k hk => by cases hk) (by kernel_rfl) (laid_met os _))) ?_
  intro W base args ds gs before hval hW _ _ _ hL _ _
  exact contract H enc W base args ds gs before hval hW hL

theorem said : Rows.TermOrdersSaid :=
  OpenClaim.holds_of_cond 3 Tryd.f3 rfl rfl rfl rfl rfl rfl rfl ⟨rfl, rfl, rfl, rfl, rfl⟩ rfl rfl rfl rfl rfl (by kernel_rfl) Tryd.func3 (by kernel_rfl)
    (of_decide_eq_true (by kernel_rfl)) (by unfold Func.isWrapper; first | (rw [if_pos (by decide +kernel)]; kernel_rfl) | (rw [if_neg (by decide +kernel)]; exact ⟨rfl, rfl⟩))
    (fun os started H enc _ F => by rw [OpenClaim.pre_eq_preRow]; exact lifted os started H enc F)

theorem plain (f : FuncId) (fn : Func) (hf : Tryd.pinned.checked.prog.funcNamed "beck/becklaw03.TermOrders" = some f) (hfn : Tryd.pinned.checked.prog.funcs[f]? = some fn) :
    true = Tryd.pinned.checked.prog.looks [] ∧ ∀ (j : Nat) t, fn.params[j]? = some t → Tryd.pinned.checked.prog.wantsStandIn t = false := by
  obtain rfl : f = 3 := Option.some.inj ((show Tryd.prog.funcNamed "beck/becklaw03.TermOrders" = some 3 by kernel_rfl).symm.trans hf) |>.symm
  obtain rfl : fn = Tryd.f3 := (Option.some.inj (Tryd.func3.symm.trans hfn)).symm
  refine ⟨by kernel_rfl, fun j t ht => ?_⟩
  rw [Tryd.params3] at ht
  have hm : t ∈ [23, 23, 23] := by simpa using Array.mem_of_getElem? ht
  have hall : ([23, 23, 23].all fun u => !Tryd.prog.wantsStandIn u) = true := by kernel_rfl
  exact (show Tryd.prog.wantsStandIn t = false by simpa using List.all_eq_true.1 hall t hm)
end TermOrdersF
theorem termOrders_card : Rows.TermOrdersCardSaid :=
  Claim7.holds_tied_plain_at .later [] _ _ _ _ TermOrdersF.said (fun _ h => by cases h) (by kernel_rfl) (fun _ h => by cases h) termOrders_row_tie rfl ⟨rfl, rfl⟩ (by kernel_rfl) rfl TermOrdersF.plain (by kernel_rfl)
end Go.Proofs.YtbecjlmbalcgeaaDoor
