/-
  TermOnes, WHATEVER THE TERM: whether it is a term, its kind, its integer, its truth, what it is as a truth, are the document's: the law returns true, and its argument reads as before. The listed variables of the standard library start as their text lays them (tied).
-/
import Derived.Test.YtaoelnfflkkeeaaGreatDoorTOnesA
import Derived.Test.YtaoelnfflkkeeaaGreatDoorTOnesB
import Derived.Test.YtaoelnfflkkeeaaGreatDoorTOnesC
import Derived.Test.YtaoelnfflkkeeaaGreatDoorVLaid
import Derived.Test.YtaoelnfflkkeeaaGreatDoorRows
import Derived.Test.YtaoelnfflkkeeaaGreatDoorCards
import Derived.Test.YtaoelnfflkkeeaaGreatDoorTie
import Derived.Lib.SmallJoins
import Derived.ProofKit
import Derived.OpenShut
namespace Go.Proofs.YtaoelnfflkkeeaaGreatDoor
open Go.ChangeShapes Go.WideShapes Go.ChangeAt Go.RowKit
set_option linter.unusedVariables false

theorem iri_of {t : Tm} (h : t.kind = 1) : ∃ s, t = .iri s := by
  cases t with
  | iri s => exact ⟨s, rfl⟩
  | blank s => simp [Tm.kind] at h
  | lit a b c => simp [Tm.kind] at h
  | odd n => simp [Tm.kind] at h
  | none => simp [Tm.kind] at h
theorem iri_code {t : Tm} (h : t.kind = 1) : ¬ (asI t).2 = 0 := by
  obtain ⟨s, rfl⟩ := iri_of h
  have e : (asI (.iri s)).2 = 10 := rfl
  rw [e]; decide
theorem ones_walk (k : Int) (hk0 : -9223372036854775808 ≤ k) (hk1 : k ≤ 9223372036854775807) (a : ByteArray) (_ : a.size ≤ maxLen) (b : ByteArray) (_ : b.size ≤ maxLen) (c : ByteArray) (_ : c.size ≤ maxLen) (w : World) (hv : LV w) :
    Calls Tryz.prog 3 #[F4 k a b c] w fun e w' => e = .returned (.bool true) ∧ Below w.heap.size w w' := by
  cases h : shortB a b c
  · exact ones_long k a b c h w hv
  · by_cases hq : (tmOf k a b c).kind = 1
    · obtain ⟨s, hs⟩ := iri_of hq
      exact ones_iri k ⟨hk0, hk1⟩ a b c h (iri_code hq) s hs w hv
    · by_cases hu : (asI (tmOf k a b c)).2 = 0
      · exact ones_yes k ⟨hk0, hk1⟩ a b c h hu hq w hv
      · exact ones_no k ⟨hk0, hk1⟩ a b c h hu hq w hv

namespace TermOnesF
theorem laidOut : laidOutB Tryz.prog = true := by kernel_rfl
set_option maxRecDepth 100000 in
theorem contract (H : Type) (enc : TypeId × Value → H) (W : World) (base : Nat) (args : Array Value) (ds gs : List (DataW H)) (before : List MemPlace)
    (hval : ∀ (j : Nat) t v, Tryz.f3.params[j]? = some t → args[j]? = some v → Value.okWide Tryz.prog W .any base t v)
    (hW : DataW.Whole enc Tryz.prog Tryz.f3.params.toList Rows.termOnesSpec.vars false W args.toList ds gs before) (hL : laidMetH Tryz.prog Rows.termOnesRow.laid W) :
    Calls Tryz.prog 3 args W fun e W' => ∃ v, e = .returned v ∧ Rows.termOnesSpec.post enc Tryz.prog Tryz.f3 false true false false W args v W' := by
  have hW' := hW
  obtain ⟨p, q, hA0, hV, rfl, hfz, hnd⟩ := hW
  have hA : DataW.TrodAll enc Tryz.prog W 0 (fun _ => true) true Tryz.f3.params.toList args.toList ds p := hA0
  rw [Tryz.params3] at hA hval
  obtain ⟨v0, vs0, d0, ds0, p0, q0, hargs, rfl, rfl, h0, r0⟩ := trodAll_cons hA
  obtain ⟨rfl, rfl, rfl⟩ := trodAll_nil r0
  obtain rfl : args = #[v0] := by cases args; simp_all
  obtain ⟨rfl, rfl⟩ := trodVars_none hV
  obtain ⟨a0, b0, c0, e0, y0, u0, s0, z0, n0, rfl, rfl, rfl, t0, m0, k0, l0⟩ := Joins.open_agg4 Tryz.underlying23 (by kernel_rfl) (by kernel_rfl) (hval 0 23 v0 rfl rfl) h0
  obtain ⟨ki0, ea0, _, wa0⟩ := DataW.trod_int Tryz.underlying3 t0
  obtain ⟨sb0, eb0, _, wb0⟩ := DataW.trod_string Tryz.underlying9 m0
  obtain ⟨sc0, ec0, _, wc0⟩ := DataW.trod_string Tryz.underlying9 k0
  obtain ⟨se0, ee0, _, we0⟩ := DataW.trod_string Tryz.underlying9 l0
  obtain rfl : a0 = .int .i64 ki0 := by simpa using ea0
  obtain rfl : b0 = .string sb0 := by simpa using eb0
  obtain rfl : c0 = .string sc0 := by simpa using ec0
  obtain rfl : e0 = .string se0 := by simpa using ee0
  have bd0 := bounds_i64 wa0
  clear ea0 eb0 ec0 ee0
  clear hA0
  simp only [List.append_nil] at hW'
  have hlt0 : ∀ x ∈ y0.2 ++ (u0.2 ++ (s0.2 ++ z0.2)), x.block < W.heap.size := fun x hx => by
    have := hW'.lt x (by first | exact hx | exact List.mem_append_left _ hx | exact List.mem_append_right _ (List.mem_append_left _ hx) | exact List.mem_append_right _ (List.mem_append_right _ hx) | exact List.mem_append_right _ hx | (simp [hx]; done))
    simpa using this
  have hargs0 := fun (W' : World) (hn : Below W.heap.size W W') => Below.trod laidOut (by kernel_rfl) (of_decide_eq_true (by kernel_rfl)) h0 hn hlt0
  have hlv := lv_of hL
  refine (ones_walk ki0 bd0.1 bd0.2 sb0 wb0 sc0 wc0 se0 we0 W hlv).mono fun e W' ⟨he, hb⟩ => ?_
  subst he
  exact ⟨_, rfl, _, _, _, [], _, [], hW', trodAll_mk1 (shut_bool Tryz.underlying4 _), trodAll_cons_mk (hargs0 _ hb) (trodAll_mk0), rfl, hb.frame _, fun h => by cases h⟩

theorem reads (os : Os) {H : Type} (enc : TypeId × Value → H) : ∃ places, DataW.whole enc Tryz.prog ((laidWorld os).forCall (fun _ _ => 0) ⟨#[], #[.agg #[.int .i64 0, .string ⟨#[]⟩, .string ⟨#[]⟩, .string ⟨#[]⟩]], []⟩).memory Tryz.f3.params.toList Rows.termOnesSpec.vars false (#[.agg #[.int .i64 0, .string ⟨#[]⟩, .string ⟨#[]⟩, .string ⟨#[]⟩]] : Array Value).toList 8 = some ([.agg [.lit (.int .i64 0), .lit (.string []), .lit (.string []), .lit (.string [])]], [], places) :=
  ⟨[], by kernel_rfl⟩

set_option maxRecDepth 100000 in
theorem lifted (os : Os) (started : os.Started) (H : Type) (enc : TypeId × Value → H) (F : Stop.Interp) :
    ReturnsInHanded {} Tryz.checked os 3 .any ((OpenSpec.ofChange Rows.termOnesSpec).preRow enc Tryz.prog Tryz.f3 Rows.termOnesRow.domain false Rows.termOnesRow.laid) (((OpenSpec.ofChange Rows.termOnesSpec).at F).post enc Tryz.prog Tryz.f3 false true false false) := by
  obtain ⟨places, hx⟩ := reads os enc
  refine returnsInHanded_of_row (C := Tryz.checked) (s := OpenSpec.ofChange Rows.termOnesSpec) own started (by kernel_rfl) Tryz.func3
    (witness_row_at (enc := enc) (C := Tryz.checked) false (laidWorld os) #[.agg #[.int .i64 0, .string ⟨#[]⟩, .string ⟨#[]⟩, .string ⟨#[]⟩]] rfl (by kernel_rfl) (by kernel_rfl) (by kernel_rfl)
      (OpenSpec.preRow_of_cond 8 hx (by kernel_rfl) (fun k hk => by cases hk) (by kernel_rfl) (laid_met os _))) ?_
  intro W base args ds gs before hval hW _ _ _ hL _ _
  exact contract H enc W base args ds gs before hval hW hL

theorem said : Rows.TermOnesSaid :=
  OpenClaim.holds_of_cond 3 Tryz.f3 rfl rfl rfl rfl rfl rfl rfl ⟨rfl, rfl, rfl, rfl, rfl⟩ rfl rfl rfl rfl rfl (by kernel_rfl) Tryz.func3 (by kernel_rfl)
    (of_decide_eq_true (by kernel_rfl)) (by unfold Func.isWrapper; first | (rw [if_pos (by decide +kernel)]; kernel_rfl) | (rw [if_neg (by decide +kernel)]; exact ⟨rfl, rfl⟩))
    (fun os started H enc _ F => by rw [OpenClaim.pre_eq_preRow]; exact lifted os started H enc F)

theorem plain (f : FuncId) (fn : Func) (hf : Tryz.pinned.checked.prog.funcNamed "beck/becklaw03.TermOnes" = some f) (hfn : Tryz.pinned.checked.prog.funcs[f]? = some fn) :
    true = Tryz.pinned.checked.prog.looks [] ∧ ∀ (j : Nat) t, fn.params[j]? = some t → Tryz.pinned.checked.prog.wantsStandIn t = false := by
  obtain rfl : f = 3 := Option.some.inj ((show Tryz.prog.funcNamed "beck/becklaw03.TermOnes" = some 3 by kernel_rfl).symm.trans hf) |>.symm
  obtain rfl : fn = Tryz.f3 := (Option.some.inj (Tryz.func3.symm.trans hfn)).symm
  refine ⟨by kernel_rfl, fun j t ht => ?_⟩
  rw [Tryz.params3] at ht
  have hm : t ∈ [23] := by simpa using Array.mem_of_getElem? ht
  have hall : ([23].all fun u => !Tryz.prog.wantsStandIn u) = true := by kernel_rfl
  exact (show Tryz.prog.wantsStandIn t = false by simpa using List.all_eq_true.1 hall t hm)
end TermOnesF
theorem termOnes_card : Rows.TermOnesCardSaid :=
  Claim7.holds_tied_plain_at .later [] _ _ _ _ TermOnesF.said (fun _ h => by cases h) (by kernel_rfl) (fun _ h => by cases h) termOnes_row_tie rfl ⟨rfl, rfl⟩ (by kernel_rfl) rfl TermOnesF.plain (by kernel_rfl)
end Go.Proofs.YtaoelnfflkkeeaaGreatDoor
