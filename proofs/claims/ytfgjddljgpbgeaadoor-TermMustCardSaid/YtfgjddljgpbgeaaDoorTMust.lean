/-
  TermMust, WHATEVER THE TERM: what must be an IRI is one, or panics: the law returns true, and its argument reads as before. The listed variables of the standard library start as their text lays them (tied).
-/
import Derived.Test.YtfgjddljgpbgeaaDoorTMustA
import Derived.Test.YtfgjddljgpbgeaaDoorVLaid
import Derived.Test.YtfgjddljgpbgeaaDoorRows
import Derived.Test.YtfgjddljgpbgeaaDoorCards
import Derived.Test.YtfgjddljgpbgeaaDoorTie
import Derived.Lib.SmallJoins
import Derived.ProofKit
import Derived.OpenShut
namespace Go.Proofs.YtfgjddljgpbgeaaDoor
open Go.ChangeShapes Go.WideShapes Go.ChangeAt Go.RowKit
set_option linter.unusedVariables false

abbrev R4m (k : Int) (a b c : ByteArray) : Array Value := #[.int .i64 k, .string a, .string b, .string c]
/-- The argument's box. -/
def Ax (w : World) (u : Array Value) (W : World) : Prop := Below w.heap.size w W ∧ Fb W w.heap.size 23 u
theorem Ax.below {w : World} {u : Array Value} {W W' : World} (h : Ax w u W) (hb : Below W.heap.size W W') : Ax w u W' := ⟨h.1.trans (hb.mono h.1.size), h.2.below hb⟩
theorem Ax.mk (w : World) (u : Array Value) : Ax w u (w.alloc (.cells u 23)) := ⟨(Below.refl _ _).alloc (Nat.le_refl _) _, Fb.new _ _ _⟩
theorem Ax.all {w : World} {k : Int} {a b c : ByteArray} {W : World} (h : Ax w (R4m k a b c) W) : W.cell? ⟨w.heap.size, 0, none⟩ = some (.int .i64 k) ∧ W.cell? ⟨w.heap.size, 1, none⟩ = some (.string a) ∧ W.cell? ⟨w.heap.size, 2, none⟩ = some (.string b) ∧ W.cell? ⟨w.heap.size, 3, none⟩ = some (.string c) :=
  ⟨h.2.cell 0, h.2.cell 1, h.2.cell 2, h.2.cell 3⟩
theorem ax_of {w : World} {u : Array Value} {W : World} {f : Nat} {args : Array Value} {y : Value} (h : Ax w u W) (c : Calls Tryd.prog f args W fun e w' => e = .returned y ∧ Below W.heap.size W w') :
    Calls Tryd.prog f args W fun e w' => e = .returned y ∧ Ax w u w' := c.mono fun _ _ ⟨a, b⟩ => ⟨a, h.below b⟩
/-- The plain one's box. -/
def Mx (w : World) (g : Nat) (u : Array Value) (W : World) : Prop := Below w.heap.size w W ∧ Fb W g 23 u
theorem Mx.drew {w : World} {g : Nat} {u : Array Value} {W : World} (h : Mx w g u W) : Mx w g u W.drew := ⟨Below.drew h.1, h.2⟩
theorem Mx.below {w : World} {g : Nat} {u : Array Value} {W W' : World} (h : Mx w g u W) (hb : Below W.heap.size W W') : Mx w g u W' := ⟨h.1.trans (hb.mono h.1.size), h.2.below hb⟩
theorem Mx.all {w : World} {g : Nat} {k : Int} {a b c : ByteArray} {W : World} (h : Mx w g (R4m k a b c) W) : W.cell? ⟨g, 0, none⟩ = some (.int .i64 k) ∧ W.cell? ⟨g, 1, none⟩ = some (.string a) ∧ W.cell? ⟨g, 2, none⟩ = some (.string b) ∧ W.cell? ⟨g, 3, none⟩ = some (.string c) ∧ Mx w g (R4m k a b c) W :=
  ⟨h.2.cell 0, h.2.cell 1, h.2.cell 2, h.2.cell 3, h⟩
theorem mx_of {w : World} {g : Nat} {u : Array Value} {W : World} {f : Nat} {args : Array Value} {y : Value} (h : Mx w g u W) (c : Calls Tryd.prog f args W fun e w' => e = .returned y ∧ Below W.heap.size W w') :
    Calls Tryd.prog f args W fun e w' => e = .returned y ∧ Mx w g u w' := c.mono fun _ _ ⟨a, b⟩ => ⟨a, h.below b⟩
theorem panics_any (t : Tm) (w : World) : Calls Tryd.prog 28 #[t.val] w fun e w' => e = .returned (.bool (t.kind != 1)) ∧ Below w.heap.size w w' := by
  by_cases h : t.kind = 1
  · match t, h with
    | .iri s, _ => exact panics_no s w
  · have e : (t.kind != 1) = true := by simpa using h
    rw [e]
    exact panics_yes t h w
set_option maxRecDepth 100000 in
set_option maxHeartbeats 8000000 in
theorem must_walk (k : Int) (hk0 : -9223372036854775808 ≤ k) (hk1 : k ≤ 9223372036854775807) (a : ByteArray) (_ : a.size ≤ maxLen) (b : ByteArray) (_ : b.size ≤ maxLen) (c : ByteArray) (_ : c.size ≤ maxLen) (w : World) (hv : LV w) :
    Calls Tryd.prog 5 #[F4 k a b c] w fun e w' => e = .returned (.bool true) ∧ Below w.heap.size w w' := by
  have hS := Ax.mk w (R4m k a b c)
  have cA : ∀ {W : World}, Ax w (R4m k a b c) W → Calls Tryd.prog 10 #[] W fun e w' => e = .returned (.bool true) ∧ Ax w (R4m k a b c) w' := fun {W} h => ax_of h (awake_ok W (hv.below h.1))
  have s1 : ∀ {W : World}, Ax w (R4m k a b c) W → Calls Tryd.prog 11 #[F4 k a b c] W fun e w' => e = .returned (.bool (shortB a b c)) ∧ Ax w (R4m k a b c) w' := fun {W} h => ax_of h (short_any k a b c W)
  have pl : ∀ {W : World}, Ax w (R4m k a b c) W → Calls Tryd.prog 12 #[F4 k a b c] W fun e w' => e = .returned (T4 (tmOf k a b c)) ∧ Ax w (R4m k a b c) w' := fun {W} h => ax_of h (plainT_any k ⟨hk0, hk1⟩ a b c W)
  have rl := realT_any k a b c
  have pn := panics_any (tmOf k a b c)
  have pq : ∀ W, Calls Tryd.prog 28 #[.nilIface] W fun e w' => e = .returned (.bool true) ∧ Below W.heap.size W w' := fun W => panics_any .none W
  obtain ⟨t, ht⟩ : ∃ t, t = tmOf k a b c := ⟨_, rfl⟩
  rw [← ht] at pl rl pn
  obtain ⟨v, hvv⟩ : ∃ v, v = t.val := ⟨_, rfl⟩
  rw [← hvv] at rl pn
  obtain ⟨kd, hkd⟩ : ∃ v, v = t.kind := ⟨_, rfl⟩
  obtain ⟨ta, hta⟩ : ∃ v, v = t.ta := ⟨_, rfl⟩
  obtain ⟨tb, htb⟩ : ∃ v, v = t.tb := ⟨_, rfl⟩
  obtain ⟨tc, htc⟩ : ∃ v, v = t.tc := ⟨_, rfl⟩
  rw [show T4 t = F4 kd ta tb tc by rw [hkd, hta, htb, htc]] at pl rl
  rw [← hkd] at pn
  have rlm : ∀ {g : Nat} {W : World}, Mx w g (R4m kd ta tb tc) W → Calls Tryd.prog 13 #[F4 kd ta tb tc] W fun e w' => e = .returned v ∧ Mx w g (R4m kd ta tb tc) w' := fun {g W} h => mx_of h (rl W)
  have pnm : ∀ {g : Nat} {W : World}, Mx w g (R4m kd ta tb tc) W → Calls Tryd.prog 28 #[v] W fun e w' => e = .returned (.bool (kd != 1)) ∧ Mx w g (R4m kd ta tb tc) w' := fun {g W} h => mx_of h (pn W)
  have pqm : ∀ {g : Nat} {W : World}, Mx w g (R4m kd ta tb tc) W → Calls Tryd.prog 28 #[.nilIface] W fun e w' => e = .returned (.bool true) ∧ Mx w g (R4m kd ta tb tc) w' := fun {g W} h => mx_of h (pq W)
  clear rl pn pq ht hvv hkd hta htb htc hv
  cases hs : shortB a b c
  · rw [hs] at s1
    clear hs hk0 hk1 pl rlm pnm pqm
    go_enter Tryd.func5, Tryd.ntmps5
    go_wp2_with (first
      | (go_at_call 10; (with_reducible refine (cA hS).mono ?_); rintro e w1 ⟨rfl, hS1⟩; obtain ⟨p0, p1, p2, p3⟩ := Ax.all hS1; clear hS; have hS := hS1; clear hS1)
      | (go_at_call 11; (with_reducible refine (s1 hS).mono ?_); rintro e w2 ⟨rfl, hS2⟩; clear hS; have hS := hS2; clear hS2))
    go_ret
    exact ⟨rfl, hS.1⟩
  · rw [hs] at s1
    clear hs hk0 hk1
    go_enter Tryd.func5, Tryd.ntmps5
    go_wp2_with (first
      | (go_at_call 10; (with_reducible refine (cA hS).mono ?_); rintro e w1 ⟨rfl, hS1⟩; obtain ⟨p0, p1, p2, p3⟩ := Ax.all hS1; clear hS; have hS := hS1; clear hS1)
      | (go_at_call 11; (with_reducible refine (s1 hS).mono ?_); rintro e w2 ⟨rfl, hS2⟩; obtain ⟨p0, p1, p2, p3⟩ := Ax.all hS2; clear hS; have hS := hS2; clear hS2)
      | (go_at_call 12; (with_reducible refine (pl hS).mono ?_); rintro e w3 ⟨rfl, hS3⟩))
    have hM : Mx w w3.heap.size (R4m kd ta tb tc) (w3.alloc (.cells (R4m kd ta tb tc) 23)) := ⟨hS3.1.alloc hS3.1.size _, Fb.new _ _ _⟩
    clear hS hS3
    first
      | (go_region_held3 (fun W => W.cell? ⟨w3.heap.size, 0, none⟩ = some (.int .i64 kd) ∧ W.cell? ⟨w3.heap.size, 1, none⟩ = some (.string ta) ∧ W.cell? ⟨w3.heap.size, 2, none⟩ = some (.string tb) ∧ W.cell? ⟨w3.heap.size, 3, none⟩ = some (.string tc) ∧ Mx w w3.heap.size (R4m kd ta tb tc) W)
          (first | exact Mx.all (by assumption) | exact Mx.all (Mx.drew (by assumption)))
          (first
            | (go_at_call 13; (with_reducible refine (rlm (by first | assumption | exact Mx.drew (by assumption))).mono ?_); rintro e w5 ⟨rfl, hS5⟩)
            | (go_at_call 28; (with_reducible refine (pnm (by first | assumption | exact Mx.drew (by assumption))).mono ?_); rintro e w5 ⟨rfl, hS5⟩)
            | (go_at_call 28; (with_reducible refine (pqm (by first | assumption | exact Mx.drew (by assumption))).mono ?_); rintro e w5 ⟨rfl, hS5⟩)))
      | fail
    have HB := Lib.hid hS5.1
    clear hS5 hM
    go_wp2
    go_ret
    exact ⟨rfl, HB.out⟩

namespace TermMustF
theorem laidOut : laidOutB Tryd.prog = true := by kernel_rfl
set_option maxRecDepth 100000 in
theorem contract (H : Type) (enc : TypeId × Value → H) (W : World) (base : Nat) (args : Array Value) (ds gs : List (DataW H)) (before : List MemPlace)
    (hval : ∀ (j : Nat) t v, Tryd.f5.params[j]? = some t → args[j]? = some v → Value.okWide Tryd.prog W .any base t v)
    (hW : DataW.Whole enc Tryd.prog Tryd.f5.params.toList Rows.termMustSpec.vars false W args.toList ds gs before) (hL : laidMetH Tryd.prog Rows.termMustRow.laid W) :
    Calls Tryd.prog 5 args W fun e W' => ∃ v, e = .returned v ∧ Rows.termMustSpec.post enc Tryd.prog Tryd.f5 false true false false W args v W' := by
  have hW' := hW
  obtain ⟨p, q, hA0, hV, rfl, hfz, hnd⟩ := hW
  have hA : DataW.TrodAll enc Tryd.prog W 0 (fun _ => true) true Tryd.f5.params.toList args.toList ds p := hA0
  rw [Tryd.params5] at hA hval
  obtain ⟨v0, vs0, d0, ds0, p0, q0, hargs, rfl, rfl, h0, r0⟩ := trodAll_cons hA
  obtain ⟨rfl, rfl, rfl⟩ := trodAll_nil r0
  obtain rfl : args = #[v0] := by cases args; simp_all
  obtain ⟨rfl, rfl⟩ := trodVars_none hV
  obtain ⟨a0, b0, c0, e0, y0, u0, s0, z0, n0, rfl, rfl, rfl, t0, m0, k0, l0⟩ := Joins.open_agg4 Tryd.underlying23 (by kernel_rfl) (by kernel_rfl) (hval 0 23 v0 rfl rfl) h0
  obtain ⟨ki0, ea0, _, wa0⟩ := DataW.trod_int Tryd.underlying3 t0
  obtain ⟨sb0, eb0, _, wb0⟩ := DataW.trod_string Tryd.underlying9 m0
  obtain ⟨sc0, ec0, _, wc0⟩ := DataW.trod_string Tryd.underlying9 k0
  obtain ⟨se0, ee0, _, we0⟩ := DataW.trod_string Tryd.underlying9 l0
  obtain rfl : a0 = .int .i64 ki0 := by simpa using ea0
  obtain rfl : b0 = .string sb0 := by simpa using eb0
  obtain rfl : c0 = .string sc0 := by simpa using ec0
  obtain rfl : e0 = .string se0 := by simpa using ee0
  have bd0 := bounds_i64 wa0
  clear ea0 eb0 ec0 ee0
  clear hA0
  simp only [List.append_nil] at hW'
  have hlt0 : ∀ x ∈ y0.2 ++ (u0.2 ++ (s0.2 ++ z0.2)), x.block < W.heap.size := fun x hx => by
    have := hW'.lt x (by first | exact hx | exact List.mem_append_left _ hx | exact List.mem_append_right _ (List.mem_append_left _ hx) | exact List.mem_append_right _ (List.mem_append_right _ hx) | exact List.mem_append_right _ hx | (simp [hx]; done))
    simpa using this
  have hargs0 := fun (W' : World) (hn : Below W.heap.size W W') => Below.trod laidOut (by kernel_rfl) (of_decide_eq_true (by kernel_rfl)) h0 hn hlt0
  have hlv := lv_of hL
  refine (must_walk ki0 bd0.1 bd0.2 sb0 wb0 sc0 wc0 se0 we0 W hlv).mono fun e W' ⟨he, hb⟩ => ?_
  subst he
  exact ⟨_, rfl, _, _, _, [], _, [], hW', trodAll_mk1 (shut_bool Tryd.underlying4 _), trodAll_cons_mk (hargs0 _ hb) (trodAll_mk0), rfl, hb.frame _, fun h => by cases h⟩

theorem reads (os : Os) {H : Type} (enc : TypeId × Value → H) : ∃ places, DataW.whole enc Tryd.prog ((laidWorld os).forCall (fun _ _ => 0) ⟨#[], #[.agg #[.int .i64 0, .string ⟨#[]⟩, .string ⟨#[]⟩, .string ⟨#[]⟩]], []⟩).memory Tryd.f5.params.toList Rows.termMustSpec.vars false (#[.agg #[.int .i64 0, .string ⟨#[]⟩, .string ⟨#[]⟩, .string ⟨#[]⟩]] : Array Value).toList 8 = some ([.agg [.lit (.int .i64 0), .lit (.string []), .lit (.string []), .lit (.string [])]], [], places) :=
  ⟨[], by kernel_rfl⟩

set_option maxRecDepth 100000 in
theorem lifted (os : Os) (started : os.Started) (H : Type) (enc : TypeId × Value → H) (F : Stop.Interp) :
    ReturnsInHanded {} Tryd.checked os 5 .any ((OpenSpec.ofChange Rows.termMustSpec).preRow enc Tryd.prog Tryd.f5 Rows.termMustRow.domain false Rows.termMustRow.laid) (((OpenSpec.ofChange Rows.termMustSpec).at F).post enc Tryd.prog Tryd.f5 false true false false) := by
  obtain ⟨places, hx⟩ := reads os enc
  refine returnsInHanded_of_row (C := Tryd.checked) (s := OpenSpec.ofChange Rows.termMustSpec) own started (by kernel_rfl) Tryd.func5
    (witness_row_at (enc := enc) (C := Tryd.checked) false (laidWorld os) #[.agg #[.int .i64 0, .string ⟨#[]⟩, .string ⟨#[]⟩, .string ⟨#[]⟩]] rfl (by kernel_rfl) (by kernel_rfl) (by kernel_rfl)
      (OpenSpec.preRow_of_cond 8 hx (by kernel_rfl) (fun k hk => by cases hk) (by kernel_rfl) (laid_met os _))) ?_
  intro W base args ds gs before hval hW _ _ _ hL _ _
  exact contract H enc W base args ds gs before hval hW hL

theorem said : Rows.TermMustSaid :=
  OpenClaim.holds_of_cond 5 Tryd.f5 rfl rfl rfl rfl rfl rfl rfl ⟨rfl, rfl, rfl, rfl, rfl⟩ rfl rfl rfl rfl rfl (by kernel_rfl) Tryd.func5 (by kernel_rfl)
    (of_decide_eq_true (by kernel_rfl)) (by unfold Func.isWrapper; first | (rw [if_pos (by decide +kernel)]; kernel_rfl) | (rw [if_neg (by decide +kernel)]; exact ⟨rfl, rfl⟩))
    (fun os started H enc _ F => by rw [OpenClaim.pre_eq_preRow]; exact lifted os started H enc F)

theorem plain (f : FuncId) (fn : Func) (hf : Tryd.pinned.checked.prog.funcNamed "beck/becklaw03.TermMust" = some f) (hfn : Tryd.pinned.checked.prog.funcs[f]? = some fn) :
    true = Tryd.pinned.checked.prog.looks [] ∧ ∀ (j : Nat) t, fn.params[j]? = some t → Tryd.pinned.checked.prog.wantsStandIn t = false := by
  obtain rfl : f = 5 := Option.some.inj ((show Tryd.prog.funcNamed "beck/becklaw03.TermMust" = some 5 by kernel_rfl).symm.trans hf) |>.symm
  obtain rfl : fn = Tryd.f5 := (Option.some.inj (Tryd.func5.symm.trans hfn)).symm
  refine ⟨by kernel_rfl, fun j t ht => ?_⟩
  rw [Tryd.params5] at ht
  have hm : t ∈ [23] := by simpa using Array.mem_of_getElem? ht
  have hall : ([23].all fun u => !Tryd.prog.wantsStandIn u) = true := by kernel_rfl
  exact (show Tryd.prog.wantsStandIn t = false by simpa using List.all_eq_true.1 hall t hm)
end TermMustF
theorem termMust_card : Rows.TermMustCardSaid :=
  Claim7.holds_tied_plain_at .later [] _ _ _ _ TermMustF.said (fun _ h => by cases h) (by kernel_rfl) (fun _ h => by cases h) termMust_row_tie rfl ⟨rfl, rfl⟩ (by kernel_rfl) rfl TermMustF.plain (by kernel_rfl)
end Go.Proofs.YtfgjddljgpbgeaaDoor
