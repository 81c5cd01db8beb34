/-
  ScanPieces, FOR ANY TWO BYTE STRINGS: two texts, quoted as one, stand in the quotation marks as each of them does, one behind the other: the law returns true, and its arguments read as before. The table 'escapes' starts as the program's text lays it (tied).
-/
import Derived.Test.YtomgiicepjakcaaDoorKit
import Derived.Test.YtomgiicepjakcaaDoorCards
import Derived.Test.YtomgiicepjakcaaDoorTie
import Derived.Deep.RegionHeld3
import Derived.BigQuiet
namespace Go.Proofs.YtomgiicepjakcaaDoor
open Go.ChangeShapes Go.WideShapes Go.ChangeAt Go.RowKit

set_option maxHeartbeats 4000000 in
set_option maxRecDepth 100000 in
theorem pieces_walk (a : ByteArray) (_ha : a.size ≤ maxLen) (b : ByteArray) (_hb : b.size ≤ maxLen) (w : World) (t : TypeId) (fr : Nat × Nat) (htab : w.heap[0]? = some (.cells escCells t fr)) :
    Calls Tryd.prog 9 #[.string a, .string b] w fun e w' => e = .returned (.bool true) ∧ Below w.heap.size w w' := by
  have cA := ever_awake htab
  have hb0 : Below w.heap.size w w := Below.refl _ _
  by_cases hlen : 300 < a.size ∨ 300 < b.size
  · clear htab
    go_enter Tryd.func9, Tryd.ntmps9
    go_wp2_with (go_at_call 13; (with_reducible refine (cA.at (by assumption)).mono ?_); rintro e w1 ⟨rfl, hb1⟩)
    all_goals (first | (go_ret; exact ⟨rfl, by assumption⟩) | (exfalso; omega))
  · have h1 : a.size ≤ 300 := by omega
    have h2 : b.size ≤ 300 := by omega
    clear hlen
    obtain ⟨la, ra, hpa⟩ := parts_of a.data.toList
    obtain ⟨lb, rb, hpb⟩ := parts_of b.data.toList
    have sA : ∀ W, Calls Tryd.prog 14 #[.string a] W (SignsPost W la (decide (ra = []))) := fun W => signs_any a la ra hpa (by omega) W
    have sB : ∀ W, Calls Tryd.prog 14 #[.string b] W (SignsPost W lb (decide (rb = []))) := fun W => signs_any b lb rb hpb (by omega) W
    by_cases hr : ra = [] ∧ rb = []
    · obtain ⟨rfl, rfl⟩ := hr
      have hab := hpa.join hpb
      have hsz : (a ++ b).size ≤ 600 := by rw [ByteArray.size_append]; omega
      have hl1 : la.length ≤ 300 := by have := hpa.size; have := encL_len la; omega
      have hl2 : lb.length ≤ 300 := by have := hpb.size; have := encL_len lb; omega
      have cQ := ever_quote htab hab (by omega)
      have cQa := ever_quote htab hpa (by omega)
      have cQb := ever_quote htab hpb (by omega)
      rw [quo_join] at cQ
      have p1 := quoteL_len la
      have p2 := quoteL_len lb
      rw [← quo_size] at p1 p2
      obtain ⟨p, hp⟩ : ∃ p, p = quo la := ⟨_, rfl⟩
      obtain ⟨q, hq⟩ : ∃ q, q = quo lb := ⟨_, rfl⟩
      rw [← hp, ← hq] at cQ
      rw [← hp] at p1 cQa
      rw [← hq] at p2 cQb
      obtain ⟨p1a, p1b⟩ := p1
      obtain ⟨q1a, q1b⟩ := p2
      have g1 : decide ((1 : Int) < (p.size : Int)) = true := decide_eq_true (by omega)
      have g2 : decide ((1 : Int) < (q.size : Int)) = true := decide_eq_true (by omega)
      have k1 : IntKind.i64.wrap ((p.size : Int) - 1) = (p.size : Int) - 1 := IntWalk.i64_in _ (by omega)
      have k2 : (0 : Int) ≤ (p.size : Int) - 1 := by omega
      have k3 : (p.size : Int) - 1 ≤ (p.size : Int) := by omega
      have k4 : ((p.size : Int) - 1).toNat = p.size - 1 := by omega
      have k2' : (1 : Int) ≤ (p.size : Int) := by omega
      have k5 : (1 : Int) ≤ (q.size : Int) := by omega
      have k6 : ∀ W, (Op.stringOp .add a b).run Tryd.prog W = .ok (.string (a ++ b)) W := fun W => run_string_add_sum W a b (by omega)
      have k7 : ∀ W, (Op.stringOp .add (p.extract 0 (p.size - 1)) (q.extract 1 q.size)).run Tryd.prog W = .ok (.string (p.extract 0 (p.size - 1) ++ q.extract 1 q.size)) W := fun W => run_string_add_sum W _ _ (by rw [ByteArray.size_extract, ByteArray.size_extract]; omega)
      have g3 : (1 : Int) < (p.size : Int) := by omega
      have g4 : (1 : Int) < (q.size : Int) := by omega
      clear hp hq hab hsz hpa hpb htab
      go_enter Tryd.func9, Tryd.ntmps9
      go_wp2_with (first
        | (go_at_call 13; (with_reducible refine (cA.at (by assumption)).mono ?_); rintro e w1 ⟨rfl, hb1⟩)
        | (go_at_call 14; (with_reducible refine (sA _).mono ?_); rintro e w2 ⟨v2, rfl, hI2, hb2⟩; have hb3 := hb1.trans (hb2.mono hb1.size); clear hI2 hb2)
        | (go_at_call 14; (with_reducible refine (sB _).mono ?_); rintro e w4 ⟨v4, rfl, hI4, hb4⟩; have hb5 := hb3.trans (hb4.mono hb3.size); clear hI4 hb4)
        | (go_at_call 26; (with_reducible refine (cQa.at (by assumption)).mono ?_); rintro e w6 ⟨rfl, hb6⟩)
        | (go_at_call 26; (with_reducible refine (cQb.at (by assumption)).mono ?_); rintro e w7 ⟨rfl, hb7⟩)
        | (go_at_call 26; (with_reducible refine (cQ.at (by assumption)).mono ?_); rintro e w8 ⟨rfl, hb8⟩))
      clear hb0
      go_region_held3 (fun w' => Below w.heap.size w w') (first | assumption | exact Below.drew (by assumption)) (first | (go_at_call 26; (with_reducible refine (cQ.at (by assumption)).mono ?_); rintro e w8 ⟨rfl, hb8⟩))
      all_goals (go_wp2; first | (go_ret; exact ⟨ret_bool (by first | rfl | (simp)), by first | assumption | exact Below.drew (by assumption)⟩) | go_ways)
    · by_cases hra : ra = []
      · have hrb : ¬ rb = [] := fun h => hr ⟨hra, h⟩
        rw [decide_eq_true hra] at sA
        rw [decide_eq_false hrb] at sB
        clear hr hra hrb hpa hpb htab
        go_enter Tryd.func9, Tryd.ntmps9
        go_wp2_with (first
          | (go_at_call 13; (with_reducible refine (cA.at (by assumption)).mono ?_); rintro e w1 ⟨rfl, hb1⟩)
          | (go_at_call 14; (with_reducible refine (sA _).mono ?_); rintro e w2 ⟨v2, rfl, hI2, hb2⟩; have hb3 := hb1.trans (hb2.mono hb1.size); clear hI2 hb2)
          | (go_at_call 14; (with_reducible refine (sB _).mono ?_); rintro e w4 ⟨v4, rfl, hI4, hb4⟩; have hb5 := hb3.trans (hb4.mono hb3.size); clear hI4 hb4))
        all_goals (go_ret; exact ⟨rfl, by assumption⟩)
      · rw [decide_eq_false hra] at sA
        cases hd : decide (rb = []) <;> rw [hd] at sB
        all_goals
          clear hr hra hd hpa hpb htab
          go_enter Tryd.func9, Tryd.ntmps9
          go_wp2_with (first
            | (go_at_call 13; (with_reducible refine (cA.at (by assumption)).mono ?_); rintro e w1 ⟨rfl, hb1⟩)
            | (go_at_call 14; (with_reducible refine (sA _).mono ?_); rintro e w2 ⟨v2, rfl, hI2, hb2⟩; have hb3 := hb1.trans (hb2.mono hb1.size); clear hI2 hb2)
            | (go_at_call 14; (with_reducible refine (sB _).mono ?_); rintro e w4 ⟨v4, rfl, hI4, hb4⟩; have hb5 := hb3.trans (hb4.mono hb3.size); clear hI4 hb4))
          all_goals (go_ret; exact ⟨rfl, by assumption⟩)

namespace ScanPiecesF
theorem contract (H : Type) (enc : TypeId × Value → H) (W : World) (base : Nat) (args : Array Value) (ds gs : List (DataW H)) (before : List MemPlace)
    (hval : ∀ (j : Nat) t v, Tryd.f9.params[j]? = some t → args[j]? = some v → Value.okWide Tryd.prog W .any base t v)
    (hW : DataW.Whole enc Tryd.prog Tryd.f9.params.toList Rows.scanPiecesSpec.vars false W args.toList ds gs before) (hL : laidMetH Tryd.prog Rows.scanPiecesRow.laid W) :
    Calls Tryd.prog 9 args W fun e W' => ∃ v, e = .returned v ∧ Rows.scanPiecesSpec.post enc Tryd.prog Tryd.f9 false true false false W args v W' := by
  have hW' := hW
  obtain ⟨p, q, hA0, hV, rfl, hfz, hnd⟩ := hW
  have hA : DataW.TrodAll enc Tryd.prog W 0 (fun _ => true) true Tryd.f9.params.toList args.toList ds p := hA0
  rw [Tryd.params9] at hA hval
  obtain ⟨v0, vs0, d0, ds0, p0, q0, hargs, rfl, rfl, h0, r0⟩ := trodAll_cons hA
  obtain ⟨v1, vs1, d1, ds1, p1, q1, rfl, rfl, rfl, h1, r1⟩ := trodAll_cons r0
  obtain ⟨rfl, rfl, rfl⟩ := trodAll_nil r1
  obtain rfl : args = #[v0, v1] := by cases args; simp_all
  obtain ⟨rfl, rfl⟩ := trodVars_none hV
  obtain ⟨x0, rfl, rfl, rfl, w0⟩ := Go.ChangeMaps.open_string Tryd.underlying9 (hval 0 9 v0 rfl rfl) h0
  obtain ⟨x1, rfl, rfl, rfl, w1⟩ := Go.ChangeMaps.open_string Tryd.underlying9 (hval 1 9 v1 rfl rfl) h1
  clear hA0
  simp only [List.append_nil] at hW'
  obtain ⟨t, fr, htab⟩ := table hL
  refine (pieces_walk x0 w0 x1 w1 W t fr htab).mono fun e W' ⟨he, hb⟩ => ?_
  subst he
  exact ⟨_, rfl, _, _, _, [], [], [], hW', trodAll_mk1 (shut_bool Tryd.underlying4 _), trodAll_cons_mk (Go.ChangeMaps.shut_string Tryd.underlying9 w0) (trodAll_cons_mk (Go.ChangeMaps.shut_string Tryd.underlying9 w1) (trodAll_mk0)), rfl, hb.frame _, fun h => by cases h⟩

noncomputable def laidWorld (os : Os) : World :=
  { World.holding Tryd.prog os ⟨#[], #[], []⟩ with heap := (World.holding Tryd.prog os ⟨#[], #[], []⟩).heap.modify 0 fun
      | .cells _ t frozen => .cells escCells t frozen
      | o => o }
theorem laid_met (os : Os) : laidMet Tryd.prog Rows.scanPiecesRow.laid ((laidWorld os).forCall (fun _ _ => 0) ⟨#[], #[.string ⟨#[]⟩, .string ⟨#[]⟩], []⟩).memory :=
  laidMet_of_run' 8 (by kernel_rfl) (by kernel_rfl)
theorem reads (os : Os) {H : Type} (enc : TypeId × Value → H) : ∃ places, DataW.whole enc Tryd.prog ((laidWorld os).forCall (fun _ _ => 0) ⟨#[], #[.string ⟨#[]⟩, .string ⟨#[]⟩], []⟩).memory Tryd.f9.params.toList Rows.scanPiecesSpec.vars false (#[.string ⟨#[]⟩, .string ⟨#[]⟩] : Array Value).toList 8 = some ([.lit (.string []), .lit (.string [])], [], places) :=
  ⟨[], by kernel_rfl⟩

set_option maxRecDepth 100000 in
theorem lifted (os : Os) (started : os.Started) (H : Type) (enc : TypeId × Value → H) (F : Stop.Interp) :
    ReturnsInHanded {} Tryd.checked os 9 .any ((OpenSpec.ofChange Rows.scanPiecesSpec).preRow enc Tryd.prog Tryd.f9 Rows.scanPiecesRow.domain false Rows.scanPiecesRow.laid) (((OpenSpec.ofChange Rows.scanPiecesSpec).at F).post enc Tryd.prog Tryd.f9 false true false false) := by
  obtain ⟨places, hx⟩ := reads os enc
  refine returnsInHanded_of_row (C := Tryd.checked) (s := OpenSpec.ofChange Rows.scanPiecesSpec) own started (by kernel_rfl) Tryd.func9
    (witness_row_at (enc := enc) (C := Tryd.checked) false (laidWorld os) #[.string ⟨#[]⟩, .string ⟨#[]⟩] rfl (by kernel_rfl) (by kernel_rfl) (by kernel_rfl)
      (OpenSpec.preRow_of_cond 8 hx (by kernel_rfl) (fun k hk => by cases hk) (by kernel_rfl) (laid_met os))) ?_
  intro W base args ds gs before hval hW _ _ _ hL _ _
  exact contract H enc W base args ds gs before hval hW hL

theorem said : Rows.ScanPiecesSaid :=
  OpenClaim.holds_of_cond 9 Tryd.f9 rfl rfl rfl rfl rfl rfl rfl ⟨rfl, rfl, rfl, rfl, rfl⟩ rfl rfl rfl rfl rfl (by kernel_rfl) Tryd.func9 (by kernel_rfl)
    (of_decide_eq_true (by kernel_rfl)) (by unfold Func.isWrapper; first | (rw [if_pos (by decide +kernel)]; kernel_rfl) | (rw [if_neg (by decide +kernel)]; exact ⟨rfl, rfl⟩))
    (fun os started H enc _ F => by rw [OpenClaim.pre_eq_preRow]; exact lifted os started H enc F)

theorem plain (f : FuncId) (fn : Func) (hf : Tryd.pinned.checked.prog.funcNamed "beck/becklaw01.ScanPieces" = some f) (hfn : Tryd.pinned.checked.prog.funcs[f]? = some fn) :
    false = Tryd.pinned.checked.prog.looks [] ∧ ∀ (j : Nat) t, fn.params[j]? = some t → Tryd.pinned.checked.prog.wantsStandIn t = false := by
  obtain rfl : f = 9 := Option.some.inj ((show Tryd.prog.funcNamed "beck/becklaw01.ScanPieces" = some 9 by kernel_rfl).symm.trans hf) |>.symm
  obtain rfl : fn = Tryd.f9 := (Option.some.inj (Tryd.func9.symm.trans hfn)).symm
  refine ⟨by kernel_rfl, fun j t ht => ?_⟩
  rw [Tryd.params9] at ht
  have hm : t ∈ [9, 9] := by simpa using Array.mem_of_getElem? ht
  have hall : ([9, 9].all fun u => !Tryd.prog.wantsStandIn u) = true := by kernel_rfl
  exact (show Tryd.prog.wantsStandIn t = false by simpa using List.all_eq_true.1 hall t hm)
end ScanPiecesF
theorem scanPieces_card : Rows.ScanPiecesCardSaid :=
  Claim7.holds_tied_plain_at .later [] _ _ _ _ ScanPiecesF.said (fun _ h => by cases h) (by kernel_rfl) (fun _ h => by cases h) scanPieces_row_tie rfl ⟨rfl, rfl⟩ (by kernel_rfl) rfl ScanPiecesF.plain (by kernel_rfl)

end Go.Proofs.YtomgiicepjakcaaDoor
