/-
  ScanUntils, FOR ANY BYTE STRING AND ANY SIGN: a text, gone through up to each sign of one kind, comes in pieces that make it up with those signs: the law returns true, and its arguments read as before. The table 'escapes' starts as the program's text lays it (tied).
-/
import Derived.Test.YtomgiicepjakcaaDoorUntilA
import Derived.Test.YtomgiicepjakcaaDoorCards
import Derived.Test.YtomgiicepjakcaaDoorTie
namespace Go.Proofs.YtomgiicepjakcaaDoor
open Go.ChangeShapes Go.WideShapes Go.ChangeAt Go.RowKit
set_option linter.unusedVariables false

theorem textOf_append (a b : List Int) : textOf a ++ textOf b = textOf (a ++ b) := by
  apply bytes_ext
  rw [show (textOf a ++ textOf b).data.toList = (textOf a).data.toList ++ (textOf b).data.toList by simp, textOf_list, textOf_list, textOf_list, encL_append]
theorem textOf_size (l : List Int) : (textOf l).size ≤ 4 * l.length := by
  rw [Lib.size_eq, textOf_list]; exact (encL_len l).2
theorem add_text (a b : List Int) (ha : a.length ≤ 1000) (hb : b.length ≤ 1000) (W : World) : (Op.stringOp .add (textOf a) (textOf b)).run Tryd.prog W = .ok (.string (textOf (a ++ b))) W := by
  rw [run_string_add_sum W _ _ (by have := textOf_size a; have := textOf_size b; omega), textOf_append]
def UI (w : World) (b : Nat) (v vI : Value) (sl : List Int) (g : Nat) (s10 s11 : Value) (wr : World) : Prop :=
  ∃ (k i : Nat), k + g = sl.length ∧ i ≤ k ∧ s10 = .string (textOf (sl.take k)) ∧ s11 = .int .i64 i ∧ TS w b v vI sl k wr
theorem ts_one {w : World} {b : Nat} {v vI : Value} {sl : List Int} {k : Nat} (x : Int) (hx : sgn x = true) (W : World) (h : TS w b v vI sl k W) :
    Calls Tryd.prog 31 #[.slice (some ⟨W.heap.size, 0, none⟩) 1 1] (W.alloc (.cells #[.int .i64 x] 3)) fun e w' => e = .returned (.string (textOf [x])) ∧ TS w b v vI sl k w' := by
  have hA : (W.alloc (.cells #[.int .i64 x] 3)).heap[W.heap.size]? = some (.cells #[.int .i64 x] 3 (0, 0)) := heap_alloc_new _ _
  refine (text_any [x] (fun n hn => by simp at hn; subst hn; exact hx) (by simp) (some ⟨W.heap.size, 0, none⟩) W.heap.size 0 1 _ (fun _ => ⟨rfl, (Array.getElem?_eq_some_iff.1 hA).1⟩) ?_).mono fun e w' ⟨a, b⟩ => ⟨a, (h.alloc _).below b⟩
  intro j n hn
  match j, hn with
  | 0, hn => simp at hn; subst hn; rw [Lib.cell_of_heap hA]; rfl

set_option maxHeartbeats 8000000 in
set_option maxRecDepth 100000 in
theorem untils_walk (s : ByteArray) (_hs : s.size ≤ maxLen) (x : Int) (x0 : -2147483648 ≤ x) (x1 : x ≤ 2147483647) (w : World) (t : TypeId) (fr : Nat × Nat) (htab : w.heap[0]? = some (.cells escCells t fr)) :
    Calls Tryd.prog 11 #[.string s, .int .i32 x] w fun e w' => e = .returned (.bool true) ∧ Below w.heap.size w w' := by
  have cA := ever_awake htab
  clear htab
  have hb0 : Below w.heap.size w w := Below.refl _ _
  by_cases hlen : 300 < s.size
  · go_enter Tryd.func11, Tryd.ntmps11
    go_wp2_with (go_at_call 13; (with_reducible refine (cA.at (by assumption)).mono ?_); rintro e w1 ⟨rfl, hb1⟩)
    all_goals (go_ret; exact ⟨rfl, by assumption⟩)
  · obtain ⟨sl, rest, hp⟩ := parts_of s.data.toList
    have hl : sl.length ≤ 300 := by have := hp.size; have := encL_len sl; omega
    have sA : ∀ W, Calls Tryd.prog 14 #[.string s] W (SignsPost W sl (decide (rest = []))) := fun W => signs_any s sl rest hp (by omega) W
    by_cases hr : rest = []
    · subst hr
      have hd : decide (([] : List UInt8) = []) = true := rfl
      rw [hd] at sA
      have cN : ∀ W, Calls Tryd.prog 17 #[.string s] W (NewPost W sl) := fun W => new_good s sl hp (by omega) W
      have HST := Lib.hid hp.text
      have HALL := Lib.hid hp.all
      clear hd hp
      go_enter Tryd.func11, Tryd.ntmps11
      go_wp2_with (first
        | (go_at_call 13; (with_reducible refine (cA.at (by assumption)).mono ?_); rintro e w1 ⟨rfl, hb1⟩)
        | (go_at_call 14; (with_reducible refine (sA _).mono ?_); rintro e w2 ⟨vI, rfl, hI2, hb2⟩; obtain ⟨aoI, capI, rfl⟩ := ints_shape hI2; have hb3 := hb1.trans (hb2.mono hb1.size); have hI3 := ints_mono hI2 hb1.size; clear hb2 hI2)
        | (go_at_call 17; (with_reducible refine (cN _).mono ?_); rintro e w6 ⟨b, v, rfl, hsc6, hb8⟩; have hTS : TS w b v (.slice aoI sl.length capI) sl 0 w6 := ⟨hsc6.mono hb3.size, ints_below hI3 hb8, hb3.trans (hb8.mono hb3.size)⟩; clear hsc6 hb8 hI3))
      go_loopg [10, 11] sl.length (fun g p i wr => UI w b v (.slice aoI sl.length capI) sl g p i wr)
      case atStart => exact ⟨0, 0, by omega, by omega, rfl, rfl, hTS⟩
      case round =>
        clear hTS hb0 hb1 hb3 cA sA cN
        obtain ⟨k, i, hkg, hik, rfl, rfl, hT⟩ := hrel
        have hk : k ≤ sl.length := by omega
        have hik2 : (i : Int) ≤ (sl.length : Int) := by omega
        have HKG := Lib.hid hkg
        rcases idx_range x (sl.drop k) with hx | ⟨m, hm, hx, hxm, _⟩
        · have cU : Calls Tryd.prog 36 #[.pointer (some ⟨b, 0, none⟩), .int .i32 x] wr fun e w' => e = .returned (.tuple #[.string ⟨#[]⟩, .bool false]) ∧ TS w b v (.slice aoI sl.length capI) sl k w' := (until_no hT.1 hk (by omega) x hx).mono fun _ _ ⟨a, c⟩ => ⟨a, hT.same c⟩
          have cR : ∀ {W : World}, TS w b v (.slice aoI sl.length capI) sl k W → Calls Tryd.prog 35 #[.pointer (some ⟨b, 0, none⟩), .slice (some ⟨W.heap.size, 0, none⟩) 6 6] (W.alloc sixObj) fun e w' => e = .returned (.string (textOf (sl.drop k))) ∧ TS w b v (.slice aoI sl.length capI) sl sl.length w' := fun {W} h => ts_run hk (by omega) HALL.out W h
          have cE : ∀ {W : World}, TS w b v (.slice aoI sl.length capI) sl sl.length W → Calls Tryd.prog 18 #[.pointer (some ⟨b, 0, none⟩)] W fun e w' => e = .returned (.bool true) ∧ TS w b v (.slice aoI sl.length capI) sl sl.length w' := fun {W} h => (ts_end_yes (w := w) (b := b) (v := v) (vI := .slice aoI sl.length capI) (sl := sl) rfl (by omega)).at h
          have hadd : ∀ W, (Op.stringOp .add (textOf (sl.take k)) (textOf (sl.drop k))).run Tryd.prog W = .ok (.string s) W := by
            intro W
            rw [add_text _ _ (by simp; omega) (by simp; omega), List.take_append_drop, ← HST.out]
          clear hx hT hkg hik x0 x1
          go_wp2_with (first
            | (go_at_call 36; (with_reducible refine cU.mono ?_); rintro e y1 ⟨rfl, hT1⟩)
            | (go_at_call 35; (with_reducible refine (cR (by assumption)).mono ?_); rintro e y2 ⟨rfl, hT2⟩)
            | (go_at_call 18; (with_reducible refine (cE (by assumption)).mono ?_); rintro e y3 ⟨rfl, hT3⟩))
          go_ret
          exact ⟨ret_bool (by first | rfl | simp), hT3.2.2⟩
        · have hm2 : k + m < sl.length := by simp at hm; omega
          have hsx : sl[k + m]? = some x := by rw [← List.getElem?_drop]; exact hxm
          have hsg : sgn x = true := HALL.out x (List.mem_of_getElem? hsx)
          have cU : Calls Tryd.prog 36 #[.pointer (some ⟨b, 0, none⟩), .int .i32 x] wr fun e w' => e = .returned (.tuple #[.string (textOf ((sl.drop k).take m)), .bool true]) ∧ TS w b v (.slice aoI sl.length capI) sl (k + m + 1) w' := (until_yes hT.1 HALL.out (by omega) x m hm2 hx).mono fun _ _ ⟨a, c⟩ => ⟨a, hT.moves c⟩
          have cX : ∀ {W : World}, TS w b v (.slice aoI sl.length capI) sl (k + m + 1) W → Calls Tryd.prog 31 #[.slice (some ⟨W.heap.size, 0, none⟩) 1 1] (W.alloc (.cells #[.int .i64 x] 3)) fun e w' => e = .returned (.string (textOf [x])) ∧ TS w b v (.slice aoI sl.length capI) sl (k + m + 1) w' := fun {W} h => ts_one x hsg W h
          have hadd1 : ∀ W, (Op.stringOp .add (textOf ((sl.drop k).take m)) (textOf [x])).run Tryd.prog W = .ok (.string (textOf ((sl.drop k).take m ++ [x]))) W := fun W => add_text _ _ (by simp; omega) (by simp) W
          have htk : sl.take k ++ ((sl.drop k).take m ++ [x]) = sl.take (k + m + 1) := by
            rw [← List.append_assoc, List.take_add_one, hsx]
            congr 1
            rw [List.take_add]
          have hadd2 : ∀ W, (Op.stringOp .add (textOf (sl.take k)) (textOf ((sl.drop k).take m ++ [x]))).run Tryd.prog W = .ok (.string (textOf (sl.take (k + m + 1)))) W := fun W => by
            rw [add_text _ _ (by simp; omega) (by simp; omega), htk]
          clear hx hm hxm hsx hsg hT hkg htk
          go_wp2_with (first
            | (go_at_call 36; (with_reducible refine cU.mono ?_); rintro e y1 ⟨rfl, hT1⟩)
            | (go_at_call 31; (with_reducible refine (cX (by assumption)).mono ?_); rintro e y2 ⟨rfl, hT2⟩))
          go_roundg (gk - m - 1)
          case measure => have := HKG.out; omega
          case rel => exact ⟨k + m + 1, i + 1, by have := HKG.out; omega, by omega, rfl, by go_num, hT2⟩
    · have hd : decide (rest = []) = false := decide_eq_false hr
      rw [hd] at sA
      have cN : ∀ W, Calls Tryd.prog 17 #[.string s] W fun e w' => e = .returned (.tuple #[.pointer none, .int .i64 sl.length, .int .i64 1]) ∧ Below W.heap.size W w' := fun W => new_bad s sl rest hp hr (by omega) W
      clear hd hp hr
      go_enter Tryd.func11, Tryd.ntmps11
      go_wp2_with (first
        | (go_at_call 13; (with_reducible refine (cA.at (by assumption)).mono ?_); rintro e w1 ⟨rfl, hb1⟩)
        | (go_at_call 14; (with_reducible refine (sA _).mono ?_); rintro e w2 ⟨vI, rfl, hI2, hb2⟩; obtain ⟨aoI, capI, rfl⟩ := ints_shape hI2; have hb3 := hb1.trans (hb2.mono hb1.size); clear hI2)
        | (go_at_call 17; (with_reducible refine (cN _).mono ?_); rintro e w6 ⟨rfl, hb6⟩; have hb7 := hb3.trans (hb6.mono hb3.size)))
      all_goals (go_ret; exact ⟨ret_bool (by first | rfl | simp), by assumption⟩)

namespace ScanUntilsF
theorem contract (H : Type) (enc : TypeId × Value → H) (W : World) (base : Nat) (args : Array Value) (ds gs : List (DataW H)) (before : List MemPlace)
    (hval : ∀ (j : Nat) t v, Tryd.f11.params[j]? = some t → args[j]? = some v → Value.okWide Tryd.prog W .any base t v)
    (hW : DataW.Whole enc Tryd.prog Tryd.f11.params.toList Rows.scanUntilsSpec.vars false W args.toList ds gs before) (hL : laidMetH Tryd.prog Rows.scanUntilsRow.laid W) :
    Calls Tryd.prog 11 args W fun e W' => ∃ v, e = .returned v ∧ Rows.scanUntilsSpec.post enc Tryd.prog Tryd.f11 false true false false W args v W' := by
  have hW' := hW
  obtain ⟨p, q, hA0, hV, rfl, hfz, hnd⟩ := hW
  have hA : DataW.TrodAll enc Tryd.prog W 0 (fun _ => true) true Tryd.f11.params.toList args.toList ds p := hA0
  rw [Tryd.params11] at hA hval
  obtain ⟨v0, vs0, d0, ds0, p0, q0, hargs, rfl, rfl, h0, r0⟩ := trodAll_cons hA
  obtain ⟨v1, vs1, d1, ds1, p1, q1, rfl, rfl, rfl, h1, r1⟩ := trodAll_cons r0
  obtain ⟨rfl, rfl, rfl⟩ := trodAll_nil r1
  obtain rfl : args = #[v0, v1] := by cases args; simp_all
  obtain ⟨rfl, rfl⟩ := trodVars_none hV
  obtain ⟨x0, rfl, rfl, rfl, w0⟩ := Go.ChangeMaps.open_string Tryd.underlying9 (hval 0 9 v0 rfl rfl) h0
  obtain ⟨x1, rfl, rfl, rfl, w1⟩ := open_int Tryd.underlying21 (hval 1 21 v1 rfl rfl) h1
  have bd1 := bounds_i32 w1
  clear hA0
  simp only [List.append_nil] at hW'
  obtain ⟨t, fr, htab⟩ := table hL
  refine (untils_walk x0 w0 x1 bd1.1 bd1.2 W t fr htab).mono fun e W' ⟨he, hb⟩ => ?_
  subst he
  exact ⟨_, rfl, _, _, _, [], [], [], hW', trodAll_mk1 (shut_bool Tryd.underlying4 _), trodAll_cons_mk (Go.ChangeMaps.shut_string Tryd.underlying9 w0) (trodAll_cons_mk (shut_int Tryd.underlying21 w1) (trodAll_mk0)), rfl, hb.frame _, fun h => by cases h⟩

noncomputable def laidWorld (os : Os) : World :=
  { World.holding Tryd.prog os ⟨#[], #[], []⟩ with heap := (World.holding Tryd.prog os ⟨#[], #[], []⟩).heap.modify 0 fun
      | .cells _ t frozen => .cells escCells t frozen
      | o => o }
theorem laid_met (os : Os) : laidMet Tryd.prog Rows.scanUntilsRow.laid ((laidWorld os).forCall (fun _ _ => 0) ⟨#[], #[.string ⟨#[]⟩, .int .i32 0], []⟩).memory :=
  laidMet_of_run' 8 (by kernel_rfl) (by kernel_rfl)
theorem reads (os : Os) {H : Type} (enc : TypeId × Value → H) : ∃ places, DataW.whole enc Tryd.prog ((laidWorld os).forCall (fun _ _ => 0) ⟨#[], #[.string ⟨#[]⟩, .int .i32 0], []⟩).memory Tryd.f11.params.toList Rows.scanUntilsSpec.vars false (#[.string ⟨#[]⟩, .int .i32 0] : Array Value).toList 8 = some ([.lit (.string []), .lit (.int .i32 0)], [], places) :=
  ⟨[], by kernel_rfl⟩

set_option maxRecDepth 100000 in
theorem lifted (os : Os) (started : os.Started) (H : Type) (enc : TypeId × Value → H) (F : Stop.Interp) :
    ReturnsInHanded {} Tryd.checked os 11 .any ((OpenSpec.ofChange Rows.scanUntilsSpec).preRow enc Tryd.prog Tryd.f11 Rows.scanUntilsRow.domain false Rows.scanUntilsRow.laid) (((OpenSpec.ofChange Rows.scanUntilsSpec).at F).post enc Tryd.prog Tryd.f11 false true false false) := by
  obtain ⟨places, hx⟩ := reads os enc
  refine returnsInHanded_of_row (C := Tryd.checked) (s := OpenSpec.ofChange Rows.scanUntilsSpec) own started (by kernel_rfl) Tryd.func11
    (witness_row_at (enc := enc) (C := Tryd.checked) false (laidWorld os) #[.string ⟨#[]⟩, .int .i32 0] rfl (by kernel_rfl) (by kernel_rfl) (by kernel_rfl)
      (OpenSpec.preRow_of_cond 8 hx (by kernel_rfl) (fun k hk => by cases hk) (by kernel_rfl) (laid_met os))) ?_
  intro W base args ds gs before hval hW _ _ _ hL _ _
  exact contract H enc W base args ds gs before hval hW hL

theorem said : Rows.ScanUntilsSaid :=
  OpenClaim.holds_of_cond 11 Tryd.f11 rfl rfl rfl rfl rfl rfl rfl ⟨rfl, rfl, rfl, rfl, rfl⟩ rfl rfl rfl rfl rfl (by kernel_rfl) Tryd.func11 (by kernel_rfl)
    (of_decide_eq_true (by kernel_rfl)) (by unfold Func.isWrapper; first | (rw [if_pos (by decide +kernel)]; kernel_rfl) | (rw [if_neg (by decide +kernel)]; exact ⟨rfl, rfl⟩))
    (fun os started H enc _ F => by rw [OpenClaim.pre_eq_preRow]; exact lifted os started H enc F)

theorem plain (f : FuncId) (fn : Func) (hf : Tryd.pinned.checked.prog.funcNamed "beck/becklaw01.ScanUntils" = some f) (hfn : Tryd.pinned.checked.prog.funcs[f]? = some fn) :
    false = Tryd.pinned.checked.prog.looks [] ∧ ∀ (j : Nat) t, fn.params[j]? = some t → Tryd.pinned.checked.prog.wantsStandIn t = false := by
  obtain rfl : f = 11 := Option.some.inj ((show Tryd.prog.funcNamed "beck/becklaw01.ScanUntils" = some 11 by kernel_rfl).symm.trans hf) |>.symm
  obtain rfl : fn = Tryd.f11 := (Option.some.inj (Tryd.func11.symm.trans hfn)).symm
  refine ⟨by kernel_rfl, fun j t ht => ?_⟩
  rw [Tryd.params11] at ht
  have hm : t ∈ [9, 21] := by simpa using Array.mem_of_getElem? ht
  have hall : ([9, 21].all fun u => !Tryd.prog.wantsStandIn u) = true := by kernel_rfl
  exact (show Tryd.prog.wantsStandIn t = false by simpa using List.all_eq_true.1 hall t hm)
end ScanUntilsF
theorem scanUntils_card : Rows.ScanUntilsCardSaid :=
  Claim7.holds_tied_plain_at .later [] _ _ _ _ ScanUntilsF.said (fun _ h => by cases h) (by kernel_rfl) (fun _ h => by cases h) scanUntils_row_tie rfl ⟨rfl, rfl⟩ (by kernel_rfl) rfl ScanUntilsF.plain (by kernel_rfl)

end Go.Proofs.YtomgiicepjakcaaDoor
