/-
  ScanTexts, FOR ANY BYTE STRING: whether it is a text, how many signs it has, the place of what is no sign's, and each sign in its order, are the document's: the law returns true, and its argument reads as before. The table 'escapes' starts as the program's text lays it (tied).
-/
import Derived.Test.YtomgiicepjakcaaDoorMeth
import Derived.Test.YtomgiicepjakcaaDoorCards
import Derived.Test.YtomgiicepjakcaaDoorTie
namespace Go.Proofs.YtomgiicepjakcaaDoor
open Go.ChangeShapes Go.WideShapes Go.ChangeAt Go.RowKit

theorem ints_cell {B : Nat} {w : World} {g cap n : Nat} {l : List Int} (h : Ints B w (.slice (some ⟨g, 0, none⟩) n cap) l) (j : Nat) (x : Int) (hx : l[j]? = some x) : w.cell? ⟨g, j, none⟩ = some (.int .i64 x) := by
  have := World.ownsRow.cells h (g := g) rfl j (.int .i64 x) (by simp [intRow, hx])
  by_cases hj : j = 0
  · subst hj; simpa [Addr.add] using this
  · simpa [Addr.add, hj] using this
theorem ints_shape1 {B : Nat} {w : World} {v : Value} {l : List Int} (h : Ints B w v l) (hl : 0 < l.length) : ∃ g cap, v = .slice (some ⟨g, 0, none⟩) l.length cap ∧ l.length ≤ cap := by
  rcases h.2 with ⟨_, h0⟩ | ⟨g, cap, cur, hv, _, _, hc, _⟩
  · omega
  · exact ⟨g, cap, hv, hc⟩
theorem Sc.mono {B B' : Nat} {w : World} {b : Nat} {v : Value} {sl : List Int} {k : Nat} (h : Sc B w b v sl k) (hB : B' ≤ B) : Sc B' w b v sl k := by
  refine ⟨h.blk, ⟨h.row.1, ?_⟩, Nat.le_trans hB h.ge⟩
  rcases h.row.2 with x | ⟨g, cap, cur, hv, hg, hh, rest⟩
  · exact .inl x
  · exact .inr ⟨g, cap, cur, hv, Nat.le_trans hB hg, hh, rest⟩
def TI (w : World) (b : Nat) (v vI : Value) (sl : List Int) (g : Nat) (i : Value) (wr : World) : Prop := ∃ k : Nat, k + g = sl.length ∧ i = .int .i64 k ∧ TS w b v vI sl k wr

set_option maxHeartbeats 8000000 in
set_option maxRecDepth 100000 in
theorem texts_walk (s : ByteArray) (_hs : s.size ≤ maxLen) (w : World) (t : TypeId) (fr : Nat × Nat) (htab : w.heap[0]? = some (.cells escCells t fr)) :
    Calls Tryd.prog 3 #[.string s] w fun e w' => e = .returned (.bool true) ∧ Below w.heap.size w w' := by
  have cA := ever_awake htab
  clear htab
  have hb0 : Below w.heap.size w w := Below.refl _ _
  by_cases hlen : 300 < s.size
  · go_enter Tryd.func3, Tryd.ntmps3
    go_wp2_with (go_at_call 13; (with_reducible refine (cA.at (by assumption)).mono ?_); rintro e w1 ⟨rfl, hb1⟩)
    all_goals (go_ret; exact ⟨rfl, by assumption⟩)
  · obtain ⟨sl, rest, hp⟩ := parts_of s.data.toList
    have hl : sl.length ≤ 300 := by have := hp.size; have := encL_len sl; omega
    have sA : ∀ W, Calls Tryd.prog 14 #[.string s] W (SignsPost W sl (decide (rest = []))) := fun W => signs_any s sl rest hp (by omega) W
    have cG : Ever w 15 #[.string s] (.returned (.bool (decide (rest = [])))) := ever_of fun W => good_any _ _ _ hp (by omega) W
    have cGx : ∀ W, Calls Tryd.prog 15 #[.string s] W fun e w' => e = .returned (.bool (decide (rest = []))) ∧ Below W.heap.size W w' := fun W => good_any _ _ _ hp (by omega) W
    have cLx : ∀ W, Calls Tryd.prog 16 #[.string s] W fun e w' => e = .returned (.int .i64 sl.length) ∧ Below W.heap.size W w' := fun W => len_any _ _ _ hp (by omega) W
    have cL : Ever w 16 #[.string s] (.returned (.int .i64 sl.length)) := ever_of fun W => len_any _ _ _ hp (by omega) W
    by_cases hr : rest = []
    · subst hr
      have hd : decide (([] : List UInt8) = []) = true := rfl
      rw [hd] at sA cGx
      have cN : ∀ W, Calls Tryd.prog 17 #[.string s] W (NewPost W sl) := fun W => new_good s sl hp (by omega) W
      have hall := hp.all
      clear hd hp cG cL
      go_enter Tryd.func3, Tryd.ntmps3
      go_wp2_with (first
        | (go_at_call 13; (with_reducible refine (cA.at (by assumption)).mono ?_); rintro e w1 ⟨rfl, hb1⟩)
        | (go_at_call 14; (with_reducible refine (sA _).mono ?_); rintro e w2 ⟨vI, rfl, hI2, hb2⟩; obtain ⟨aoI, capI, rfl⟩ := ints_shape hI2; have hb3 := hb1.trans (hb2.mono hb1.size); have hI3 := ints_mono hI2 hb1.size; clear hb2 hI2)
        | (go_at_call 15; (with_reducible refine (cGx _).mono ?_); rintro e w4 ⟨rfl, hb4⟩; have hb5 := hb3.trans (hb4.mono hb3.size); have hI4 := ints_below hI3 hb4; clear hb4 hI3)
        | (go_at_call 16; (with_reducible refine (cLx _).mono ?_); rintro e w5 ⟨rfl, hb6⟩; have hb7 := hb5.trans (hb6.mono hb5.size); have hI5 := ints_below hI4 hb6; clear hb6 hI4)
        | (go_at_call 17; (with_reducible refine (cN _).mono ?_); rintro e w6 ⟨b, v, rfl, hsc6, hb8⟩; have hTS : TS w b v (.slice aoI sl.length capI) sl 0 w6 := ⟨hsc6.mono hb7.size, ints_below hI5 hb8, hb7.trans (hb8.mono hb7.size)⟩; clear hsc6 hb8 hI5))
      go_loopg [66] sl.length (fun g i wr => TI w b v (.slice aoI sl.length capI) sl g i wr)
      case atStart => exact ⟨0, by omega, rfl, hTS⟩
      case round =>
        clear hTS
        obtain ⟨k, hkg, rfl, hT⟩ := hrel
        cases gk with
        | zero =>
          have hk : k = sl.length := by omega
          subst hk
          have cE := ts_end_yes (w := w) (b := b) (v := v) (vI := .slice aoI sl.length capI) (sl := sl) rfl (by omega)
          have cP := ts_peek_end (w := w) (b := b) (v := v) (vI := .slice aoI sl.length capI) (sl := sl) rfl (by omega)
          have cX := ts_next_end (w := w) (b := b) (v := v) (vI := .slice aoI sl.length capI) (sl := sl) rfl (by omega)
          have cW := ts_place (w := w) (b := b) (v := v) (vI := .slice aoI sl.length capI) (sl := sl) (k := sl.length)
          go_wp2_with (first
            | (go_at_call 18; (with_reducible refine (cE.at (by assumption)).mono ?_); rintro e x1 ⟨rfl, hT1⟩)
            | (go_at_call 20; (with_reducible refine (cP.at (by assumption)).mono ?_); rintro e x2 ⟨rfl, hT2⟩)
            | (go_at_call 21; (with_reducible refine (cX.at (by assumption)).mono ?_); rintro e x3 ⟨rfl, hT3⟩)
            | (go_at_call 19; (with_reducible refine (cW.at (by assumption)).mono ?_); rintro e x4 ⟨rfl, hT4⟩))
          all_goals (go_ret; exact ⟨ret_bool (by first | rfl | simp), hT4.2.2⟩)
        | succ g =>
          have hk : k < sl.length := by omega
          obtain ⟨n, hn⟩ : ∃ n, sl[k]? = some n := ⟨_, List.getElem?_eq_getElem hk⟩
          have hsg : sgn n = true := hall n (List.mem_of_getElem? hn)
          obtain ⟨n0, n1, _⟩ := (sgn_iff n).1 hsg
          obtain ⟨gI, cI, hvI, hcI⟩ := ints_shape1 hT.2.1 (by omega)
          simp only [Value.slice.injEq] at hvI
          obtain ⟨rfl, _, rfl⟩ := hvI
          have hcell := ints_cell hT.2.1 k n hn
          have cE := ts_end_no (w := w) (b := b) (v := v) (vI := .slice (some ⟨gI, 0, none⟩) sl.length capI) hk (by omega)
          have cP := ts_peek (w := w) (b := b) (v := v) (vI := .slice (some ⟨gI, 0, none⟩) sl.length capI) hn (by omega)
          have cX := ts_next (w := w) (b := b) (v := v) (vI := .slice (some ⟨gI, 0, none⟩) sl.length capI) hn (by omega)
          have cW := ts_place (w := w) (b := b) (v := v) (vI := .slice (some ⟨gI, 0, none⟩) sl.length capI) (sl := sl) (k := k)
          have hk2 : (k : Int) < (sl.length : Int) := by omega
          clear hn hsg
          go_wp2_with (first
            | (go_at_call 18; (with_reducible refine (cE.at (by assumption)).mono ?_); rintro e x1 ⟨rfl, hT1⟩)
            | (go_at_call 20; (with_reducible refine (cP.at (by assumption)).mono ?_); rintro e x2 ⟨rfl, hT2⟩)
            | (go_at_call 21; (with_reducible refine (cX.at (by assumption)).mono ?_); rintro e x3 ⟨rfl, hT3⟩)
            | (go_at_call 19; (with_reducible refine (cW.at (by assumption)).mono ?_); rintro e x4 ⟨rfl, hT4⟩))
          go_roundg g
          case measure => omega
          case rel => exact ⟨k + 1, by omega, by go_num, hT3⟩
    · have hd : decide (rest = []) = false := decide_eq_false hr
      rw [hd] at sA cG
      have cN : ∀ W, Calls Tryd.prog 17 #[.string s] W fun e w' => e = .returned (.tuple #[.pointer none, .int .i64 sl.length, .int .i64 1]) ∧ Below W.heap.size W w' := fun W => new_bad s sl rest hp hr (by omega) W
      clear hd hp hr cGx cLx
      go_enter Tryd.func3, Tryd.ntmps3
      go_wp2_with (first
        | (go_at_call 13; (with_reducible refine (cA.at (by assumption)).mono ?_); rintro e w1 ⟨rfl, hb1⟩)
        | (go_at_call 14; (with_reducible refine (sA _).mono ?_); rintro e w2 ⟨vI, rfl, hI2, hb2⟩; obtain ⟨aoI, capI, rfl⟩ := ints_shape hI2; have hb3 := hb1.trans (hb2.mono hb1.size); clear hI2)
        | (go_at_call 15; (with_reducible refine (cG.at (by assumption)).mono ?_); rintro e w4 ⟨rfl, hb4⟩)
        | (go_at_call 16; (with_reducible refine (cL.at (by assumption)).mono ?_); rintro e w5 ⟨rfl, hb5⟩)
        | (go_at_call 17; (with_reducible refine (cN _).mono ?_); rintro e w6 ⟨rfl, hb6⟩; have hb7 := hb5.trans (hb6.mono hb5.size)))
      all_goals (go_ret; exact ⟨ret_bool (by first | rfl | simp), by assumption⟩)

namespace ScanTextsF
theorem contract (H : Type) (enc : TypeId × Value → H) (W : World) (base : Nat) (args : Array Value) (ds gs : List (DataW H)) (before : List MemPlace)
    (hval : ∀ (j : Nat) t v, Tryd.f3.params[j]? = some t → args[j]? = some v → Value.okWide Tryd.prog W .any base t v)
    (hW : DataW.Whole enc Tryd.prog Tryd.f3.params.toList Rows.scanTextsSpec.vars false W args.toList ds gs before) (hL : laidMetH Tryd.prog Rows.scanTextsRow.laid W) :
    Calls Tryd.prog 3 args W fun e W' => ∃ v, e = .returned v ∧ Rows.scanTextsSpec.post enc Tryd.prog Tryd.f3 false true false false W args v W' := by
  have hW' := hW
  obtain ⟨p, q, hA0, hV, rfl, hfz, hnd⟩ := hW
  have hA : DataW.TrodAll enc Tryd.prog W 0 (fun _ => true) true Tryd.f3.params.toList args.toList ds p := hA0
  rw [Tryd.params3] at hA hval
  obtain ⟨v0, vs0, d0, ds0, p0, q0, hargs, rfl, rfl, h0, r0⟩ := trodAll_cons hA
  obtain ⟨rfl, rfl, rfl⟩ := trodAll_nil r0
  obtain rfl : args = #[v0] := by cases args; simp_all
  obtain ⟨rfl, rfl⟩ := trodVars_none hV
  obtain ⟨x0, rfl, rfl, rfl, w0⟩ := Go.ChangeMaps.open_string Tryd.underlying9 (hval 0 9 v0 rfl rfl) h0
  clear hA0
  simp only [List.append_nil] at hW'
  obtain ⟨t, fr, htab⟩ := table hL
  refine (texts_walk x0 w0 W t fr htab).mono fun e W' ⟨he, hb⟩ => ?_
  subst he
  exact ⟨_, rfl, _, _, _, [], [], [], hW', trodAll_mk1 (shut_bool Tryd.underlying4 _), trodAll_cons_mk (Go.ChangeMaps.shut_string Tryd.underlying9 w0) (trodAll_mk0), rfl, hb.frame _, fun h => by cases h⟩

noncomputable def laidWorld (os : Os) : World :=
  { World.holding Tryd.prog os ⟨#[], #[], []⟩ with heap := (World.holding Tryd.prog os ⟨#[], #[], []⟩).heap.modify 0 fun
      | .cells _ t frozen => .cells escCells t frozen
      | o => o }
theorem laid_met (os : Os) : laidMet Tryd.prog Rows.scanTextsRow.laid ((laidWorld os).forCall (fun _ _ => 0) ⟨#[], #[.string ⟨#[]⟩], []⟩).memory :=
  laidMet_of_run' 8 (by kernel_rfl) (by kernel_rfl)
theorem reads (os : Os) {H : Type} (enc : TypeId × Value → H) : ∃ places, DataW.whole enc Tryd.prog ((laidWorld os).forCall (fun _ _ => 0) ⟨#[], #[.string ⟨#[]⟩], []⟩).memory Tryd.f3.params.toList Rows.scanTextsSpec.vars false (#[.string ⟨#[]⟩] : Array Value).toList 8 = some ([.lit (.string [])], [], places) :=
  ⟨[], by kernel_rfl⟩

set_option maxRecDepth 100000 in
theorem lifted (os : Os) (started : os.Started) (H : Type) (enc : TypeId × Value → H) (F : Stop.Interp) :
    ReturnsInHanded {} Tryd.checked os 3 .any ((OpenSpec.ofChange Rows.scanTextsSpec).preRow enc Tryd.prog Tryd.f3 Rows.scanTextsRow.domain false Rows.scanTextsRow.laid) (((OpenSpec.ofChange Rows.scanTextsSpec).at F).post enc Tryd.prog Tryd.f3 false true false false) := by
  obtain ⟨places, hx⟩ := reads os enc
  refine returnsInHanded_of_row (C := Tryd.checked) (s := OpenSpec.ofChange Rows.scanTextsSpec) own started (by kernel_rfl) Tryd.func3
    (witness_row_at (enc := enc) (C := Tryd.checked) false (laidWorld os) #[.string ⟨#[]⟩] rfl (by kernel_rfl) (by kernel_rfl) (by kernel_rfl)
      (OpenSpec.preRow_of_cond 8 hx (by kernel_rfl) (fun k hk => by cases hk) (by kernel_rfl) (laid_met os))) ?_
  intro W base args ds gs before hval hW _ _ _ hL _ _
  exact contract H enc W base args ds gs before hval hW hL

theorem said : Rows.ScanTextsSaid :=
  OpenClaim.holds_of_cond 3 Tryd.f3 rfl rfl rfl rfl rfl rfl rfl ⟨rfl, rfl, rfl, rfl, rfl⟩ rfl rfl rfl rfl rfl (by kernel_rfl) Tryd.func3 (by kernel_rfl)
    (of_decide_eq_true (by kernel_rfl)) (by unfold Func.isWrapper; first | (rw [if_pos (by decide +kernel)]; kernel_rfl) | (rw [if_neg (by decide +kernel)]; exact ⟨rfl, rfl⟩))
    (fun os started H enc _ F => by rw [OpenClaim.pre_eq_preRow]; exact lifted os started H enc F)

theorem plain (f : FuncId) (fn : Func) (hf : Tryd.pinned.checked.prog.funcNamed "beck/becklaw01.ScanTexts" = some f) (hfn : Tryd.pinned.checked.prog.funcs[f]? = some fn) :
    false = Tryd.pinned.checked.prog.looks [] ∧ ∀ (j : Nat) t, fn.params[j]? = some t → Tryd.pinned.checked.prog.wantsStandIn t = false := by
  obtain rfl : f = 3 := Option.some.inj ((show Tryd.prog.funcNamed "beck/becklaw01.ScanTexts" = some 3 by kernel_rfl).symm.trans hf) |>.symm
  obtain rfl : fn = Tryd.f3 := (Option.some.inj (Tryd.func3.symm.trans hfn)).symm
  refine ⟨by kernel_rfl, fun j t ht => ?_⟩
  rw [Tryd.params3] at ht
  have hm : t ∈ [9] := by simpa using Array.mem_of_getElem? ht
  have hall : ([9].all fun u => !Tryd.prog.wantsStandIn u) = true := by kernel_rfl
  exact (show Tryd.prog.wantsStandIn t = false by simpa using List.all_eq_true.1 hall t hm)
end ScanTextsF
theorem scanTexts_card : Rows.ScanTextsCardSaid :=
  Claim7.holds_tied_plain_at .later [] _ _ _ _ ScanTextsF.said (fun _ h => by cases h) (by kernel_rfl) (fun _ h => by cases h) scanTexts_row_tie rfl ⟨rfl, rfl⟩ (by kernel_rfl) rfl ScanTextsF.plain (by kernel_rfl)

end Go.Proofs.YtomgiicepjakcaaDoor
