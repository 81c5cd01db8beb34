/-
  ScanAgain, FOR ANY BYTE STRING AND ANY PLACE: gone back to a place, a text is read on from there as it was: the law returns true, and its arguments read as before. The table 'escapes' starts as the program's text lays it (tied).
-/
import Derived.Test.YtomgiicepjakcaaDoorKit2
import Derived.Test.YtomgiicepjakcaaDoorCards
import Derived.Test.YtomgiicepjakcaaDoorTie
import Derived.Deep.RegionHeld3
namespace Go.Proofs.YtomgiicepjakcaaDoor
open Go.ChangeShapes Go.WideShapes Go.ChangeAt Go.RowKit
set_option linter.unusedVariables false

set_option maxHeartbeats 8000000 in
set_option maxRecDepth 100000 in
theorem again_walk (s : ByteArray) (_hs : s.size ≤ maxLen) (x : Int) (x0 : 0 ≤ x) (x1 : x ≤ 255) (w : World) (t : TypeId) (fr : Nat × Nat) (htab : w.heap[0]? = some (.cells escCells t fr)) :
    Calls Tryd.prog 12 #[.string s, .int .u8 x] w fun e w' => e = .returned (.bool true) ∧ Below w.heap.size w w' := by
  have cA := ever_awake htab
  clear htab
  have hb0 : Below w.heap.size w w := Below.refl _ _
  by_cases hlen : 300 < s.size
  · go_enter Tryd.func12, Tryd.ntmps12
    go_wp2_with (go_at_call 13; (with_reducible refine (cA.at (by assumption)).mono ?_); rintro e w1 ⟨rfl, hb1⟩)
    all_goals (go_ret; exact ⟨rfl, by assumption⟩)
  · obtain ⟨sl, rest, hp⟩ := parts_of s.data.toList
    have hl : sl.length ≤ 300 := by have := hp.size; have := encL_len sl; omega
    have sA : ∀ W, Calls Tryd.prog 14 #[.string s] W (SignsPost W sl (decide (rest = []))) := fun W => signs_any s sl rest hp (by omega) W
    by_cases hr : rest = []
    · subst hr
      have hd : decide (([] : List UInt8) = []) = true := rfl
      rw [hd] at sA
      have cN : ∀ W, Calls Tryd.prog 17 #[.string s] W (NewPost W sl) := fun W => new_good s sl hp (by omega) W
      have hall := hp.all
      have hst := hp.text
      obtain ⟨kN, hkN⟩ : ∃ kN : Nat, (kN : Int) = x % ((sl.length : Int) + 1) := ⟨(x % ((sl.length : Int) + 1)).toNat, by have := Int.emod_nonneg x (show (sl.length : Int) + 1 ≠ 0 by omega); omega⟩
      have hk2 : kN ≤ sl.length := by have := Int.emod_lt_of_pos x (show (0 : Int) < (sl.length : Int) + 1 by omega); omega
      have hkE : x % ((sl.length : Int) + 1) = (kN : Int) := hkN.symm
      clear hkN
      have hne : ((sl.length : Int) + 1) ≠ 0 := by omega
      have cR1 : ∀ (b : Nat) (v vI : Value), ∀ {W : World}, TS w b v vI sl 0 W → Calls Tryd.prog 35 #[.pointer (some ⟨b, 0, none⟩), .slice (some ⟨W.heap.size, 0, none⟩) 6 6] (W.alloc sixObj) fun e w' => e = .returned (.string s) ∧ TS w b v vI sl sl.length w' := by
        intro b v vI W h
        have := ts_run (Nat.zero_le _) (by omega) hall W h
        rw [List.drop_zero, ← hst] at this
        exact this
      have cE : ∀ (b : Nat) (v vI : Value), ∀ {W : World}, TS w b v vI sl sl.length W → _ := fun b v vI W h => (ts_end_yes (w := w) (b := b) (v := v) (vI := vI) (sl := sl) rfl (by omega)).at h
      have cB : ∀ (b : Nat) (v vI : Value), ∀ {W : World}, TS w b v vI sl sl.length W → _ := fun b v vI W h => (ts_back (w := w) (b := b) (v := v) (vI := vI) (sl := sl) (k := sl.length) kN hk2 (by omega)).at h
      have cP : ∀ (b : Nat) (v vI : Value), ∀ {W : World}, TS w b v vI sl kN W → _ := fun b v vI W h => (ts_place (w := w) (b := b) (v := v) (vI := vI) (sl := sl) (k := kN)).at h
      have HST := Lib.hid hst
      have HALL := Lib.hid hall
      clear hd hp hst hall
      go_enter Tryd.func12, Tryd.ntmps12
      go_wp2_with (first
        | (go_at_call 13; (with_reducible refine (cA.at (by assumption)).mono ?_); rintro e w1 ⟨rfl, hb1⟩)
        | (go_at_call 14; (with_reducible refine (sA _).mono ?_); rintro e w2 ⟨vI, rfl, hI2, hb2⟩; obtain ⟨aoI, capI, rfl⟩ := ints_shape hI2; have hb3 := hb1.trans (hb2.mono hb1.size); have hI3 := ints_mono hI2 hb1.size; clear hb2 hI2)
        | (go_at_call 17; (with_reducible refine (cN _).mono ?_); rintro e w6 ⟨b, v, rfl, hsc6, hb8⟩; have hTS : TS w b v (.slice aoI sl.length capI) sl 0 w6 := ⟨hsc6.mono hb3.size, ints_below hI3 hb8, hb3.trans (hb8.mono hb3.size)⟩; clear hsc6 hb8 hI3)
        | (go_at_call 35; (with_reducible refine (cR1 _ _ _ (by assumption)).mono ?_); rintro e x1 ⟨rfl, hT1⟩)
        | (go_at_call 18; (with_reducible refine (cE _ _ _ (by assumption)).mono ?_); rintro e x2 ⟨rfl, hT2⟩)
        | (go_at_call 29; (with_reducible refine (cB _ _ _ (by assumption)).mono ?_); rintro e x3 ⟨rfl, hT3⟩)
        | (go_at_call 19; (with_reducible refine (cP _ _ _ (by assumption)).mono ?_); rintro e x4 ⟨rfl, hT4⟩))
      clear cA sA cN cR1 cB hb0 hb1 hb3 hTS hT1 hT2 hT3
      have hTd := hT4
      have hI := hT4.2.1.2
      rcases hI with ⟨hv, hl0⟩ | ⟨gI, cI, cur, hv, _, _, hcI, _⟩
      · simp only [Value.slice.injEq] at hv
        obtain ⟨rfl, _, rfl⟩ := hv
        obtain rfl : sl = [] := List.length_eq_zero_iff.1 hl0
        obtain rfl : kN = 0 := by simp at hk2; exact hk2
        have cR2 : ∀ {W : World}, TS w b v (.slice none 0 0) [] 0 W → Calls Tryd.prog 35 #[.pointer (some ⟨b, 0, none⟩), .slice (some ⟨W.heap.size, 0, none⟩) 6 6] (W.alloc sixObj).drew fun e w' => e = .returned (.string (textOf [])) ∧ TS w b v (.slice none 0 0) [] 0 w' := fun {W} h => ts_run_drew (Nat.le_refl _) (by simp) HALL.out W h
        have cE2 : ∀ {W : World}, TS w b v (.slice none 0 0) [] 0 W → Calls Tryd.prog 18 #[.pointer (some ⟨b, 0, none⟩)] W fun e w' => e = .returned (.bool true) ∧ TS w b v (.slice none 0 0) [] 0 w' := fun {W} h => (ts_end_yes (w := w) (b := b) (v := v) (vI := .slice none 0 0) (sl := []) rfl (by simp)).at h
        have cP2 : ∀ {W : World}, TS w b v (.slice none 0 0) [] 0 W → Calls Tryd.prog 19 #[.pointer (some ⟨b, 0, none⟩)] W fun e w' => e = .returned (.int .i64 0) ∧ TS w b v (.slice none 0 0) [] 0 w' := fun {W} h => (ts_place (w := w) (b := b) (v := v) (vI := .slice none 0 0) (sl := []) (k := 0)).at h
        have cB1 : ∀ {W : World}, TS w b v (.slice none 0 0) [] 0 W → Calls Tryd.prog 29 #[.pointer (some ⟨b, 0, none⟩), .int .i64 1] W fun e w' => e = .returned (.bool false) ∧ TS w b v (.slice none 0 0) [] 0 w' := fun {W} h => (ts_back_no (w := w) (b := b) (v := v) (vI := .slice none 0 0) (sl := []) (k := 0) 1 (by simp) (by simp)).at h
        have cB2 : ∀ {W : World}, TS w b v (.slice none 0 0) [] 0 W → Calls Tryd.prog 29 #[.pointer (some ⟨b, 0, none⟩), .int .i64 (-1)] W fun e w' => e = .returned (.bool false) ∧ TS w b v (.slice none 0 0) [] 0 w' := fun {W} h => (ts_back_no (w := w) (b := b) (v := v) (vI := .slice none 0 0) (sl := []) (k := 0) (-1) (by simp) (by simp)).at h
        have cT : ∀ (c : Nat) {W : World}, TS w b v (.slice none 0 0) [] 0 W → Calls Tryd.prog 31 #[.slice none 0 c] W fun e w' => e = .returned (.string (textOf [])) ∧ TS w b v (.slice none 0 0) [] 0 w' :=
          fun c {W} h => (text_any [] allS_nil (by simp) none 0 0 c W (by simp) (by simp)).mono fun e w' ⟨x, y⟩ => ⟨x, h.below y⟩
        have hT5 : TS w b v (.slice none 0 0) [] 0 x4 := hT4
        have z1 : IntKind.i64.wrap 1 = 1 := by decide
        have z2 : IntKind.i64.wrap (0 + 1) = 1 := by decide
        clear cE cP hkE x0 x1 hne hT4 hTd
        go_region_held3 (fun _ => True) (trivial) (first
          | (go_at_call 35; (with_reducible refine (cR2 (by assumption)).mono ?_); rintro e y1 ⟨rfl, hU1⟩)
          | (go_at_call 31; (with_reducible refine (cT _ (by assumption)).mono ?_); rintro e y2 ⟨rfl, hU2⟩)
          | (go_at_call 18; (with_reducible refine (cE2 (by assumption)).mono ?_); rintro e y3 ⟨rfl, hU3⟩)
          | (go_at_call 29; (with_reducible refine (cB1 (by assumption)).mono ?_); rintro e y4 ⟨rfl, hU4⟩)
          | (go_at_call 29; (with_reducible refine (cB2 (by assumption)).mono ?_); rintro e y5 ⟨rfl, hU5⟩)
          | (go_at_call 19; (with_reducible refine (cP2 (by assumption)).mono ?_); rintro e y6 ⟨rfl, hU6⟩))
        go_wp2
        go_ret
        exact ⟨ret_bool (by first | rfl | simp), hU6.2.2⟩
      · simp only [Value.slice.injEq] at hv
        obtain ⟨rfl, _, rfl⟩ := hv
        have cR2 : ∀ {W : World}, TS w b v (.slice (some ⟨gI, 0, none⟩) sl.length capI) sl kN W → Calls Tryd.prog 35 #[.pointer (some ⟨b, 0, none⟩), .slice (some ⟨W.heap.size, 0, none⟩) 6 6] (W.alloc sixObj).drew fun e w' => e = .returned (.string (textOf (sl.drop kN))) ∧ TS w b v (.slice (some ⟨gI, 0, none⟩) sl.length capI) sl sl.length w' := fun {W} h => ts_run_drew hk2 (by omega) HALL.out W h
        have cE2 : ∀ {W : World}, TS w b v (.slice (some ⟨gI, 0, none⟩) sl.length capI) sl sl.length W → _ := fun {W} h => cE b v _ h
        have cP2 : ∀ {W : World}, TS w b v (.slice (some ⟨gI, 0, none⟩) sl.length capI) sl sl.length W → _ := fun {W} h => (ts_place (w := w) (b := b) (v := v) (vI := .slice (some ⟨gI, 0, none⟩) sl.length capI) (sl := sl) (k := sl.length)).at h
        have cB1 : ∀ {W : World}, TS w b v (.slice (some ⟨gI, 0, none⟩) sl.length capI) sl sl.length W → _ := fun {W} h => (ts_back_no (w := w) (b := b) (v := v) (vI := .slice (some ⟨gI, 0, none⟩) sl.length capI) (sl := sl) (k := sl.length) ((sl.length : Int) + 1) (by omega) (by omega)).at h
        have cB2 : ∀ {W : World}, TS w b v (.slice (some ⟨gI, 0, none⟩) sl.length capI) sl sl.length W → _ := fun {W} h => (ts_back_no (w := w) (b := b) (v := v) (vI := .slice (some ⟨gI, 0, none⟩) sl.length capI) (sl := sl) (k := sl.length) (-1) (by omega) (by omega)).at h
        have b1 : (0 : Int) ≤ (kN : Int) := by omega
        have b2 : (kN : Int) ≤ (sl.length : Int) := by omega
        have b3 : (sl.length : Int) ≤ (capI : Int) := by omega
        have b5 : IntKind.i64.wrap ((sl.length : Int) + 1) = (sl.length : Int) + 1 := IntWalk.i64_in _ (by omega)
        clear cE cP hkE x0 x1 hne
        by_cases hck : capI = kN
        · have cT : ∀ (c : Nat) {W : World}, TS w b v (.slice (some ⟨gI, 0, none⟩) sl.length capI) sl sl.length W → Calls Tryd.prog 31 #[.slice (some ⟨gI, 0, none⟩) (sl.length - kN) c] W fun e w' => e = .returned (.string (textOf (sl.drop kN))) ∧ TS w b v (.slice (some ⟨gI, 0, none⟩) sl.length capI) sl sl.length w' :=
            fun c {W} h => ts_text HALL.out (by omega) kN (some ⟨gI, 0, none⟩) c (fun h0 => by omega) W h
          obtain rfl : capI = kN := hck
          have h0 : sl.length - capI = 0 := by omega
          have cT0 : ∀ (c : Nat) {W : World}, TS w b v (.slice (some ⟨gI, 0, none⟩) sl.length capI) sl sl.length W → Calls Tryd.prog 31 #[.slice (some ⟨gI, 0, none⟩) 0 c] W fun e w' => e = .returned (.string (textOf (sl.drop capI))) ∧ TS w b v (.slice (some ⟨gI, 0, none⟩) sl.length capI) sl sl.length w' := by
            intro c W h
            have := cT c h
            rwa [h0] at this
          clear h0
          have hT5 := hT4
          clear hT4
          go_region_held3 (fun _ => True) (trivial) (first
            | (go_at_call 35; (with_reducible refine (cR2 (by assumption)).mono ?_); rintro e y1 ⟨rfl, hU1⟩)
            | (go_at_call 31; (with_reducible refine (cT _ (by assumption)).mono ?_); rintro e y2 ⟨rfl, hU2⟩)
            | (go_at_call 31; (with_reducible refine (cT0 _ (by assumption)).mono ?_); rintro e y2 ⟨rfl, hU2⟩)
            | (go_at_call 18; (with_reducible refine (cE2 (by assumption)).mono ?_); rintro e y3 ⟨rfl, hU3⟩)
            | (go_at_call 29; (with_reducible refine (cB1 (by assumption)).mono ?_); rintro e y4 ⟨rfl, hU4⟩)
            | (go_at_call 29; (with_reducible refine (cB2 (by assumption)).mono ?_); rintro e y5 ⟨rfl, hU5⟩)
            | (go_at_call 19; (with_reducible refine (cP2 (by assumption)).mono ?_); rintro e y6 ⟨rfl, hU6⟩))
          go_wp2
          go_ret
          exact ⟨ret_bool (by first | rfl | simp), hU6.2.2⟩
        · have cT : ∀ (c : Nat) {W : World}, TS w b v (.slice (some ⟨gI, 0, none⟩) sl.length capI) sl sl.length W → Calls Tryd.prog 31 #[.slice (some ⟨gI, kN, none⟩) (sl.length - kN) c] W fun e w' => e = .returned (.string (textOf (sl.drop kN))) ∧ TS w b v (.slice (some ⟨gI, 0, none⟩) sl.length capI) sl sl.length w' :=
            fun c {W} h => ts_text HALL.out (by omega) kN (some ⟨gI, kN, none⟩) c (fun _ => rfl) W h
          have hT5 := hT4
          clear hT4
          go_region_held3 (fun _ => True) (trivial) (first
            | (go_at_call 35; (with_reducible refine (cR2 (by assumption)).mono ?_); rintro e y1 ⟨rfl, hU1⟩)
            | (go_at_call 31; (with_reducible refine (cT _ (by assumption)).mono ?_); rintro e y2 ⟨rfl, hU2⟩)
            | (go_at_call 18; (with_reducible refine (cE2 (by assumption)).mono ?_); rintro e y3 ⟨rfl, hU3⟩)
            | (go_at_call 29; (with_reducible refine (cB1 (by assumption)).mono ?_); rintro e y4 ⟨rfl, hU4⟩)
            | (go_at_call 29; (with_reducible refine (cB2 (by assumption)).mono ?_); rintro e y5 ⟨rfl, hU5⟩)
            | (go_at_call 19; (with_reducible refine (cP2 (by assumption)).mono ?_); rintro e y6 ⟨rfl, hU6⟩))
          go_wp2
          go_ret
          exact ⟨ret_bool (by first | rfl | simp), hU6.2.2⟩
    · have hd : decide (rest = []) = false := decide_eq_false hr
      rw [hd] at sA
      have cN : ∀ W, Calls Tryd.prog 17 #[.string s] W fun e w' => e = .returned (.tuple #[.pointer none, .int .i64 sl.length, .int .i64 1]) ∧ Below W.heap.size W w' := fun W => new_bad s sl rest hp hr (by omega) W
      clear hd hp hr
      go_enter Tryd.func12, Tryd.ntmps12
      go_wp2_with (first
        | (go_at_call 13; (with_reducible refine (cA.at (by assumption)).mono ?_); rintro e w1 ⟨rfl, hb1⟩)
        | (go_at_call 14; (with_reducible refine (sA _).mono ?_); rintro e w2 ⟨vI, rfl, hI2, hb2⟩; obtain ⟨aoI, capI, rfl⟩ := ints_shape hI2; have hb3 := hb1.trans (hb2.mono hb1.size); clear hI2)
        | (go_at_call 17; (with_reducible refine (cN _).mono ?_); rintro e w6 ⟨rfl, hb6⟩; have hb7 := hb3.trans (hb6.mono hb3.size)))
      all_goals (go_ret; exact ⟨ret_bool (by first | rfl | simp), by assumption⟩)

namespace ScanAgainF
theorem contract (H : Type) (enc : TypeId × Value → H) (W : World) (base : Nat) (args : Array Value) (ds gs : List (DataW H)) (before : List MemPlace)
    (hval : ∀ (j : Nat) t v, Tryd.f12.params[j]? = some t → args[j]? = some v → Value.okWide Tryd.prog W .any base t v)
    (hW : DataW.Whole enc Tryd.prog Tryd.f12.params.toList Rows.scanAgainSpec.vars false W args.toList ds gs before) (hL : laidMetH Tryd.prog Rows.scanAgainRow.laid W) :
    Calls Tryd.prog 12 args W fun e W' => ∃ v, e = .returned v ∧ Rows.scanAgainSpec.post enc Tryd.prog Tryd.f12 false true false false W args v W' := by
  have hW' := hW
  obtain ⟨p, q, hA0, hV, rfl, hfz, hnd⟩ := hW
  have hA : DataW.TrodAll enc Tryd.prog W 0 (fun _ => true) true Tryd.f12.params.toList args.toList ds p := hA0
  rw [Tryd.params12] at hA hval
  obtain ⟨v0, vs0, d0, ds0, p0, q0, hargs, rfl, rfl, h0, r0⟩ := trodAll_cons hA
  obtain ⟨v1, vs1, d1, ds1, p1, q1, rfl, rfl, rfl, h1, r1⟩ := trodAll_cons r0
  obtain ⟨rfl, rfl, rfl⟩ := trodAll_nil r1
  obtain rfl : args = #[v0, v1] := by cases args; simp_all
  obtain ⟨rfl, rfl⟩ := trodVars_none hV
  obtain ⟨x0, rfl, rfl, rfl, w0⟩ := Go.ChangeMaps.open_string Tryd.underlying9 (hval 0 9 v0 rfl rfl) h0
  obtain ⟨x1, rfl, rfl, rfl, w1⟩ := open_int Tryd.underlying5 (hval 1 5 v1 rfl rfl) h1
  have bd1 := bounds_u8 w1
  clear hA0
  simp only [List.append_nil] at hW'
  obtain ⟨t, fr, htab⟩ := table hL
  refine (again_walk x0 w0 x1 bd1.1 bd1.2 W t fr htab).mono fun e W' ⟨he, hb⟩ => ?_
  subst he
  exact ⟨_, rfl, _, _, _, [], [], [], hW', trodAll_mk1 (shut_bool Tryd.underlying4 _), trodAll_cons_mk (Go.ChangeMaps.shut_string Tryd.underlying9 w0) (trodAll_cons_mk (shut_int Tryd.underlying5 w1) (trodAll_mk0)), rfl, hb.frame _, fun h => by cases h⟩

noncomputable def laidWorld (os : Os) : World :=
  { World.holding Tryd.prog os ⟨#[], #[], []⟩ with heap := (World.holding Tryd.prog os ⟨#[], #[], []⟩).heap.modify 0 fun
      | .cells _ t frozen => .cells escCells t frozen
      | o => o }
theorem laid_met (os : Os) : laidMet Tryd.prog Rows.scanAgainRow.laid ((laidWorld os).forCall (fun _ _ => 0) ⟨#[], #[.string ⟨#[]⟩, .int .u8 0], []⟩).memory :=
  laidMet_of_run' 8 (by kernel_rfl) (by kernel_rfl)
theorem reads (os : Os) {H : Type} (enc : TypeId × Value → H) : ∃ places, DataW.whole enc Tryd.prog ((laidWorld os).forCall (fun _ _ => 0) ⟨#[], #[.string ⟨#[]⟩, .int .u8 0], []⟩).memory Tryd.f12.params.toList Rows.scanAgainSpec.vars false (#[.string ⟨#[]⟩, .int .u8 0] : Array Value).toList 8 = some ([.lit (.string []), .lit (.int .u8 0)], [], places) :=
  ⟨[], by kernel_rfl⟩

set_option maxRecDepth 100000 in
theorem lifted (os : Os) (started : os.Started) (H : Type) (enc : TypeId × Value → H) (F : Stop.Interp) :
    ReturnsInHanded {} Tryd.checked os 12 .any ((OpenSpec.ofChange Rows.scanAgainSpec).preRow enc Tryd.prog Tryd.f12 Rows.scanAgainRow.domain false Rows.scanAgainRow.laid) (((OpenSpec.ofChange Rows.scanAgainSpec).at F).post enc Tryd.prog Tryd.f12 false true false false) := by
  obtain ⟨places, hx⟩ := reads os enc
  refine returnsInHanded_of_row (C := Tryd.checked) (s := OpenSpec.ofChange Rows.scanAgainSpec) own started (by kernel_rfl) Tryd.func12
    (witness_row_at (enc := enc) (C := Tryd.checked) false (laidWorld os) #[.string ⟨#[]⟩, .int .u8 0] rfl (by kernel_rfl) (by kernel_rfl) (by kernel_rfl)
      (OpenSpec.preRow_of_cond 8 hx (by kernel_rfl) (fun k hk => by cases hk) (by kernel_rfl) (laid_met os))) ?_
  intro W base args ds gs before hval hW _ _ _ hL _ _
  exact contract H enc W base args ds gs before hval hW hL

theorem said : Rows.ScanAgainSaid :=
  OpenClaim.holds_of_cond 12 Tryd.f12 rfl rfl rfl rfl rfl rfl rfl ⟨rfl, rfl, rfl, rfl, rfl⟩ rfl rfl rfl rfl rfl (by kernel_rfl) Tryd.func12 (by kernel_rfl)
    (of_decide_eq_true (by kernel_rfl)) (by unfold Func.isWrapper; first | (rw [if_pos (by decide +kernel)]; kernel_rfl) | (rw [if_neg (by decide +kernel)]; exact ⟨rfl, rfl⟩))
    (fun os started H enc _ F => by rw [OpenClaim.pre_eq_preRow]; exact lifted os started H enc F)

theorem plain (f : FuncId) (fn : Func) (hf : Tryd.pinned.checked.prog.funcNamed "beck/becklaw01.ScanAgain" = some f) (hfn : Tryd.pinned.checked.prog.funcs[f]? = some fn) :
    false = Tryd.pinned.checked.prog.looks [] ∧ ∀ (j : Nat) t, fn.params[j]? = some t → Tryd.pinned.checked.prog.wantsStandIn t = false := by
  obtain rfl : f = 12 := Option.some.inj ((show Tryd.prog.funcNamed "beck/becklaw01.ScanAgain" = some 12 by kernel_rfl).symm.trans hf) |>.symm
  obtain rfl : fn = Tryd.f12 := (Option.some.inj (Tryd.func12.symm.trans hfn)).symm
  refine ⟨by kernel_rfl, fun j t ht => ?_⟩
  rw [Tryd.params12] at ht
  have hm : t ∈ [9, 5] := by simpa using Array.mem_of_getElem? ht
  have hall : ([9, 5].all fun u => !Tryd.prog.wantsStandIn u) = true := by kernel_rfl
  exact (show Tryd.prog.wantsStandIn t = false by simpa using List.all_eq_true.1 hall t hm)
end ScanAgainF
theorem scanAgain_card : Rows.ScanAgainCardSaid :=
  Claim7.holds_tied_plain_at .later [] _ _ _ _ ScanAgainF.said (fun _ h => by cases h) (by kernel_rfl) (fun _ h => by cases h) scanAgain_row_tie rfl ⟨rfl, rfl⟩ (by kernel_rfl) rfl ScanAgainF.plain (by kernel_rfl)

end Go.Proofs.YtomgiicepjakcaaDoor
