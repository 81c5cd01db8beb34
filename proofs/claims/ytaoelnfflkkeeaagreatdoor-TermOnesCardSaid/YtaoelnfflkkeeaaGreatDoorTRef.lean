/-
  THE DOCUMENT's 'Less', 'AsInt', 'AsBool', 'known'.
-/
import Derived.Test.YtaoelnfflkkeeaaGreatDoorTTerm
import Derived.Test.YtaoelnfflkkeeaaGreatDoorVRParse
namespace Go.Proofs.YtaoelnfflkkeeaaGreatDoor
open Go.RowKit
set_option linter.unusedVariables false

theorem rparse_wide (s : ByteArray) (hs : s.size ≤ 100000) (w : World) : Calls Tryz.prog 24 #[.string s] w (RpPost w s.data.toList) := by
  by_cases h0 : 0 < s.size
  · by_cases h43 : ((s[0]'h0).toNat : Int) = 43
    · exact rparse_plus s hs h0 h43 w
    · by_cases h45 : ((s[0]'h0).toNat : Int) = 45
      · exact rparse_minus s hs h0 h45 w
      · exact rparse_plain s hs h0 _ rfl h43 h45 w
  · have e : s = ⟨#[]⟩ := by
      apply ByteArray.ext
      have : s.data.size = 0 := by have : s.size = s.data.size := rfl; omega
      exact Array.eq_empty_of_size_eq_zero this
    rw [e]
    exact rparse_nil w
/-- Is one ahead of another one? -/
def lessT (k : Int) (a b c : ByteArray) (k' : Int) (a' b' c' : ByteArray) : Bool :=
  if (k != k') = true then decide (k < k') else if (a.toList == a'.toList) = false then Op.bytesLess a.toList a'.toList else if (b.toList == b'.toList) = false then Op.bytesLess b.toList b'.toList else Op.bytesLess c.toList c'.toList
/-- What the document's AsInt says. -/
def RaPost (w : World) (t : Tm) (e : Ending) (w' : World) : Prop :=
  if (asI t).2 = 0 then ∃ v, e = .returned (.tuple #[v, .int .i64 0]) ∧ BigV w' v (asI t).1 ∧ Below w.heap.size w w' else e = .returned (noBig (asI t).2) ∧ Below w.heap.size w w'
set_option maxRecDepth 100000 in
set_option maxHeartbeats 4000000 in
theorem rasInt_no (t : Tm) (h : (t.isLit && (t.tb.toList == lI)) = false) (w : World) : Calls Tryz.prog 10 #[T4 t] w fun e w' => e = .returned (noBig 10) ∧ Below w.heap.size w w' := by
  match t, h with
  | .lit a b c, h =>
    have h1 : (b.toList == lI) = false := by simpa [Tm.isLit, Tm.tb] using h
    clear h
    simp only [T4, Tm.kind, Tm.ta, Tm.tb, Tm.tc]
    go_enter Tryz.func10, Tryz.ntmps10
    go_wp2
    exact bodyPost_ret (v := noBig 10) (by simp [results, Tryz.results10, go_sem]) rfl ⟨rfl, ((Below.refl _ _).alloc (Nat.le_refl _) _).alloc (by simp) _⟩
  | .blank s, _ =>
    simp only [T4, Tm.kind, Tm.ta, Tm.tb, Tm.tc]
    go_enter Tryz.func10, Tryz.ntmps10
    go_wp2
    exact bodyPost_ret (v := noBig 10) (by simp [results, Tryz.results10, go_sem]) rfl ⟨rfl, ((Below.refl _ _).alloc (Nat.le_refl _) _).alloc (by simp) _⟩
  | .iri s, _ =>
    simp only [T4, Tm.kind, Tm.ta, Tm.tb, Tm.tc]
    go_enter Tryz.func10, Tryz.ntmps10
    go_wp2
    exact bodyPost_ret (v := noBig 10) (by simp [results, Tryz.results10, go_sem]) rfl ⟨rfl, ((Below.refl _ _).alloc (Nat.le_refl _) _).alloc (by simp) _⟩
  | .odd n, _ =>
    simp only [T4, Tm.kind, Tm.ta, Tm.tb, Tm.tc]
    go_enter Tryz.func10, Tryz.ntmps10
    go_wp2
    exact bodyPost_ret (v := noBig 10) (by simp [results, Tryz.results10, go_sem]) rfl ⟨rfl, ((Below.refl _ _).alloc (Nat.le_refl _) _).alloc (by simp) _⟩
  | .none, _ =>
    simp only [T4, Tm.kind, Tm.ta, Tm.tb, Tm.tc]
    go_enter Tryz.func10, Tryz.ntmps10
    go_wp2
    exact bodyPost_ret (v := noBig 10) (by simp [results, Tryz.results10, go_sem]) rfl ⟨rfl, ((Below.refl _ _).alloc (Nat.le_refl _) _).alloc (by simp) _⟩
theorem asI_lit (a b c : ByteArray) (h : (b.toList == lI) = true) : asI (.lit a b c) = asT a := by
  unfold asI
  simp only [Tm.isLit, Tm.tb, h, if_true]
  rfl
def IntPost (w : World) (a : ByteArray) (e : Ending) (w' : World) : Prop :=
  if (asT a).2 = 0 then ∃ v, e = .returned (.tuple #[v, .int .i64 0]) ∧ BigV w' v (asT a).1 ∧ Below w.heap.size w w' else e = .returned (noBig (asT a).2) ∧ Below w.heap.size w w'
theorem asT_form {a : ByteArray} (h : isNum a.data.toList = false) : asT a = (0, 3) := by
  unfold asT prs
  rw [h]
  rfl
theorem asT_fit {a : ByteArray} (h : isNum a.data.toList = true) (hf : F64 (numZ a.data.toList)) : asT a = (numZ a.data.toList, 0) := by
  unfold asT prs
  unfold F64 at hf
  rw [h, if_pos rfl, if_pos hf]
  rfl
theorem asT_over {a : ByteArray} (h : isNum a.data.toList = true) (hf : ¬ F64 (numZ a.data.toList)) : asT a = (0, 9) := by
  unfold asT prs
  unfold F64 at hf
  rw [h, if_pos rfl, if_neg hf]
  rfl
/-- A box of four, behind a call that makes memory. -/
theorem box4 {w w4 : World} {k : Int} {a b c : ByteArray} {cs : Array Value} {t' : TypeId} (hb : Below ((w.alloc (.cells #[.int .i64 k, .string a, .string b, .string c] 23)).alloc (.cells cs t')).heap.size ((w.alloc (.cells #[.int .i64 k, .string a, .string b, .string c] 23)).alloc (.cells cs t')) w4) :
    Fb w4 w.heap.size 23 #[.int .i64 k, .string a, .string b, .string c] ∧ Fb w4 (w.heap.size + 1) t' cs := by
  refine ⟨((Fb.new w 23 _).alloc _).below hb, ?_⟩
  have := (Fb.new (w.alloc (.cells #[.int .i64 k, .string a, .string b, .string c] 23)) t' cs).below hb
  simpa using this
theorem intPost_no {w : World} {a : ByteArray} {code : Int} (h : asT a = (0, code)) (hc : code ≠ 0) {e : Ending} {w' : World} (hp : e = .returned (noBig code) ∧ Below w.heap.size w w') : IntPost w a e w' := by
  unfold IntPost
  rw [h, if_neg hc]
  exact hp
def FitPost (w : World) (z : Int) (e : Ending) (w' : World) : Prop := ∃ v, e = .returned (.tuple #[v, .int .i64 0]) ∧ BigV w' v z ∧ Below w.heap.size w w'
theorem intPost_yes {w : World} {a : ByteArray} {z : Int} (h : asT a = (z, 0)) {e : Ending} {w' : World} (hp : FitPost w z e w') : IntPost w a e w' := by
  unfold IntPost
  rw [h, if_pos rfl]
  exact hp
set_option maxRecDepth 100000 in
set_option maxHeartbeats 4000000 in
theorem rasInt_form (a b c : ByteArray) (h : (b.toList == lI) = true) (c1 : ∀ W, Calls Tryz.prog 24 #[.string a] W fun e w' => e = .returned (noBig 1) ∧ Below W.heap.size W w') (w : World) : Calls Tryz.prog 10 #[F4 2 a b c] w fun e w' => e = .returned (noBig 3) ∧ Below w.heap.size w w' := by
  have hb0 := ((Below.refl w.heap.size w).alloc (Nat.le_refl _) (.cells #[.int .i64 2, .string a, .string b, .string c] 23)).alloc (by simp) (.cells #[.bool false, .slice none 0 0] 37)
  have HB0 := Lib.hid hb0
  have HS0 := Lib.hid hb0.size
  clear hb0
  go_enter Tryz.func10, Tryz.ntmps10
  go_wp2_with (go_at_call 24; (with_reducible refine (c1 _).mono ?_); rintro e w3 ⟨rfl, hb3⟩; obtain ⟨hx, hy⟩ := box4 hb3; have HB := Lib.hid (HB0.out.trans (hb3.mono HS0.out)); have y0 := hy.cell 0; have y1 := hy.cell 1; have f0 := hy.free 0; have f1 := hy.free 1; simp at y0 y1; have hz := hy.lt)
  exact bodyPost_ret (v := noBig 3) (by simp [results, Tryz.results10, go_sem, y0, y1, hz]) rfl ⟨rfl, (((HB.out.setCell (by simp) _).setCell (by simp) _).alloc (by simpa using HB.out.size) _)⟩
set_option maxRecDepth 100000 in
set_option maxHeartbeats 4000000 in
theorem rasInt_over (a b c : ByteArray) (h : (b.toList == lI) = true) (c1 : ∀ W, Calls Tryz.prog 24 #[.string a] W fun e w' => e = .returned (noBig 9) ∧ Below W.heap.size W w') (w : World) : Calls Tryz.prog 10 #[F4 2 a b c] w fun e w' => e = .returned (noBig 9) ∧ Below w.heap.size w w' := by
  have hb0 := ((Below.refl w.heap.size w).alloc (Nat.le_refl _) (.cells #[.int .i64 2, .string a, .string b, .string c] 23)).alloc (by simp) (.cells #[.bool false, .slice none 0 0] 37)
  have HB0 := Lib.hid hb0
  have HS0 := Lib.hid hb0.size
  clear hb0
  go_enter Tryz.func10, Tryz.ntmps10
  go_wp2_with (go_at_call 24; (with_reducible refine (c1 _).mono ?_); rintro e w3 ⟨rfl, hb3⟩; obtain ⟨hx, hy⟩ := box4 hb3; have HB := Lib.hid (HB0.out.trans (hb3.mono HS0.out)); have y0 := hy.cell 0; have y1 := hy.cell 1; have f0 := hy.free 0; have f1 := hy.free 1; simp at y0 y1; have hz := hy.lt)
  exact bodyPost_ret (v := noBig 9) (by simp [results, Tryz.results10, go_sem, y0, y1, hz]) rfl ⟨rfl, (((HB.out.setCell (by simp) _).setCell (by simp) _).alloc (by simpa using HB.out.size) _)⟩
theorem dat_other {w : World} {A : Option Addr} {l : List Int} {g : Nat} {x : Bool} {p : Option Addr} {n c : Nat} (h : DAt w A l) (hF : Fb w g 37 #[.bool x, .slice p n c]) (u v : Value) : DAt ((w.setCell ⟨g, 0, none⟩ u).setCell ⟨g, 1, none⟩ v) A l := by
  intro j y hy
  obtain ⟨ga, o, e, hg, hc⟩ := h j y hy
  have hne : ga ≠ g := by
    rintro rfl
    rw [hF.cell] at hc
    match o + j, hc with
    | 0, hc => simp at hc
    | 1, hc => simp at hc
    | k + 2, hc => simp at hc
  refine ⟨ga, o, e, by simpa [World.setCell] using hg, ?_⟩
  rw [World.cell?_of_block (Below.heap_setCell _ ⟨g, 1, none⟩ v ga hne), World.cell?_of_block (Below.heap_setCell w ⟨g, 0, none⟩ u ga hne)]
  exact hc
set_option maxRecDepth 100000 in
set_option maxHeartbeats 4000000 in
theorem rasInt_fit (a b c : ByteArray) (h : (b.toList == lI) = true) (z : Int) (c1 : ∀ W, Calls Tryz.prog 24 #[.string a] W (FitPost W z)) (w : World) : Calls Tryz.prog 10 #[F4 2 a b c] w (FitPost w z) := by
  have hb0 := ((Below.refl w.heap.size w).alloc (Nat.le_refl _) (.cells #[.int .i64 2, .string a, .string b, .string c] 23)).alloc (by simp) (.cells #[.bool false, .slice none 0 0] 37)
  have HB0 := Lib.hid hb0
  have HS0 := Lib.hid hb0.size
  clear hb0
  go_enter Tryz.func10, Tryz.ntmps10
  go_wp2_with (go_at_call 24; (with_reducible refine (c1 _).mono ?_); rintro e w3 ⟨v, rfl, hV, hb3⟩; obtain ⟨A, ca, rfl, hca, hA⟩ := id hV; obtain ⟨hx, hy⟩ := box4 hb3; have HB := Lib.hid (HB0.out.trans (hb3.mono HS0.out)); have y0 := hy.cell 0; have y1 := hy.cell 1; have f0 := hy.free 0; have f1 := hy.free 1; simp at y0 y1; have hz := hy.lt)
  refine bodyPost_ret (v := .tuple #[.agg #[.bool (decide (z < 0)), .slice A (digs z.natAbs).length ca], .int .i64 0]) (by simp [results, Tryz.results10, go_sem, y0, y1, hz]) rfl ⟨_, rfl, ⟨A, ca, rfl, hca, ?_⟩, ((HB.out.setCell (by simp) _).setCell (by simp) _).alloc (by simpa using HB.out.size) _⟩
  exact (dat_other hA hy _ _).below ((Below.refl _ _).alloc (Nat.le_refl _) _)
theorem rasInt_any (t : Tm) (hs : t.la.size ≤ 100000) (w : World) : Calls Tryz.prog 10 #[T4 t] w (RaPost w t) := by
  cases h : (t.isLit && (t.tb.toList == lI))
  · have e : asI t = (0, 10) := by
      unfold asI
      cases h1 : t.isLit
      · rfl
      · rw [h1, Bool.true_and] at h
        rw [h]
        rfl
    refine (rasInt_no t h w).mono fun e' w' hp => ?_
    unfold RaPost
    rw [e, if_neg (by decide)]
    exact hp
  · match t, h with
    | .lit a b c, h =>
      have hb : (b.toList == lI) = true := by simpa [Tm.isLit, Tm.tb] using h
      have hsa : a.size ≤ 100000 := hs
      have key : Calls Tryz.prog 10 #[F4 2 a b c] w (IntPost w a) := by
        cases hn : isNum a.data.toList
        · exact (rasInt_form a b c hb (fun W => (rparse_wide a hsa W).mono fun e w' hp => by unfold RpPost at hp; rw [if_pos hn] at hp; exact hp) w).mono fun e w' hp => intPost_no (asT_form hn) (by decide) hp
        · by_cases hf : F64 (numZ a.data.toList)
          · exact (rasInt_fit a b c hb (numZ a.data.toList) (fun W => (rparse_wide a hsa W).mono fun e w' hp => by unfold RpPost at hp; rw [if_neg (by rw [hn]; decide), if_pos hf] at hp; exact hp) w).mono fun e w' hp => intPost_yes (asT_fit hn hf) hp
          · exact (rasInt_over a b c hb (fun W => (rparse_wide a hsa W).mono fun e w' hp => by unfold RpPost at hp; rw [if_neg (by rw [hn]; decide), if_neg hf] at hp; exact hp) w).mono fun e w' hp => intPost_no (asT_over hn hf) (by decide) hp
      refine key.mono fun e w' hp => ?_
      unfold RaPost
      rw [asI_lit a b c hb]
      exact hp
end Go.Proofs.YtaoelnfflkkeeaaGreatDoor
