/-
  THE SCANNER's CALLS: End, Place, Peek, Next, Back.
-/
import Derived.Test.YtjnajpfolppniaaDoorNew
import Derived.Test.YtjnajpfolppniaaDoorKit
import Derived.Deep.QuietTactic
import Derived.BigQuiet
namespace Go.Proofs.YtjnajpfolppniaaDoor
open Go.RowKit
set_option linter.unusedVariables false

/-- A call that only reads: memory is as it was. -/
structure Same (w w' : World) : Prop where
  heap : w'.heap = w.heap
  os : w'.os = w.os
  tape : w'.tape = w.tape
  output : w'.output = w.output
theorem Same.refl (w : World) : Same w w := ⟨rfl, rfl, rfl, rfl⟩
theorem Same.trans {a b c : World} (h : Same a b) (k : Same b c) : Same a c := ⟨k.heap.trans h.heap, k.os.trans h.os, k.tape.trans h.tape, k.output.trans h.output⟩
theorem Same.below {B : Nat} {a b c : World} (h : Below B a b) (k : Same b c) : Below B a c :=
  ⟨k.os.trans h.os, k.tape.trans h.tape, k.output.trans h.output, by rw [k.heap]; exact h.size, fun i hi => by rw [k.heap]; exact h.block i hi⟩
theorem Same.sc {B : Nat} {w w' : World} {b : Nat} {v : Value} {sl : List Int} {k : Nat} (h : Sc B w b v sl k) (s : Same w w') : Sc B w' b v sl k :=
  ⟨by rw [s.heap]; exact h.blk, by have := h.row; unfold World.ownsRow at *; rw [s.heap]; exact this, h.ge⟩
theorem Same.ints {B : Nat} {w w' : World} {v : Value} {l : List Int} (h : Ints B w v l) (s : Same w w') : Ints B w' v l := by
  unfold Ints World.ownsRow at *; rw [s.heap]; exact h
theorem same_grown {w w' : World} (s : Same w w') (row : Option Nat) : w.grownBy w' row := ⟨s.os, s.tape, s.output, by rw [s.heap]; exact Nat.le_refl _, fun _ _ _ => by rw [s.heap]⟩
theorem grown_trans {a b c : World} {row : Option Nat} (h : a.grownBy b row) (k : b.grownBy c row) : a.grownBy c row := ⟨k.os.trans h.os, k.tape.trans h.tape, k.output.trans h.output, Nat.le_trans h.size k.size, fun i hi hr => (k.block i (Nat.lt_of_lt_of_le hi h.size) hr).trans (h.block i hi hr)⟩
theorem Sc.cell {B : Nat} {w : World} {b : Nat} {sl : List Int} {k : Nat} {g cap : Nat} {n : Nat} (h : Sc B w b (.slice (some ⟨g, 0, none⟩) n cap) sl k) (j : Nat) (x : Int) (hx : sl[j]? = some x) : w.cell? ⟨g, j, none⟩ = some (.int .i32 x) := by
  have := h.row.cells (g := g) rfl j (.int .i32 x) (by simp [runeRow, hx])
  by_cases hj : j = 0
  · subst hj; simpa [Addr.add] using this
  · simpa [Addr.add, hj] using this
theorem Sc.shape1 {B : Nat} {w : World} {b : Nat} {v : Value} {sl : List Int} {k : Nat} (h : Sc B w b v sl k) (hk : 0 < sl.length) : ∃ g cap, v = .slice (some ⟨g, 0, none⟩) sl.length cap ∧ sl.length ≤ cap := by
  rcases h.row.2 with ⟨hv, hl⟩ | ⟨g, cap, cur, hv, _, _, hc, _⟩
  · omega
  · exact ⟨g, cap, hv, hc⟩

set_option maxHeartbeats 1000000 in
theorem end_no {B : Nat} {w : World} {b : Nat} {v : Value} {sl : List Int} {k : Nat} (h : Sc B w b v sl k) (hk : k < sl.length) (hl : sl.length ≤ 4294967296) :
    Calls Tryd.prog 17 #[.pointer (some ⟨b, 0, none⟩)] w fun e w' => e = .returned (.bool false) ∧ Same w w' := by
  obtain ⟨ao, cap, rfl⟩ := h.shape
  have c0 := h.c0
  have c1 := h.c1
  have hB : ((k : Int) == (sl.length : Int)) = false := by simp; omega
  have hB2 : (k == sl.length) = false := by simp; omega
  clear h
  go_enter Tryd.func17, Tryd.ntmps17
  go_wp2
  go_quiet (fail)
  go_wp2
  go_ret
  exact ⟨ret_bool (by first | rfl | assumption), ⟨rfl, rfl, rfl, rfl⟩⟩
set_option maxHeartbeats 1000000 in
theorem end_yes {B : Nat} {w : World} {b : Nat} {v : Value} {sl : List Int} {k : Nat} (h : Sc B w b v sl k) (hk : k = sl.length) (hl : sl.length ≤ 4294967296) :
    Calls Tryd.prog 17 #[.pointer (some ⟨b, 0, none⟩)] w fun e w' => e = .returned (.bool true) ∧ Same w w' := by
  subst hk
  obtain ⟨ao, cap, rfl⟩ := h.shape
  have c0 := h.c0
  have c1 := h.c1
  clear h
  go_enter Tryd.func17, Tryd.ntmps17
  go_wp2
  go_quiet (fail)
  go_wp2
  go_ret
  exact ⟨ret_bool (by first | rfl | assumption | simp), ⟨rfl, rfl, rfl, rfl⟩⟩
theorem place_any {B : Nat} {w : World} {b : Nat} {v : Value} {sl : List Int} {k : Nat} (h : Sc B w b v sl k) :
    Calls Tryd.prog 18 #[.pointer (some ⟨b, 0, none⟩)] w fun e w' => e = .returned (.int .i64 k) ∧ Same w w' := by
  have c1 := h.c1
  clear h
  go_enter Tryd.func18, Tryd.ntmps18
  go_wp2
  go_ret
  exact ⟨rfl, ⟨rfl, rfl, rfl, rfl⟩⟩
set_option maxHeartbeats 1000000 in
theorem peek_sign {B : Nat} {w : World} {b : Nat} {v : Value} {sl : List Int} {k : Nat} {x : Int} (h : Sc B w b v sl k) (hx : sl[k]? = some x) (hl : sl.length ≤ 4294967296) :
    Calls Tryd.prog 16 #[.pointer (some ⟨b, 0, none⟩)] w fun e w' => e = .returned (.int .i32 x) ∧ Same w w' := by
  have hk : k < sl.length := (List.getElem?_eq_some_iff.1 hx).1
  have hE := end_no h hk hl
  have HS := Lib.hid h
  have HX := Lib.hid hx
  clear h hx
  go_enter Tryd.func16, Tryd.ntmps16
  go_wp2_with (go_at_call 17; (with_reducible refine hE.mono ?_); rintro e w1 ⟨rfl, hs⟩)
  have h1 := hs.sc HS.out
  obtain ⟨g, cap, rfl, hcap⟩ := h1.shape1 (by omega)
  have c0 := h1.c0
  have c1 := h1.c1
  have cc := h1.cell k x HX.out
  have k1 : (0 : Int) ≤ (k : Int) := by omega
  have k2 : (k : Int) < (sl.length : Int) := by omega
  have HH := Lib.hid hs
  clear h1 hs hE
  go_quiet (fail)
  go_wp2
  go_ret
  exact ⟨rfl, HH.out.trans ⟨rfl, rfl, rfl, rfl⟩⟩
theorem peek_end {B : Nat} {w : World} {b : Nat} {v : Value} {sl : List Int} {k : Nat} (h : Sc B w b v sl k) (hk : k = sl.length) (hl : sl.length ≤ 4294967296) :
    Calls Tryd.prog 16 #[.pointer (some ⟨b, 0, none⟩)] w fun e w' => e = .returned (.int .i32 (-1)) ∧ Same w w' := by
  have hE := end_yes h hk hl
  clear h
  go_enter Tryd.func16, Tryd.ntmps16
  go_wp2_with (go_at_call 17; (with_reducible refine hE.mono ?_); rintro e w1 ⟨rfl, hs⟩)
  go_ret
  exact ⟨rfl, hs⟩
/-- A call that may move the place. -/
def Moves (B : Nat) (w : World) (b : Nat) (v : Value) (sl : List Int) (k' : Nat) (w' : World) : Prop := Sc B w' b v sl k' ∧ w.grownBy w' (some b)
theorem next_end {B : Nat} {w : World} {b : Nat} {v : Value} {sl : List Int} {k : Nat} (h : Sc B w b v sl k) (hk : k = sl.length) (hl : sl.length ≤ 4294967296) :
    Calls Tryd.prog 7 #[.pointer (some ⟨b, 0, none⟩)] w fun e w' => e = .returned (.int .i32 (-1)) ∧ Same w w' := by
  have hP := peek_end h hk hl
  have hE : ∀ w1, Same w w1 → _ := fun w1 s => end_yes (s.sc h) hk hl
  clear h
  go_enter Tryd.func7, Tryd.ntmps7
  go_wp2_with (first
    | (go_at_call 16; (with_reducible refine hP.mono ?_); rintro e w1 ⟨rfl, hs⟩)
    | (go_at_call 17; (with_reducible refine (hE _ (by assumption)).mono ?_); rintro e w2 ⟨rfl, hs2⟩))
  go_ret
  exact ⟨rfl, hs.trans hs2⟩
set_option maxHeartbeats 1000000 in
theorem next_sign' {B : Nat} {w : World} {b : Nat} {v : Value} {sl : List Int} {k : Nat} {x : Int} (h : Sc B w b v sl k) (hx : sl[k]? = some x) (hl : sl.length ≤ 4294967296) :
    Calls Tryd.prog 7 #[.pointer (some ⟨b, 0, none⟩)] w fun e w' => e = .returned (.int .i32 x) ∧ Moves B w b v sl (k + 1) w' := by
  have hk : k < sl.length := (List.getElem?_eq_some_iff.1 hx).1
  have hP := peek_sign h hx hl
  have hE : ∀ w1, Same w w1 → _ := fun w1 s => end_no (s.sc h) hk hl
  have HS := Lib.hid h
  clear h hx
  go_enter Tryd.func7, Tryd.ntmps7
  go_wp2_with (first
    | (go_at_call 16; (with_reducible refine hP.mono ?_); rintro e w1 ⟨rfl, hs⟩)
    | (go_at_call 17; (with_reducible refine (hE _ (by assumption)).mono ?_); rintro e w2 ⟨rfl, hs2⟩; have h2 := (hs.trans hs2).sc HS.out; have c1 := h2.c1; have f1 := h2.f1))
  go_ret
  exact ⟨rfl, by exact h2.place (k + 1), grown_trans (same_grown (hs.trans hs2) (some b)) (grown_set w2 b 1 _)⟩
/-- Back to a place that is there. -/
theorem back_yes {B : Nat} {w : World} {b : Nat} {v : Value} {sl : List Int} {k : Nat} (h : Sc B w b v sl k) (j : Nat) (hj : j ≤ sl.length) (hl : sl.length ≤ 4294967296) :
    Calls Tryd.prog 15 #[.pointer (some ⟨b, 0, none⟩), .int .i64 j] w fun e w' => e = .returned (.bool true) ∧ Moves B w b v sl j w' := by
  obtain ⟨ao, cap, rfl⟩ := h.shape
  have c0 := h.c0
  have c1 := h.c1
  have f1 := h.f1
  have HS := Lib.hid h
  have k1 : ¬ (sl.length : Int) < (j : Int) := by omega
  have k2 : ¬ (j : Int) < 0 := by omega
  clear h
  go_enter Tryd.func15, Tryd.ntmps15
  go_wp2
  go_ret
  exact ⟨rfl, HS.out.place j, grown_set w b 1 _⟩
theorem back_no {B : Nat} {w : World} {b : Nat} {v : Value} {sl : List Int} {k : Nat} (h : Sc B w b v sl k) (j : Int) (hj : j < 0 ∨ (sl.length : Int) < j) (hl : sl.length ≤ 4294967296) :
    Calls Tryd.prog 15 #[.pointer (some ⟨b, 0, none⟩), .int .i64 j] w fun e w' => e = .returned (.bool false) ∧ Same w w' := by
  obtain ⟨ao, cap, rfl⟩ := h.shape
  have c0 := h.c0
  clear h
  rcases hj with hj | hj
  · go_enter Tryd.func15, Tryd.ntmps15
    go_wp2
    go_ret
    exact ⟨rfl, Same.refl _⟩
  · have k2 : ¬ j < 0 := by omega
    go_enter Tryd.func15, Tryd.ntmps15
    go_wp2
    go_ret
    exact ⟨rfl, Same.refl _⟩

/-- WHAT A LAW HOLDS: a scanner at place k, the document's signs, nothing older turned. -/
def TS (w : World) (b : Nat) (v vI : Value) (sl : List Int) (k : Nat) (W : World) : Prop := Sc w.heap.size W b v sl k ∧ Ints w.heap.size W vI sl ∧ Below w.heap.size w W
theorem TS.same {w : World} {b : Nat} {v vI : Value} {sl : List Int} {k : Nat} {W W' : World} (h : TS w b v vI sl k W) (s : Same W W') : TS w b v vI sl k W' := ⟨s.sc h.1, s.ints h.2.1, s.below h.2.2⟩
theorem TS.moves {w : World} {b : Nat} {v vI : Value} {sl : List Int} {k k' : Nat} {W W' : World} (h : TS w b v vI sl k W) (m : Moves w.heap.size W b v sl k' W') : TS w b v vI sl k' W' := by
  refine ⟨m.1, ?_, h.2.2.grown m.2 h.2.2.size (fun j hj => by cases hj; exact h.1.ge)⟩
  refine h.2.1.kept m.2 (Or.inr ?_)
  intro e
  rcases h.2.1.2 with ⟨hv, _⟩ | ⟨g, cap, cur, hv, _, hg, _⟩
  · rw [hv] at e; cases e
  · rw [hv] at e
    simp [Value.ownBlock] at e
    subst e
    rw [h.1.blk] at hg
    cases hg
def EverT (P : World → Prop) (f : FuncId) (args : Array Value) (x : Ending) (Q : World → Prop) : Prop := ∀ W, P W → Calls Tryd.prog f args W fun e w' => e = x ∧ Q w'
theorem EverT.at {P Q : World → Prop} {f : FuncId} {args : Array Value} {x : Ending} (h : EverT P f args x Q) {W : World} (hp : P W) : Calls Tryd.prog f args W fun e w' => e = x ∧ Q w' := h W hp
section
variable {w : World} {b : Nat} {v vI : Value} {sl : List Int} {k : Nat}
theorem ts_end_no (hk : k < sl.length) (hl : sl.length ≤ 4294967296) : EverT (TS w b v vI sl k) 17 #[.pointer (some ⟨b, 0, none⟩)] (.returned (.bool false)) (TS w b v vI sl k) :=
  fun _ h => (end_no h.1 hk hl).mono fun _ _ ⟨x, y⟩ => ⟨x, h.same y⟩
theorem ts_end_yes (hk : k = sl.length) (hl : sl.length ≤ 4294967296) : EverT (TS w b v vI sl k) 17 #[.pointer (some ⟨b, 0, none⟩)] (.returned (.bool true)) (TS w b v vI sl k) :=
  fun _ h => (end_yes h.1 hk hl).mono fun _ _ ⟨x, y⟩ => ⟨x, h.same y⟩
theorem ts_place : EverT (TS w b v vI sl k) 18 #[.pointer (some ⟨b, 0, none⟩)] (.returned (.int .i64 k)) (TS w b v vI sl k) :=
  fun _ h => (place_any h.1).mono fun _ _ ⟨x, y⟩ => ⟨x, h.same y⟩
theorem ts_peek {x : Int} (hx : sl[k]? = some x) (hl : sl.length ≤ 4294967296) : EverT (TS w b v vI sl k) 16 #[.pointer (some ⟨b, 0, none⟩)] (.returned (.int .i32 x)) (TS w b v vI sl k) :=
  fun _ h => (peek_sign h.1 hx hl).mono fun _ _ ⟨x, y⟩ => ⟨x, h.same y⟩
theorem ts_peek_end (hk : k = sl.length) (hl : sl.length ≤ 4294967296) : EverT (TS w b v vI sl k) 16 #[.pointer (some ⟨b, 0, none⟩)] (.returned (.int .i32 (-1))) (TS w b v vI sl k) :=
  fun _ h => (peek_end h.1 hk hl).mono fun _ _ ⟨x, y⟩ => ⟨x, h.same y⟩
theorem ts_next {x : Int} (hx : sl[k]? = some x) (hl : sl.length ≤ 4294967296) : EverT (TS w b v vI sl k) 7 #[.pointer (some ⟨b, 0, none⟩)] (.returned (.int .i32 x)) (TS w b v vI sl (k + 1)) :=
  fun _ h => (next_sign' h.1 hx hl).mono fun _ _ ⟨x, y⟩ => ⟨x, h.moves y⟩
theorem ts_next_end (hk : k = sl.length) (hl : sl.length ≤ 4294967296) : EverT (TS w b v vI sl k) 7 #[.pointer (some ⟨b, 0, none⟩)] (.returned (.int .i32 (-1))) (TS w b v vI sl k) :=
  fun _ h => (next_end h.1 hk hl).mono fun _ _ ⟨x, y⟩ => ⟨x, h.same y⟩
theorem ts_back (j : Nat) (hj : j ≤ sl.length) (hl : sl.length ≤ 4294967296) : EverT (TS w b v vI sl k) 15 #[.pointer (some ⟨b, 0, none⟩), .int .i64 j] (.returned (.bool true)) (TS w b v vI sl j) :=
  fun _ h => (back_yes h.1 j hj hl).mono fun _ _ ⟨x, y⟩ => ⟨x, h.moves y⟩
theorem ts_back_no (j : Int) (hj : j < 0 ∨ (sl.length : Int) < j) (hl : sl.length ≤ 4294967296) : EverT (TS w b v vI sl k) 15 #[.pointer (some ⟨b, 0, none⟩), .int .i64 j] (.returned (.bool false)) (TS w b v vI sl k) :=
  fun _ h => (back_no h.1 j hj hl).mono fun _ _ ⟨x, y⟩ => ⟨x, h.same y⟩
end
end Go.Proofs.YtjnajpfolppniaaDoor
