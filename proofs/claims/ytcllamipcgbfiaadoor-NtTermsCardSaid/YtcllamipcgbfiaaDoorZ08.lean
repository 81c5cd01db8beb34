/-
  MERGED (a claim has at most 60 files): Kit, Meth, Esc.
-/
import Derived.Test.YtcllamipcgbfiaaDoorZ05
import Derived.Test.YtcllamipcgbfiaaDoorZ07
import Derived.Deep.QuietTactic
import Derived.BigQuiet
/-
  WHAT THE LAWS SHARE: each contract over every world that is the first one below its size.
-/
namespace Go.Proofs.YtcllamipcgbfiaaDoor
open Go.RowKit

/-- In every world that is w below w's size: the call ends so, and so it stays. -/
def Ever (w : World) (f : FuncId) (args : Array Value) (x : Ending) : Prop := ∀ W, Below w.heap.size w W → Calls Tryd.prog f args W fun e w' => e = x ∧ Below w.heap.size w w'
theorem ever_of {w : World} {f : FuncId} {args : Array Value} {x : Ending} (h : ∀ W, Calls Tryd.prog f args W fun e w' => e = x ∧ Below W.heap.size W w') : Ever w f args x :=
  fun W hb => (h W).mono fun _ _ ⟨a, b⟩ => ⟨a, hb.trans (b.mono hb.size)⟩
theorem Ever.at {w : World} {f : FuncId} {args : Array Value} {x : Ending} (h : Ever w f args x) {W : World} (hb : Below w.heap.size w W) : Calls Tryd.prog f args W fun e w' => e = x ∧ Below w.heap.size w w' := h W hb
theorem ints_shape {B : Nat} {w : World} {v : Value} {l : List Int} (h : Ints B w v l) : ∃ ao cap, v = .slice ao l.length cap := by
  rcases h.2 with ⟨hv, hl⟩ | ⟨g, cap, cur, hv, _⟩
  · exact ⟨none, 0, by rw [hv, hl]⟩
  · exact ⟨_, cap, hv⟩
theorem Parts.size {s : ByteArray} {sl : List Int} {rest : List UInt8} (h : Parts s.data.toList sl rest) : s.size = (encL sl).length + rest.length := by rw [len_of s _ h.eq]; simp
theorem Parts.join {a b : ByteArray} {la lb : List Int} (h : Parts a.data.toList la []) (k : Parts b.data.toList lb []) : Parts (a ++ b).data.toList (la ++ lb) [] := by
  refine ⟨?_, h.all.append k.all, .inl rfl⟩
  rw [encL_append, List.append_nil, ← (show encL la ++ [] = encL la from List.append_nil _), ← (show encL lb ++ [] = encL lb from List.append_nil _), ← h.eq, ← k.eq]
  simp
theorem Parts.nil {s : ByteArray} {sl : List Int} (h : Parts s.data.toList sl []) : s.data.toList = encL sl := by rw [h.eq, List.append_nil]
/-- The bytes of signs. -/
def textOf (l : List Int) : ByteArray := ⟨(encL l).toArray⟩
theorem textOf_list (l : List Int) : (textOf l).data.toList = encL l := by simp [textOf]
theorem Parts.text {s : ByteArray} {sl : List Int} (h : Parts s.data.toList sl []) : s = textOf sl := by
  obtain ⟨⟨d⟩⟩ := s
  have := h.nil
  simp at this
  rw [this]; rfl
theorem parts_text {l : List Int} (h : AllS l) : Parts (textOf l).data.toList l [] := ⟨by rw [textOf_list, List.append_nil], h, .inl rfl⟩
/-- What Quote makes of a text. -/
def quo (l : List Int) : ByteArray := ⟨(quoteL l).toArray⟩
theorem quo_list (l : List Int) : (quo l).data.toList = quoteL l := by simp [quo]
theorem quo_size (l : List Int) : (quo l).size = (quoteL l).length := by rw [Lib.size_eq, quo_list]
theorem quoteL_len (l : List Int) : 2 ≤ (quoteL l).length ∧ (quoteL l).length ≤ 6 * l.length + 2 := by
  have := escL_len l
  simp [quoteL]; omega
theorem ever_quote {w : World} {t : TypeId} {fr : Nat × Nat} (htab : w.heap[0]? = some (.cells escCells t fr)) {s : ByteArray} {sl : List Int} (hp : Parts s.data.toList sl []) (hs : s.size ≤ 4294967296) : Ever w 101 #[.string s] (.returned (.string (quo sl))) := by
  intro W hb
  have h0 : 0 < w.heap.size := (Array.getElem?_eq_some_iff.1 htab).1
  exact (quote_any s sl W hp.nil hp.all hs t fr (tab_below htab hb h0)).mono fun _ _ ⟨a, b⟩ => ⟨a, hb.trans (b.mono hb.size)⟩
theorem bytes_extD {a b : ByteArray} (h : a.data.toList = b.data.toList) : a = b := by
  obtain ⟨⟨x⟩⟩ := a
  obtain ⟨⟨y⟩⟩ := b
  simp at h
  rw [h]
theorem quo_join (a b : List Int) : quo (a ++ b) = (quo a).extract 0 ((quo a).size - 1) ++ (quo b).extract 1 (quo b).size := by
  apply bytes_extD
  have e1 : ((quo a).extract 0 ((quo a).size - 1)).data.toList = 34 :: escL a := by
    rw [Lib.extract_data, quo_list, quo_size]
    unfold quoteL
    simp
  have e2 : ((quo b).extract 1 (quo b).size).data.toList = escL b ++ [34] := by
    rw [extract_end, quo_list]
    unfold quoteL
    simp
  have e3 : ((quo a).extract 0 ((quo a).size - 1) ++ (quo b).extract 1 (quo b).size).data.toList = ((quo a).extract 0 ((quo a).size - 1)).data.toList ++ ((quo b).extract 1 (quo b).size).data.toList := by simp
  rw [e3, e1, e2, quo_list]
  simp [quoteL, escL]
end Go.Proofs.YtcllamipcgbfiaaDoor

/-
  THE SCANNER's CALLS: End, Place, Peek, Next, Back.
-/
namespace Go.Proofs.YtcllamipcgbfiaaDoor
open Go.RowKit
set_option linter.unusedVariables false

/-- A call that only reads: memory is as it was. -/
structure Same (w w' : World) : Prop where
  heap : w'.heap = w.heap
  os : w'.os = w.os
  tape : w'.tape = w.tape
  output : w'.output = w.output
theorem Same.refl (w : World) : Same w w := ⟨rfl, rfl, rfl, rfl⟩
theorem Same.trans {a b c : World} (h : Same a b) (k : Same b c) : Same a c := ⟨k.heap.trans h.heap, k.os.trans h.os, k.tape.trans h.tape, k.output.trans h.output⟩
theorem Same.below {B : Nat} {a b c : World} (h : Below B a b) (k : Same b c) : Below B a c :=
  ⟨k.os.trans h.os, k.tape.trans h.tape, k.output.trans h.output, by rw [k.heap]; exact h.size, fun i hi => by rw [k.heap]; exact h.block i hi⟩
theorem Same.sc {B : Nat} {w w' : World} {b : Nat} {v : Value} {sl : List Int} {k : Nat} (h : Sc B w b v sl k) (s : Same w w') : Sc B w' b v sl k :=
  ⟨by rw [s.heap]; exact h.blk, by have := h.row; unfold World.ownsRow at *; rw [s.heap]; exact this, h.ge⟩
theorem Same.ints {B : Nat} {w w' : World} {v : Value} {l : List Int} (h : Ints B w v l) (s : Same w w') : Ints B w' v l := by
  unfold Ints World.ownsRow at *; rw [s.heap]; exact h
theorem same_grown {w w' : World} (s : Same w w') (row : Option Nat) : w.grownBy w' row := ⟨s.os, s.tape, s.output, by rw [s.heap]; exact Nat.le_refl _, fun _ _ _ => by rw [s.heap]⟩
theorem grown_trans {a b c : World} {row : Option Nat} (h : a.grownBy b row) (k : b.grownBy c row) : a.grownBy c row := ⟨k.os.trans h.os, k.tape.trans h.tape, k.output.trans h.output, Nat.le_trans h.size k.size, fun i hi hr => (k.block i (Nat.lt_of_lt_of_le hi h.size) hr).trans (h.block i hi hr)⟩
theorem Sc.cell {B : Nat} {w : World} {b : Nat} {sl : List Int} {k : Nat} {g cap : Nat} {n : Nat} (h : Sc B w b (.slice (some ⟨g, 0, none⟩) n cap) sl k) (j : Nat) (x : Int) (hx : sl[j]? = some x) : w.cell? ⟨g, j, none⟩ = some (.int .i32 x) := by
  have := h.row.cells (g := g) rfl j (.int .i32 x) (by simp [runeRow, hx])
  by_cases hj : j = 0
  · subst hj; simpa [Addr.add] using this
  · simpa [Addr.add, hj] using this
theorem Sc.shape1 {B : Nat} {w : World} {b : Nat} {v : Value} {sl : List Int} {k : Nat} (h : Sc B w b v sl k) (hk : 0 < sl.length) : ∃ g cap, v = .slice (some ⟨g, 0, none⟩) sl.length cap ∧ sl.length ≤ cap := by
  rcases h.row.2 with ⟨hv, hl⟩ | ⟨g, cap, cur, hv, _, _, hc, _⟩
  · omega
  · exact ⟨g, cap, hv, hc⟩

set_option maxHeartbeats 1000000 in
theorem end_no {B : Nat} {w : World} {b : Nat} {v : Value} {sl : List Int} {k : Nat} (h : Sc B w b v sl k) (hk : k < sl.length) (hl : sl.length ≤ 4294967296) :
    Calls Tryd.prog 63 #[.pointer (some ⟨b, 0, none⟩)] w fun e w' => e = .returned (.bool false) ∧ Same w w' := by
  obtain ⟨ao, cap, rfl⟩ := h.shape
  have c0 := h.c0
  have c1 := h.c1
  have hB : ((k : Int) == (sl.length : Int)) = false := by simp; omega
  have hB2 : (k == sl.length) = false := by simp; omega
  clear h
  go_enter Tryd.func63, Tryd.ntmps63
  go_wp2
  go_quiet (fail)
  go_wp2
  go_ret
  exact ⟨ret_bool (by first | rfl | assumption), ⟨rfl, rfl, rfl, rfl⟩⟩
set_option maxHeartbeats 1000000 in
theorem end_yes {B : Nat} {w : World} {b : Nat} {v : Value} {sl : List Int} {k : Nat} (h : Sc B w b v sl k) (hk : k = sl.length) (hl : sl.length ≤ 4294967296) :
    Calls Tryd.prog 63 #[.pointer (some ⟨b, 0, none⟩)] w fun e w' => e = .returned (.bool true) ∧ Same w w' := by
  subst hk
  obtain ⟨ao, cap, rfl⟩ := h.shape
  have c0 := h.c0
  have c1 := h.c1
  clear h
  go_enter Tryd.func63, Tryd.ntmps63
  go_wp2
  go_quiet (fail)
  go_wp2
  go_ret
  exact ⟨ret_bool (by first | rfl | assumption | simp), ⟨rfl, rfl, rfl, rfl⟩⟩
theorem place_any {B : Nat} {w : World} {b : Nat} {v : Value} {sl : List Int} {k : Nat} (h : Sc B w b v sl k) :
    Calls Tryd.prog 24 #[.pointer (some ⟨b, 0, none⟩)] w fun e w' => e = .returned (.int .i64 k) ∧ Same w w' := by
  have c1 := h.c1
  clear h
  go_enter Tryd.func24, Tryd.ntmps24
  go_wp2
  go_ret
  exact ⟨rfl, ⟨rfl, rfl, rfl, rfl⟩⟩
set_option maxHeartbeats 1000000 in
theorem peek_sign {B : Nat} {w : World} {b : Nat} {v : Value} {sl : List Int} {k : Nat} {x : Int} (h : Sc B w b v sl k) (hx : sl[k]? = some x) (hl : sl.length ≤ 4294967296) :
    Calls Tryd.prog 87 #[.pointer (some ⟨b, 0, none⟩)] w fun e w' => e = .returned (.int .i32 x) ∧ Same w w' := by
  have hk : k < sl.length := (List.getElem?_eq_some_iff.1 hx).1
  have hE := end_no h hk hl
  have HS := Lib.hid h
  have HX := Lib.hid hx
  clear h hx
  go_enter Tryd.func87, Tryd.ntmps87
  go_wp2_with (go_at_call 63; (with_reducible refine hE.mono ?_); rintro e w1 ⟨rfl, hs⟩)
  have h1 := hs.sc HS.out
  obtain ⟨g, cap, rfl, hcap⟩ := h1.shape1 (by omega)
  have c0 := h1.c0
  have c1 := h1.c1
  have cc := h1.cell k x HX.out
  have k1 : (0 : Int) ≤ (k : Int) := by omega
  have k2 : (k : Int) < (sl.length : Int) := by omega
  have HH := Lib.hid hs
  clear h1 hs hE
  go_quiet (fail)
  go_wp2
  go_ret
  exact ⟨rfl, HH.out.trans ⟨rfl, rfl, rfl, rfl⟩⟩
theorem peek_end {B : Nat} {w : World} {b : Nat} {v : Value} {sl : List Int} {k : Nat} (h : Sc B w b v sl k) (hk : k = sl.length) (hl : sl.length ≤ 4294967296) :
    Calls Tryd.prog 87 #[.pointer (some ⟨b, 0, none⟩)] w fun e w' => e = .returned (.int .i32 (-1)) ∧ Same w w' := by
  have hE := end_yes h hk hl
  clear h
  go_enter Tryd.func87, Tryd.ntmps87
  go_wp2_with (go_at_call 63; (with_reducible refine hE.mono ?_); rintro e w1 ⟨rfl, hs⟩)
  go_ret
  exact ⟨rfl, hs⟩
/-- A call that may move the place. -/
def Moves (B : Nat) (w : World) (b : Nat) (v : Value) (sl : List Int) (k' : Nat) (w' : World) : Prop := Sc B w' b v sl k' ∧ w.grownBy w' (some b)
theorem next_end {B : Nat} {w : World} {b : Nat} {v : Value} {sl : List Int} {k : Nat} (h : Sc B w b v sl k) (hk : k = sl.length) (hl : sl.length ≤ 4294967296) :
    Calls Tryd.prog 90 #[.pointer (some ⟨b, 0, none⟩)] w fun e w' => e = .returned (.int .i32 (-1)) ∧ Same w w' := by
  have hP := peek_end h hk hl
  have hE : ∀ w1, Same w w1 → _ := fun w1 s => end_yes (s.sc h) hk hl
  clear h
  go_enter Tryd.func90, Tryd.ntmps90
  go_wp2_with (first
    | (go_at_call 87; (with_reducible refine hP.mono ?_); rintro e w1 ⟨rfl, hs⟩)
    | (go_at_call 63; (with_reducible refine (hE _ (by assumption)).mono ?_); rintro e w2 ⟨rfl, hs2⟩))
  go_ret
  exact ⟨rfl, hs.trans hs2⟩
set_option maxHeartbeats 1000000 in
theorem next_sign' {B : Nat} {w : World} {b : Nat} {v : Value} {sl : List Int} {k : Nat} {x : Int} (h : Sc B w b v sl k) (hx : sl[k]? = some x) (hl : sl.length ≤ 4294967296) :
    Calls Tryd.prog 90 #[.pointer (some ⟨b, 0, none⟩)] w fun e w' => e = .returned (.int .i32 x) ∧ Moves B w b v sl (k + 1) w' := by
  have hk : k < sl.length := (List.getElem?_eq_some_iff.1 hx).1
  have hP := peek_sign h hx hl
  have hE : ∀ w1, Same w w1 → _ := fun w1 s => end_no (s.sc h) hk hl
  have HS := Lib.hid h
  clear h hx
  go_enter Tryd.func90, Tryd.ntmps90
  go_wp2_with (first
    | (go_at_call 87; (with_reducible refine hP.mono ?_); rintro e w1 ⟨rfl, hs⟩)
    | (go_at_call 63; (with_reducible refine (hE _ (by assumption)).mono ?_); rintro e w2 ⟨rfl, hs2⟩; have h2 := (hs.trans hs2).sc HS.out; have c1 := h2.c1; have f1 := h2.f1))
  go_ret
  exact ⟨rfl, by exact h2.place (k + 1), grown_trans (same_grown (hs.trans hs2) (some b)) (grown_set w2 b 1 _)⟩
/-- Back to a place that is there. -/
theorem back_yes {B : Nat} {w : World} {b : Nat} {v : Value} {sl : List Int} {k : Nat} (h : Sc B w b v sl k) (j : Nat) (hj : j ≤ sl.length) (hl : sl.length ≤ 4294967296) :
    Calls Tryd.prog 21 #[.pointer (some ⟨b, 0, none⟩), .int .i64 j] w fun e w' => e = .returned (.bool true) ∧ Moves B w b v sl j w' := by
  obtain ⟨ao, cap, rfl⟩ := h.shape
  have c0 := h.c0
  have c1 := h.c1
  have f1 := h.f1
  have HS := Lib.hid h
  have k1 : ¬ (sl.length : Int) < (j : Int) := by omega
  have k2 : ¬ (j : Int) < 0 := by omega
  clear h
  go_enter Tryd.func21, Tryd.ntmps21
  go_wp2
  go_ret
  exact ⟨rfl, HS.out.place j, grown_set w b 1 _⟩
theorem back_no {B : Nat} {w : World} {b : Nat} {v : Value} {sl : List Int} {k : Nat} (h : Sc B w b v sl k) (j : Int) (hj : j < 0 ∨ (sl.length : Int) < j) (hl : sl.length ≤ 4294967296) :
    Calls Tryd.prog 21 #[.pointer (some ⟨b, 0, none⟩), .int .i64 j] w fun e w' => e = .returned (.bool false) ∧ Same w w' := by
  obtain ⟨ao, cap, rfl⟩ := h.shape
  have c0 := h.c0
  clear h
  rcases hj with hj | hj
  · go_enter Tryd.func21, Tryd.ntmps21
    go_wp2
    go_ret
    exact ⟨rfl, Same.refl _⟩
  · have k2 : ¬ j < 0 := by omega
    go_enter Tryd.func21, Tryd.ntmps21
    go_wp2
    go_ret
    exact ⟨rfl, Same.refl _⟩

/-- WHAT A LAW HOLDS: a scanner at place k, the document's signs, nothing older turned. -/
def TS (w : World) (b : Nat) (v vI : Value) (sl : List Int) (k : Nat) (W : World) : Prop := Sc w.heap.size W b v sl k ∧ Ints w.heap.size W vI sl ∧ Below w.heap.size w W
theorem TS.same {w : World} {b : Nat} {v vI : Value} {sl : List Int} {k : Nat} {W W' : World} (h : TS w b v vI sl k W) (s : Same W W') : TS w b v vI sl k W' := ⟨s.sc h.1, s.ints h.2.1, s.below h.2.2⟩
theorem TS.moves {w : World} {b : Nat} {v vI : Value} {sl : List Int} {k k' : Nat} {W W' : World} (h : TS w b v vI sl k W) (m : Moves w.heap.size W b v sl k' W') : TS w b v vI sl k' W' := by
  refine ⟨m.1, ?_, h.2.2.grown m.2 h.2.2.size (fun j hj => by cases hj; exact h.1.ge)⟩
  refine h.2.1.kept m.2 (Or.inr ?_)
  intro e
  rcases h.2.1.2 with ⟨hv, _⟩ | ⟨g, cap, cur, hv, _, hg, _⟩
  · rw [hv] at e; cases e
  · rw [hv] at e
    simp [Value.ownBlock] at e
    subst e
    rw [h.1.blk] at hg
    cases hg
def EverT (P : World → Prop) (f : FuncId) (args : Array Value) (x : Ending) (Q : World → Prop) : Prop := ∀ W, P W → Calls Tryd.prog f args W fun e w' => e = x ∧ Q w'
theorem EverT.at {P Q : World → Prop} {f : FuncId} {args : Array Value} {x : Ending} (h : EverT P f args x Q) {W : World} (hp : P W) : Calls Tryd.prog f args W fun e w' => e = x ∧ Q w' := h W hp
section
variable {w : World} {b : Nat} {v vI : Value} {sl : List Int} {k : Nat}
theorem ts_end_no (hk : k < sl.length) (hl : sl.length ≤ 4294967296) : EverT (TS w b v vI sl k) 63 #[.pointer (some ⟨b, 0, none⟩)] (.returned (.bool false)) (TS w b v vI sl k) :=
  fun _ h => (end_no h.1 hk hl).mono fun _ _ ⟨x, y⟩ => ⟨x, h.same y⟩
theorem ts_end_yes (hk : k = sl.length) (hl : sl.length ≤ 4294967296) : EverT (TS w b v vI sl k) 63 #[.pointer (some ⟨b, 0, none⟩)] (.returned (.bool true)) (TS w b v vI sl k) :=
  fun _ h => (end_yes h.1 hk hl).mono fun _ _ ⟨x, y⟩ => ⟨x, h.same y⟩
theorem ts_place : EverT (TS w b v vI sl k) 24 #[.pointer (some ⟨b, 0, none⟩)] (.returned (.int .i64 k)) (TS w b v vI sl k) :=
  fun _ h => (place_any h.1).mono fun _ _ ⟨x, y⟩ => ⟨x, h.same y⟩
theorem ts_peek {x : Int} (hx : sl[k]? = some x) (hl : sl.length ≤ 4294967296) : EverT (TS w b v vI sl k) 87 #[.pointer (some ⟨b, 0, none⟩)] (.returned (.int .i32 x)) (TS w b v vI sl k) :=
  fun _ h => (peek_sign h.1 hx hl).mono fun _ _ ⟨x, y⟩ => ⟨x, h.same y⟩
theorem ts_peek_end (hk : k = sl.length) (hl : sl.length ≤ 4294967296) : EverT (TS w b v vI sl k) 87 #[.pointer (some ⟨b, 0, none⟩)] (.returned (.int .i32 (-1))) (TS w b v vI sl k) :=
  fun _ h => (peek_end h.1 hk hl).mono fun _ _ ⟨x, y⟩ => ⟨x, h.same y⟩
theorem ts_next {x : Int} (hx : sl[k]? = some x) (hl : sl.length ≤ 4294967296) : EverT (TS w b v vI sl k) 90 #[.pointer (some ⟨b, 0, none⟩)] (.returned (.int .i32 x)) (TS w b v vI sl (k + 1)) :=
  fun _ h => (next_sign' h.1 hx hl).mono fun _ _ ⟨x, y⟩ => ⟨x, h.moves y⟩
theorem ts_next_end (hk : k = sl.length) (hl : sl.length ≤ 4294967296) : EverT (TS w b v vI sl k) 90 #[.pointer (some ⟨b, 0, none⟩)] (.returned (.int .i32 (-1))) (TS w b v vI sl k) :=
  fun _ h => (next_end h.1 hk hl).mono fun _ _ ⟨x, y⟩ => ⟨x, h.same y⟩
theorem ts_back (j : Nat) (hj : j ≤ sl.length) (hl : sl.length ≤ 4294967296) : EverT (TS w b v vI sl k) 21 #[.pointer (some ⟨b, 0, none⟩), .int .i64 j] (.returned (.bool true)) (TS w b v vI sl j) :=
  fun _ h => (back_yes h.1 j hj hl).mono fun _ _ ⟨x, y⟩ => ⟨x, h.moves y⟩
theorem ts_back_no (j : Int) (hj : j < 0 ∨ (sl.length : Int) < j) (hl : sl.length ≤ 4294967296) : EverT (TS w b v vI sl k) 21 #[.pointer (some ⟨b, 0, none⟩), .int .i64 j] (.returned (.bool false)) (TS w b v vI sl k) :=
  fun _ h => (back_no h.1 j hj hl).mono fun _ _ ⟨x, y⟩ => ⟨x, h.same y⟩
end
end Go.Proofs.YtcllamipcgbfiaaDoor

/-
  PLAIN LEAN, NO RUN: the signs of a quoted text: none is a control; unlike texts are quoted unlike.
-/
namespace Go.Proofs.YtcllamipcgbfiaaDoor
set_option linter.unusedVariables false

def hx (x : Int) : Int := if x < 10 then 48 + x else 55 + x
/-- What Quote writes of a sign, as signs. -/
def escS (n : Int) : List Int := if lett n ≠ 0 then [92, lett n] else if cls n = 4 then [92, 117, 48, 48, hx (n / 16), hx (n % 16)] else [n]
def bodyS (l : List Int) : List Int := l.flatMap escS
def quoS (l : List Int) : List Int := 34 :: bodyS l ++ [34]
theorem enc_ascii (m : Int) (h0 : 0 ≤ m) (h1 : m < 128) : Lib.encodeRune m = [m.toNat.toUInt8] := by
  unfold Lib.encodeRune
  rw [Lib.encodeRuneZ_one h0 (by omega)]
  rfl
theorem encL_one (m : Int) (t : List Int) (h0 : 0 ≤ m) (h1 : m < 128) : encL (m :: t) = m.toNat.toUInt8 :: encL t := by
  rw [encL_cons, enc_ascii m h0 h1]; rfl
theorem lett_range (n : Int) (h : lett n ≠ 0) : 0 ≤ lett n ∧ lett n < 128 := by unfold lett at *; omega
theorem cls4_range (n : Int) (h : cls n = 4) : 0 ≤ n ∧ n < 160 := by unfold cls at h; omega
theorem hx_range (x : Int) (h0 : 0 ≤ x) (h1 : x < 16) : 48 ≤ hx x ∧ hx x < 71 := by unfold hx; omega
theorem escS_bytes (n : Int) : encL (escS n) = esc n := by
  unfold escS esc
  split
  · rename_i h
    have := lett_range n h
    rw [encL_one _ _ (by omega) (by omega), encL_one _ _ this.1 this.2]
    rfl
  · split
    · rename_i h
      have := cls4_range n h
      have h1 := hx_range (n / 16) (by omega) (by omega)
      have h2 := hx_range (n % 16) (by omega) (by omega)
      rw [encL_one _ _ (by omega) (by omega), encL_one _ _ (by omega) (by omega), encL_one _ _ (by omega) (by omega), encL_one _ _ (by omega) (by omega), encL_one _ _ (by omega) (by omega), encL_one _ _ (by omega) (by omega)]
      rfl
    · simp [encL]
theorem bodyS_bytes (l : List Int) : encL (bodyS l) = escL l := by
  induction l with
  | nil => rfl
  | cons n t ih => unfold bodyS escL at *; rw [List.flatMap_cons, List.flatMap_cons, encL_append, ih, escS_bytes]
theorem quoS_bytes (l : List Int) : encL (quoS l) = quoteL l := by
  unfold quoS quoteL
  rw [List.cons_append, encL_one _ _ (by omega) (by omega), encL_append, bodyS_bytes, encL_one _ _ (by omega) (by omega)]
  rfl
/-- A sign that may stand in a quoted text. -/
def okQ (n : Int) : Prop := sgn n = true ∧ cls n ≠ 4 ∧ n ≠ 9 ∧ n ≠ 10 ∧ n ≠ 13
theorem okS_plain (n : Int) (h0 : 33 ≤ n) (h1 : n ≤ 126) : okQ n := by
  refine ⟨(sgn_iff n).2 (by omega), ?_, by omega, by omega, by omega⟩
  unfold cls; omega
theorem escS_ok (n : Int) (h : sgn n = true) : ∀ m ∈ escS n, okQ m := by
  intro m hm
  unfold escS at hm
  split at hm
  · rename_i hl
    have h33 : 33 ≤ lett n ∧ lett n ≤ 126 := by unfold lett at *; omega
    simp at hm
    rcases hm with rfl | rfl
    · exact okS_plain _ (by omega) (by omega)
    · exact okS_plain _ h33.1 h33.2
  · rename_i hl
    split at hm
    · rename_i hc
      have := cls4_range n hc
      have h1 := hx_range (n / 16) (by omega) (by omega)
      have h2 := hx_range (n % 16) (by omega) (by omega)
      simp at hm
      rcases hm with rfl | rfl | rfl | rfl | rfl <;> exact okS_plain _ (by omega) (by omega)
    · rename_i hc
      simp at hm
      subst hm
      refine ⟨h, hc, ?_, ?_, ?_⟩ <;> (intro e; subst e; exact hl (by decide))
theorem quoS_ok (l : List Int) (h : AllS l) : ∀ m ∈ quoS l, okQ m := by
  intro m hm
  unfold quoS bodyS at hm
  simp at hm
  rcases hm with rfl | ⟨n, hn, hm⟩ | rfl
  · exact okS_plain _ (by omega) (by omega)
  · exact escS_ok n (h n hn) m hm
  · exact okS_plain _ (by omega) (by omega)
theorem quoS_parts (l : List Int) (h : AllS l) : Parts (quo l).data.toList (quoS l) [] :=
  ⟨by rw [quo_list, quoS_bytes, List.append_nil], fun m hm => (quoS_ok l h m hm).1, .inl rfl⟩
/-- Read back: one sign. -/
def unesc : List Int → Option (Int × List Int)
  | 92 :: 117 :: _ :: _ :: x :: y :: t => some (16 * hexv x + hexv y, t)
  | 92 :: c :: t => some ((if c = 116 then 9 else if c = 110 then 10 else if c = 114 then 13 else if c = 98 then 8 else if c = 102 then 12 else c), t)
  | n :: t => some (n, t)
  | [] => none
theorem hexv_hx (x : Int) (h0 : 0 ≤ x) (h1 : x < 16) : hexv (hx x) = x := by unfold hexv hx; omega
theorem unesc_esc (n : Int) (t : List Int) : unesc (escS n ++ t) = some (n, t) := by
  unfold escS
  by_cases hl : lett n ≠ 0
  · rw [if_pos hl]
    have hc : n = 9 ∨ n = 10 ∨ n = 13 ∨ n = 8 ∨ n = 12 ∨ n = 34 ∨ n = 92 := by unfold lett at hl; omega
    rcases hc with rfl | rfl | rfl | rfl | rfl | rfl | rfl <;> rfl
  · rw [if_neg hl]
    by_cases hc : cls n = 4
    · rw [if_pos hc]
      have := cls4_range n hc
      show some (16 * hexv (hx (n / 16)) + hexv (hx (n % 16)), t) = _
      rw [hexv_hx _ (by omega) (by omega), hexv_hx _ (by omega) (by omega)]
      congr 2
      omega
    · rw [if_neg hc]
      have h92 : n ≠ 92 := by intro e; subst e; exact hl (by decide)
      show unesc (n :: t) = _
      unfold unesc
      split
      · rename_i heq; simp only [List.cons.injEq] at heq; exact absurd heq.1 h92
      · rename_i heq; simp only [List.cons.injEq] at heq; exact absurd heq.1 h92
      · rename_i heq; simp only [List.cons.injEq] at heq; obtain ⟨rfl, rfl⟩ := heq; rfl
      · rename_i heq; cases heq
theorem esc_head (n : Int) (t : List Int) : ∃ m r, escS n ++ t = m :: r ∧ m ≠ 34 := by
  unfold escS
  by_cases hl : lett n ≠ 0
  · rw [if_pos hl]; exact ⟨92, _, rfl, by decide⟩
  · rw [if_neg hl]
    by_cases hc : cls n = 4
    · rw [if_pos hc]; exact ⟨92, _, rfl, by decide⟩
    · rw [if_neg hc]
      exact ⟨n, t, rfl, fun e => by subst e; exact hl (by decide)⟩
theorem body_one : ∀ a b : List Int, bodyS a ++ [34] = bodyS b ++ [34] → a = b
  | [], [], _ => rfl
  | [], n :: b, h => by
    exfalso
    obtain ⟨m, r, he, hm⟩ := esc_head n (bodyS b ++ [34])
    unfold bodyS at h he
    rw [List.flatMap_cons, List.append_assoc, he] at h
    simp at h
    exact hm h.1.symm
  | n :: a, [], h => by
    exfalso
    obtain ⟨m, r, he, hm⟩ := esc_head n (bodyS a ++ [34])
    unfold bodyS at h he
    rw [List.flatMap_cons, List.append_assoc, he] at h
    simp at h
    exact hm h.1
  | n :: a, m :: b, h => by
    have e1 := unesc_esc n (bodyS a ++ [34])
    have e2 := unesc_esc m (bodyS b ++ [34])
    have hh : escS n ++ (bodyS a ++ [34]) = escS m ++ (bodyS b ++ [34]) := by
      unfold bodyS at h ⊢
      rwa [List.flatMap_cons, List.flatMap_cons, List.append_assoc, List.append_assoc] at h
    rw [hh, e2] at e1
    simp only [Option.some.injEq, Prod.mk.injEq] at e1
    rw [e1.1, body_one a b e1.2.symm]
/-- Unlike texts are quoted unlike. -/
theorem quo_one (a b : List Int) (ha : AllS a) (hb : AllS b) (h : quo a = quo b) : a = b := by
  have h1 : encL (quoS a) ++ [] = encL (quoS b) ++ [] := by rw [quoS_bytes, quoS_bytes, ← quo_list, ← quo_list, h]
  have h2 := (split_one _ _ _ _ h1 (quoS_parts a ha).all (quoS_parts b hb).all (.inl rfl) (.inl rfl)).1
  unfold quoS at h2
  simp only [List.cons_append, List.cons.injEq, true_and] at h2
  exact body_one a b h2
end Go.Proofs.YtcllamipcgbfiaaDoor
