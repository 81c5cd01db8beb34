/-
  MERGED (a claim has at most 60 files): Meth, Esc, ReadA, ReadB, ReadC.
-/
import Derived.Test.YtjalhcbomjgkoaaGreatDoorZ05
import Derived.Deep.QuietTactic
import Derived.BigQuiet
import Derived.Laws.BitsLemmas
import Derived.Test.YtjalhcbomjgkoaaGreatDoorZ04
/-
  THE SCANNER's CALLS: End, Place, Peek, Next, Back.
-/
namespace Go.Proofs.YtjalhcbomjgkoaaGreatDoor
open Go.RowKit
set_option linter.unusedVariables false

/-- A call that only reads: memory is as it was. -/
structure Same (w w' : World) : Prop where
  heap : w'.heap = w.heap
  os : w'.os = w.os
  tape : w'.tape = w.tape
  output : w'.output = w.output
theorem Same.refl (w : World) : Same w w := ⟨rfl, rfl, rfl, rfl⟩
theorem Same.trans {a b c : World} (h : Same a b) (k : Same b c) : Same a c := ⟨k.heap.trans h.heap, k.os.trans h.os, k.tape.trans h.tape, k.output.trans h.output⟩
theorem Same.below {B : Nat} {a b c : World} (h : Below B a b) (k : Same b c) : Below B a c :=
  ⟨k.os.trans h.os, k.tape.trans h.tape, k.output.trans h.output, by rw [k.heap]; exact h.size, fun i hi => by rw [k.heap]; exact h.block i hi⟩
theorem Same.sc {B : Nat} {w w' : World} {b : Nat} {v : Value} {sl : List Int} {k : Nat} (h : Sc B w b v sl k) (s : Same w w') : Sc B w' b v sl k :=
  ⟨by rw [s.heap]; exact h.blk, by have := h.row; unfold World.ownsRow at *; rw [s.heap]; exact this, h.ge⟩
theorem Same.ints {B : Nat} {w w' : World} {v : Value} {l : List Int} (h : Ints B w v l) (s : Same w w') : Ints B w' v l := by
  unfold Ints World.ownsRow at *; rw [s.heap]; exact h
theorem same_grown {w w' : World} (s : Same w w') (row : Option Nat) : w.grownBy w' row := ⟨s.os, s.tape, s.output, by rw [s.heap]; exact Nat.le_refl _, fun _ _ _ => by rw [s.heap]⟩
theorem grown_trans {a b c : World} {row : Option Nat} (h : a.grownBy b row) (k : b.grownBy c row) : a.grownBy c row := ⟨k.os.trans h.os, k.tape.trans h.tape, k.output.trans h.output, Nat.le_trans h.size k.size, fun i hi hr => (k.block i (Nat.lt_of_lt_of_le hi h.size) hr).trans (h.block i hi hr)⟩
theorem Sc.cell {B : Nat} {w : World} {b : Nat} {sl : List Int} {k : Nat} {g cap : Nat} {n : Nat} (h : Sc B w b (.slice (some ⟨g, 0, none⟩) n cap) sl k) (j : Nat) (x : Int) (hx : sl[j]? = some x) : w.cell? ⟨g, j, none⟩ = some (.int .i32 x) := by
  have := h.row.cells (g := g) rfl j (.int .i32 x) (by simp [runeRow, hx])
  by_cases hj : j = 0
  · subst hj; simpa [Addr.add] using this
  · simpa [Addr.add, hj] using this
theorem Sc.shape1 {B : Nat} {w : World} {b : Nat} {v : Value} {sl : List Int} {k : Nat} (h : Sc B w b v sl k) (hk : 0 < sl.length) : ∃ g cap, v = .slice (some ⟨g, 0, none⟩) sl.length cap ∧ sl.length ≤ cap := by
  rcases h.row.2 with ⟨hv, hl⟩ | ⟨g, cap, cur, hv, _, _, hc, _⟩
  · omega
  · exact ⟨g, cap, hv, hc⟩

set_option maxHeartbeats 1000000 in
theorem end_no {B : Nat} {w : World} {b : Nat} {v : Value} {sl : List Int} {k : Nat} (h : Sc B w b v sl k) (hk : k < sl.length) (hl : sl.length ≤ 4294967296) :
    Calls Tryz.prog 59 #[.pointer (some ⟨b, 0, none⟩)] w fun e w' => e = .returned (.bool false) ∧ Same w w' := by
  obtain ⟨ao, cap, rfl⟩ := h.shape
  have c0 := h.c0
  have c1 := h.c1
  have hB : ((k : Int) == (sl.length : Int)) = false := by simp; omega
  have hB2 : (k == sl.length) = false := by simp; omega
  clear h
  go_enter Tryz.func59, Tryz.ntmps59
  go_wp2
  go_quiet (fail)
  go_wp2
  go_ret
  exact ⟨ret_bool (by first | rfl | assumption), ⟨rfl, rfl, rfl, rfl⟩⟩
set_option maxHeartbeats 1000000 in
theorem end_yes {B : Nat} {w : World} {b : Nat} {v : Value} {sl : List Int} {k : Nat} (h : Sc B w b v sl k) (hk : k = sl.length) (hl : sl.length ≤ 4294967296) :
    Calls Tryz.prog 59 #[.pointer (some ⟨b, 0, none⟩)] w fun e w' => e = .returned (.bool true) ∧ Same w w' := by
  subst hk
  obtain ⟨ao, cap, rfl⟩ := h.shape
  have c0 := h.c0
  have c1 := h.c1
  clear h
  go_enter Tryz.func59, Tryz.ntmps59
  go_wp2
  go_quiet (fail)
  go_wp2
  go_ret
  exact ⟨ret_bool (by first | rfl | assumption | simp), ⟨rfl, rfl, rfl, rfl⟩⟩
theorem place_any {B : Nat} {w : World} {b : Nat} {v : Value} {sl : List Int} {k : Nat} (h : Sc B w b v sl k) :
    Calls Tryz.prog 62 #[.pointer (some ⟨b, 0, none⟩)] w fun e w' => e = .returned (.int .i64 k) ∧ Same w w' := by
  have c1 := h.c1
  clear h
  go_enter Tryz.func62, Tryz.ntmps62
  go_wp2
  go_ret
  exact ⟨rfl, ⟨rfl, rfl, rfl, rfl⟩⟩
set_option maxHeartbeats 1000000 in
theorem peek_sign {B : Nat} {w : World} {b : Nat} {v : Value} {sl : List Int} {k : Nat} {x : Int} (h : Sc B w b v sl k) (hx : sl[k]? = some x) (hl : sl.length ≤ 4294967296) :
    Calls Tryz.prog 86 #[.pointer (some ⟨b, 0, none⟩)] w fun e w' => e = .returned (.int .i32 x) ∧ Same w w' := by
  have hk : k < sl.length := (List.getElem?_eq_some_iff.1 hx).1
  have hE := end_no h hk hl
  have HS := Lib.hid h
  have HX := Lib.hid hx
  clear h hx
  go_enter Tryz.func86, Tryz.ntmps86
  go_wp2_with (go_at_call 59; (with_reducible refine hE.mono ?_); rintro e w1 ⟨rfl, hs⟩)
  have h1 := hs.sc HS.out
  obtain ⟨g, cap, rfl, hcap⟩ := h1.shape1 (by omega)
  have c0 := h1.c0
  have c1 := h1.c1
  have cc := h1.cell k x HX.out
  have k1 : (0 : Int) ≤ (k : Int) := by omega
  have k2 : (k : Int) < (sl.length : Int) := by omega
  have HH := Lib.hid hs
  clear h1 hs hE
  go_quiet (fail)
  go_wp2
  go_ret
  exact ⟨rfl, HH.out.trans ⟨rfl, rfl, rfl, rfl⟩⟩
theorem peek_end {B : Nat} {w : World} {b : Nat} {v : Value} {sl : List Int} {k : Nat} (h : Sc B w b v sl k) (hk : k = sl.length) (hl : sl.length ≤ 4294967296) :
    Calls Tryz.prog 86 #[.pointer (some ⟨b, 0, none⟩)] w fun e w' => e = .returned (.int .i32 (-1)) ∧ Same w w' := by
  have hE := end_yes h hk hl
  clear h
  go_enter Tryz.func86, Tryz.ntmps86
  go_wp2_with (go_at_call 59; (with_reducible refine hE.mono ?_); rintro e w1 ⟨rfl, hs⟩)
  go_ret
  exact ⟨rfl, hs⟩
/-- A call that may move the place. -/
def Moves (B : Nat) (w : World) (b : Nat) (v : Value) (sl : List Int) (k' : Nat) (w' : World) : Prop := Sc B w' b v sl k' ∧ w.grownBy w' (some b)
theorem next_end {B : Nat} {w : World} {b : Nat} {v : Value} {sl : List Int} {k : Nat} (h : Sc B w b v sl k) (hk : k = sl.length) (hl : sl.length ≤ 4294967296) :
    Calls Tryz.prog 87 #[.pointer (some ⟨b, 0, none⟩)] w fun e w' => e = .returned (.int .i32 (-1)) ∧ Same w w' := by
  have hP := peek_end h hk hl
  have hE : ∀ w1, Same w w1 → _ := fun w1 s => end_yes (s.sc h) hk hl
  clear h
  go_enter Tryz.func87, Tryz.ntmps87
  go_wp2_with (first
    | (go_at_call 86; (with_reducible refine hP.mono ?_); rintro e w1 ⟨rfl, hs⟩)
    | (go_at_call 59; (with_reducible refine (hE _ (by assumption)).mono ?_); rintro e w2 ⟨rfl, hs2⟩))
  go_ret
  exact ⟨rfl, hs.trans hs2⟩
set_option maxHeartbeats 1000000 in
theorem next_sign' {B : Nat} {w : World} {b : Nat} {v : Value} {sl : List Int} {k : Nat} {x : Int} (h : Sc B w b v sl k) (hx : sl[k]? = some x) (hl : sl.length ≤ 4294967296) :
    Calls Tryz.prog 87 #[.pointer (some ⟨b, 0, none⟩)] w fun e w' => e = .returned (.int .i32 x) ∧ Moves B w b v sl (k + 1) w' := by
  have hk : k < sl.length := (List.getElem?_eq_some_iff.1 hx).1
  have hP := peek_sign h hx hl
  have hE : ∀ w1, Same w w1 → _ := fun w1 s => end_no (s.sc h) hk hl
  have HS := Lib.hid h
  clear h hx
  go_enter Tryz.func87, Tryz.ntmps87
  go_wp2_with (first
    | (go_at_call 86; (with_reducible refine hP.mono ?_); rintro e w1 ⟨rfl, hs⟩)
    | (go_at_call 59; (with_reducible refine (hE _ (by assumption)).mono ?_); rintro e w2 ⟨rfl, hs2⟩; have h2 := (hs.trans hs2).sc HS.out; have c1 := h2.c1; have f1 := h2.f1))
  go_ret
  exact ⟨rfl, by exact h2.place (k + 1), grown_trans (same_grown (hs.trans hs2) (some b)) (grown_set w2 b 1 _)⟩
/-- Back to a place that is there. -/
theorem back_yes {B : Nat} {w : World} {b : Nat} {v : Value} {sl : List Int} {k : Nat} (h : Sc B w b v sl k) (j : Nat) (hj : j ≤ sl.length) (hl : sl.length ≤ 4294967296) :
    Calls Tryz.prog 105 #[.pointer (some ⟨b, 0, none⟩), .int .i64 j] w fun e w' => e = .returned (.bool true) ∧ Moves B w b v sl j w' := by
  obtain ⟨ao, cap, rfl⟩ := h.shape
  have c0 := h.c0
  have c1 := h.c1
  have f1 := h.f1
  have HS := Lib.hid h
  have k1 : ¬ (sl.length : Int) < (j : Int) := by omega
  have k2 : ¬ (j : Int) < 0 := by omega
  clear h
  go_enter Tryz.func105, Tryz.ntmps105
  go_wp2
  go_ret
  exact ⟨rfl, HS.out.place j, grown_set w b 1 _⟩
theorem back_no {B : Nat} {w : World} {b : Nat} {v : Value} {sl : List Int} {k : Nat} (h : Sc B w b v sl k) (j : Int) (hj : j < 0 ∨ (sl.length : Int) < j) (hl : sl.length ≤ 4294967296) :
    Calls Tryz.prog 105 #[.pointer (some ⟨b, 0, none⟩), .int .i64 j] w fun e w' => e = .returned (.bool false) ∧ Same w w' := by
  obtain ⟨ao, cap, rfl⟩ := h.shape
  have c0 := h.c0
  clear h
  rcases hj with hj | hj
  · go_enter Tryz.func105, Tryz.ntmps105
    go_wp2
    go_ret
    exact ⟨rfl, Same.refl _⟩
  · have k2 : ¬ j < 0 := by omega
    go_enter Tryz.func105, Tryz.ntmps105
    go_wp2
    go_ret
    exact ⟨rfl, Same.refl _⟩

/-- WHAT A LAW HOLDS: a scanner at place k, the document's signs, nothing older turned. -/
def TS (w : World) (b : Nat) (v vI : Value) (sl : List Int) (k : Nat) (W : World) : Prop := Sc w.heap.size W b v sl k ∧ Ints w.heap.size W vI sl ∧ Below w.heap.size w W
theorem TS.same {w : World} {b : Nat} {v vI : Value} {sl : List Int} {k : Nat} {W W' : World} (h : TS w b v vI sl k W) (s : Same W W') : TS w b v vI sl k W' := ⟨s.sc h.1, s.ints h.2.1, s.below h.2.2⟩
theorem TS.moves {w : World} {b : Nat} {v vI : Value} {sl : List Int} {k k' : Nat} {W W' : World} (h : TS w b v vI sl k W) (m : Moves w.heap.size W b v sl k' W') : TS w b v vI sl k' W' := by
  refine ⟨m.1, ?_, h.2.2.grown m.2 h.2.2.size (fun j hj => by cases hj; exact h.1.ge)⟩
  refine h.2.1.kept m.2 (Or.inr ?_)
  intro e
  rcases h.2.1.2 with ⟨hv, _⟩ | ⟨g, cap, cur, hv, _, hg, _⟩
  · rw [hv] at e; cases e
  · rw [hv] at e
    simp [Value.ownBlock] at e
    subst e
    rw [h.1.blk] at hg
    cases hg
def EverT (P : World → Prop) (f : FuncId) (args : Array Value) (x : Ending) (Q : World → Prop) : Prop := ∀ W, P W → Calls Tryz.prog f args W fun e w' => e = x ∧ Q w'
theorem EverT.at {P Q : World → Prop} {f : FuncId} {args : Array Value} {x : Ending} (h : EverT P f args x Q) {W : World} (hp : P W) : Calls Tryz.prog f args W fun e w' => e = x ∧ Q w' := h W hp
section
variable {w : World} {b : Nat} {v vI : Value} {sl : List Int} {k : Nat}
theorem ts_end_no (hk : k < sl.length) (hl : sl.length ≤ 4294967296) : EverT (TS w b v vI sl k) 59 #[.pointer (some ⟨b, 0, none⟩)] (.returned (.bool false)) (TS w b v vI sl k) :=
  fun _ h => (end_no h.1 hk hl).mono fun _ _ ⟨x, y⟩ => ⟨x, h.same y⟩
theorem ts_end_yes (hk : k = sl.length) (hl : sl.length ≤ 4294967296) : EverT (TS w b v vI sl k) 59 #[.pointer (some ⟨b, 0, none⟩)] (.returned (.bool true)) (TS w b v vI sl k) :=
  fun _ h => (end_yes h.1 hk hl).mono fun _ _ ⟨x, y⟩ => ⟨x, h.same y⟩
theorem ts_place : EverT (TS w b v vI sl k) 62 #[.pointer (some ⟨b, 0, none⟩)] (.returned (.int .i64 k)) (TS w b v vI sl k) :=
  fun _ h => (place_any h.1).mono fun _ _ ⟨x, y⟩ => ⟨x, h.same y⟩
theorem ts_peek {x : Int} (hx : sl[k]? = some x) (hl : sl.length ≤ 4294967296) : EverT (TS w b v vI sl k) 86 #[.pointer (some ⟨b, 0, none⟩)] (.returned (.int .i32 x)) (TS w b v vI sl k) :=
  fun _ h => (peek_sign h.1 hx hl).mono fun _ _ ⟨x, y⟩ => ⟨x, h.same y⟩
theorem ts_peek_end (hk : k = sl.length) (hl : sl.length ≤ 4294967296) : EverT (TS w b v vI sl k) 86 #[.pointer (some ⟨b, 0, none⟩)] (.returned (.int .i32 (-1))) (TS w b v vI sl k) :=
  fun _ h => (peek_end h.1 hk hl).mono fun _ _ ⟨x, y⟩ => ⟨x, h.same y⟩
theorem ts_next {x : Int} (hx : sl[k]? = some x) (hl : sl.length ≤ 4294967296) : EverT (TS w b v vI sl k) 87 #[.pointer (some ⟨b, 0, none⟩)] (.returned (.int .i32 x)) (TS w b v vI sl (k + 1)) :=
  fun _ h => (next_sign' h.1 hx hl).mono fun _ _ ⟨x, y⟩ => ⟨x, h.moves y⟩
theorem ts_next_end (hk : k = sl.length) (hl : sl.length ≤ 4294967296) : EverT (TS w b v vI sl k) 87 #[.pointer (some ⟨b, 0, none⟩)] (.returned (.int .i32 (-1))) (TS w b v vI sl k) :=
  fun _ h => (next_end h.1 hk hl).mono fun _ _ ⟨x, y⟩ => ⟨x, h.same y⟩
theorem ts_back (j : Nat) (hj : j ≤ sl.length) (hl : sl.length ≤ 4294967296) : EverT (TS w b v vI sl k) 105 #[.pointer (some ⟨b, 0, none⟩), .int .i64 j] (.returned (.bool true)) (TS w b v vI sl j) :=
  fun _ h => (back_yes h.1 j hj hl).mono fun _ _ ⟨x, y⟩ => ⟨x, h.moves y⟩
theorem ts_back_no (j : Int) (hj : j < 0 ∨ (sl.length : Int) < j) (hl : sl.length ≤ 4294967296) : EverT (TS w b v vI sl k) 105 #[.pointer (some ⟨b, 0, none⟩), .int .i64 j] (.returned (.bool false)) (TS w b v vI sl k) :=
  fun _ h => (back_no h.1 j hj hl).mono fun _ _ ⟨x, y⟩ => ⟨x, h.same y⟩
end
end Go.Proofs.YtjalhcbomjgkoaaGreatDoor

/-
  PLAIN LEAN, NO RUN: the signs of a quoted text: none is a control; unlike texts are quoted unlike.
-/
namespace Go.Proofs.YtjalhcbomjgkoaaGreatDoor
set_option linter.unusedVariables false

def hx (x : Int) : Int := if x < 10 then 48 + x else 55 + x
/-- What Quote writes of a sign, as signs. -/
def escS (n : Int) : List Int := if lett n ≠ 0 then [92, lett n] else if cls n = 4 then [92, 117, 48, 48, hx (n / 16), hx (n % 16)] else [n]
def bodyS (l : List Int) : List Int := l.flatMap escS
def quoS (l : List Int) : List Int := 34 :: bodyS l ++ [34]
theorem enc_ascii (m : Int) (h0 : 0 ≤ m) (h1 : m < 128) : Lib.encodeRune m = [m.toNat.toUInt8] := by
  unfold Lib.encodeRune
  rw [Lib.encodeRuneZ_one h0 (by omega)]
  rfl
theorem encL_one (m : Int) (t : List Int) (h0 : 0 ≤ m) (h1 : m < 128) : encL (m :: t) = m.toNat.toUInt8 :: encL t := by
  rw [encL_cons, enc_ascii m h0 h1]; rfl
theorem lett_range (n : Int) (h : lett n ≠ 0) : 0 ≤ lett n ∧ lett n < 128 := by unfold lett at *; omega
theorem cls4_range (n : Int) (h : cls n = 4) : 0 ≤ n ∧ n < 160 := by unfold cls at h; omega
theorem hx_range (x : Int) (h0 : 0 ≤ x) (h1 : x < 16) : 48 ≤ hx x ∧ hx x < 71 := by unfold hx; omega
theorem escS_bytes (n : Int) : encL (escS n) = esc n := by
  unfold escS esc
  split
  · rename_i h
    have := lett_range n h
    rw [encL_one _ _ (by omega) (by omega), encL_one _ _ this.1 this.2]
    rfl
  · split
    · rename_i h
      have := cls4_range n h
      have h1 := hx_range (n / 16) (by omega) (by omega)
      have h2 := hx_range (n % 16) (by omega) (by omega)
      rw [encL_one _ _ (by omega) (by omega), encL_one _ _ (by omega) (by omega), encL_one _ _ (by omega) (by omega), encL_one _ _ (by omega) (by omega), encL_one _ _ (by omega) (by omega), encL_one _ _ (by omega) (by omega)]
      rfl
    · simp [encL]
theorem bodyS_bytes (l : List Int) : encL (bodyS l) = escL l := by
  induction l with
  | nil => rfl
  | cons n t ih => unfold bodyS escL at *; rw [List.flatMap_cons, List.flatMap_cons, encL_append, ih, escS_bytes]
theorem quoS_bytes (l : List Int) : encL (quoS l) = quoteL l := by
  unfold quoS quoteL
  rw [List.cons_append, encL_one _ _ (by omega) (by omega), encL_append, bodyS_bytes, encL_one _ _ (by omega) (by omega)]
  rfl
/-- A sign that may stand in a quoted text. -/
def okQ (n : Int) : Prop := sgn n = true ∧ cls n ≠ 4 ∧ n ≠ 9 ∧ n ≠ 10 ∧ n ≠ 13
theorem okS_plain (n : Int) (h0 : 33 ≤ n) (h1 : n ≤ 126) : okQ n := by
  refine ⟨(sgn_iff n).2 (by omega), ?_, by omega, by omega, by omega⟩
  unfold cls; omega
theorem escS_ok (n : Int) (h : sgn n = true) : ∀ m ∈ escS n, okQ m := by
  intro m hm
  unfold escS at hm
  split at hm
  · rename_i hl
    have h33 : 33 ≤ lett n ∧ lett n ≤ 126 := by unfold lett at *; omega
    simp at hm
    rcases hm with rfl | rfl
    · exact okS_plain _ (by omega) (by omega)
    · exact okS_plain _ h33.1 h33.2
  · rename_i hl
    split at hm
    · rename_i hc
      have := cls4_range n hc
      have h1 := hx_range (n / 16) (by omega) (by omega)
      have h2 := hx_range (n % 16) (by omega) (by omega)
      simp at hm
      rcases hm with rfl | rfl | rfl | rfl | rfl <;> exact okS_plain _ (by omega) (by omega)
    · rename_i hc
      simp at hm
      subst hm
      refine ⟨h, hc, ?_, ?_, ?_⟩ <;> (intro e; subst e; exact hl (by decide))
theorem quoS_ok (l : List Int) (h : AllS l) : ∀ m ∈ quoS l, okQ m := by
  intro m hm
  unfold quoS bodyS at hm
  simp at hm
  rcases hm with rfl | ⟨n, hn, hm⟩ | rfl
  · exact okS_plain _ (by omega) (by omega)
  · exact escS_ok n (h n hn) m hm
  · exact okS_plain _ (by omega) (by omega)
theorem quoS_parts (l : List Int) (h : AllS l) : Parts (quo l).data.toList (quoS l) [] :=
  ⟨by rw [quo_list, quoS_bytes, List.append_nil], fun m hm => (quoS_ok l h m hm).1, .inl rfl⟩
/-- Read back: one sign. -/
def unesc : List Int → Option (Int × List Int)
  | 92 :: 117 :: _ :: _ :: x :: y :: t => some (16 * hexv x + hexv y, t)
  | 92 :: c :: t => some ((if c = 116 then 9 else if c = 110 then 10 else if c = 114 then 13 else if c = 98 then 8 else if c = 102 then 12 else c), t)
  | n :: t => some (n, t)
  | [] => none
theorem hexv_hx (x : Int) (h0 : 0 ≤ x) (h1 : x < 16) : hexv (hx x) = x := by unfold hexv hx; omega
theorem unesc_esc (n : Int) (t : List Int) : unesc (escS n ++ t) = some (n, t) := by
  unfold escS
  by_cases hl : lett n ≠ 0
  · rw [if_pos hl]
    have hc : n = 9 ∨ n = 10 ∨ n = 13 ∨ n = 8 ∨ n = 12 ∨ n = 34 ∨ n = 92 := by unfold lett at hl; omega
    rcases hc with rfl | rfl | rfl | rfl | rfl | rfl | rfl <;> rfl
  · rw [if_neg hl]
    by_cases hc : cls n = 4
    · rw [if_pos hc]
      have := cls4_range n hc
      show some (16 * hexv (hx (n / 16)) + hexv (hx (n % 16)), t) = _
      rw [hexv_hx _ (by omega) (by omega), hexv_hx _ (by omega) (by omega)]
      congr 2
      omega
    · rw [if_neg hc]
      have h92 : n ≠ 92 := by intro e; subst e; exact hl (by decide)
      show unesc (n :: t) = _
      unfold unesc
      split
      · rename_i heq; simp only [List.cons.injEq] at heq; exact absurd heq.1 h92
      · rename_i heq; simp only [List.cons.injEq] at heq; exact absurd heq.1 h92
      · rename_i heq; simp only [List.cons.injEq] at heq; obtain ⟨rfl, rfl⟩ := heq; rfl
      · rename_i heq; cases heq
theorem esc_head (n : Int) (t : List Int) : ∃ m r, escS n ++ t = m :: r ∧ m ≠ 34 := by
  unfold escS
  by_cases hl : lett n ≠ 0
  · rw [if_pos hl]; exact ⟨92, _, rfl, by decide⟩
  · rw [if_neg hl]
    by_cases hc : cls n = 4
    · rw [if_pos hc]; exact ⟨92, _, rfl, by decide⟩
    · rw [if_neg hc]
      exact ⟨n, t, rfl, fun e => by subst e; exact hl (by decide)⟩
theorem body_one : ∀ a b : List Int, bodyS a ++ [34] = bodyS b ++ [34] → a = b
  | [], [], _ => rfl
  | [], n :: b, h => by
    exfalso
    obtain ⟨m, r, he, hm⟩ := esc_head n (bodyS b ++ [34])
    unfold bodyS at h he
    rw [List.flatMap_cons, List.append_assoc, he] at h
    simp at h
    exact hm h.1.symm
  | n :: a, [], h => by
    exfalso
    obtain ⟨m, r, he, hm⟩ := esc_head n (bodyS a ++ [34])
    unfold bodyS at h he
    rw [List.flatMap_cons, List.append_assoc, he] at h
    simp at h
    exact hm h.1
  | n :: a, m :: b, h => by
    have e1 := unesc_esc n (bodyS a ++ [34])
    have e2 := unesc_esc m (bodyS b ++ [34])
    have hh : escS n ++ (bodyS a ++ [34]) = escS m ++ (bodyS b ++ [34]) := by
      unfold bodyS at h ⊢
      rwa [List.flatMap_cons, List.flatMap_cons, List.append_assoc, List.append_assoc] at h
    rw [hh, e2] at e1
    simp only [Option.some.injEq, Prod.mk.injEq] at e1
    rw [e1.1, body_one a b e1.2.symm]
/-- Unlike texts are quoted unlike. -/
theorem quo_one (a b : List Int) (ha : AllS a) (hb : AllS b) (h : quo a = quo b) : a = b := by
  have h1 : encL (quoS a) ++ [] = encL (quoS b) ++ [] := by rw [quoS_bytes, quoS_bytes, ← quo_list, ← quo_list, h]
  have h2 := (split_one _ _ _ _ h1 (quoS_parts a ha).all (quoS_parts b hb).all (.inl rfl) (.inl rfl)).1
  unfold quoS at h2
  simp only [List.cons_append, List.cons.injEq, true_and] at h2
  exact body_one a b h2
end Go.Proofs.YtjalhcbomjgkoaaGreatDoor

/-
  READING WHAT IS QUOTED, its parts: the letters behind a backslash; four digits; what is kept of a builder while a scanner moves on.
-/
namespace Go.Proofs.YtjalhcbomjgkoaaGreatDoor
open Go.RowKit
set_option linter.unusedVariables false

/-- The sign that a letter behind a backslash stands for, or -1. -/
def unl (r : Int) : Int := if r = 39 then 39 else if r = 116 then 9 else if r = 110 then 10 else if r = 114 then 13 else if r = 98 then 8 else if r = 102 then 12 else if r = 34 then 34 else if r = 92 then 92 else -1
def unlNot (n k : Int) : Prop := n ≠ 39 ∧ (1 ≤ k → n ≠ 116) ∧ (2 ≤ k → n ≠ 110) ∧ (3 ≤ k → n ≠ 114) ∧ (4 ≤ k → n ≠ 98) ∧ (5 ≤ k → n ≠ 102) ∧ (6 ≤ k → n ≠ 34) ∧ (7 ≤ k → n ≠ 92)
def escRes (r : Int) : Ending := .returned (.tuple #[.int .i32 (if unl r < 0 then 0 else unl r), .bool (decide (0 ≤ unl r))])
theorem unlNot_end (n : Int) (h : unlNot n 7) : unl n = -1 := by unfold unlNot at h; unfold unl; omega
theorem escRes_ok (r n : Int) (h : unl r = n) (h0 : 0 ≤ n) : Ending.returned (.tuple #[.int .i32 n, .bool true]) = escRes r := by
  unfold escRes; rw [h, if_neg (by omega), decide_eq_true h0]
theorem escRes_no (r : Int) (h : unl r = -1) : Ending.returned (.tuple #[.int .i32 0, .bool false]) = escRes r := by
  unfold escRes; rw [h]; rfl

set_option maxHeartbeats 4000000 in
set_option maxRecDepth 100000 in
theorem escaped_any (r : Int) (w : World) (t : TypeId) (fr : Nat × Nat) (htab : w.heap[0]? = some (.cells escCells t fr)) :
    Calls Tryz.prog 140 #[.int .i32 r] w fun e w' => e = escRes r ∧ Below w.heap.size w w' := by
  by_cases h39 : r = 39
  · have hB : (r == 39) = true := by simpa using h39
    have HH := Lib.hid (escRes_ok r 39 (by rw [h39]; rfl) (by omega))
    have H9 := Lib.hid h39
    clear h39 htab
    go_enter Tryz.func140, Tryz.ntmps140
    go_wp2
    go_ret2
    exact ⟨by rw [← HH.out, H9.out]; rfl, Below.refl _ _⟩
  have hB : (r == 39) = false := by simpa using h39
  have H39 := Lib.hid h39
  have HT := Lib.hid htab
  have htabw := htab
  clear h39 htab
  go_enter Tryz.func140, Tryz.ntmps140
  go_wp2_with (with_reducible refine wpList_load_row rfl 157 (.global 0) rfl 0 rfl t escCells fr _ htabw Tryz.underlying157 rfl (by kernel_rfl) ?_)
  clear htabw
  go_loopg [10] 7 (fun g i wx => ∃ j : Int, 0 ≤ j ∧ j + g = 7 ∧ i = .int .i64 j ∧ Hid (unlNot r j) ∧ Below w.heap.size w wx)
  case atStart => exact ⟨0, by omega, by omega, rfl, Lib.hid (by have := H39.out; unfold unlNot; omega), Below.refl _ _⟩
  case round =>
    obtain ⟨j, hj0, hj, rfl, HN, hb⟩ := hrel
    have hbs := hb.size
    obtain rfl | rfl | rfl | rfl | rfl | rfl | rfl | rfl : j = 0 ∨ j = 1 ∨ j = 2 ∨ j = 3 ∨ j = 4 ∨ j = 5 ∨ j = 6 ∨ j = 7 := by omega
    · have hix : ∀ w', (Instr.index 157 (.agg escCells) (.int .i64 0)).run Tryz.prog w' = .ok (.agg #[.int .i32 116, .int .i32 9]) w' := fun _ => by kernel_rfl
      by_cases hc : r = 116
      · have hcB : (r == 116) = true := by simpa using hc
        have HE := Lib.hid (escRes_ok r 9 (by rw [hc]; rfl) (by omega))
        clear hc
        go_wp2
        go_ret2
        exact ⟨HE.out, hb.alloc hbs _⟩
      · have hcB : (r == 116) = false := by simpa using hc
        have HC := Lib.hid hc
        clear hc
        go_wp2
        go_roundg (gk - 1)
        case measure => omega
        case rel => exact ⟨1, by omega, by omega, rfl, Lib.hid (by have := HN.out; have := HC.out; unfold unlNot at *; omega), hb.alloc hbs _⟩
    · have hix : ∀ w', (Instr.index 157 (.agg escCells) (.int .i64 1)).run Tryz.prog w' = .ok (.agg #[.int .i32 110, .int .i32 10]) w' := fun _ => by kernel_rfl
      by_cases hc : r = 110
      · have hcB : (r == 110) = true := by simpa using hc
        have HE := Lib.hid (escRes_ok r 10 (by rw [hc]; rfl) (by omega))
        clear hc
        go_wp2
        go_ret2
        exact ⟨HE.out, hb.alloc hbs _⟩
      · have hcB : (r == 110) = false := by simpa using hc
        have HC := Lib.hid hc
        clear hc
        go_wp2
        go_roundg (gk - 1)
        case measure => omega
        case rel => exact ⟨2, by omega, by omega, rfl, Lib.hid (by have := HN.out; have := HC.out; unfold unlNot at *; omega), hb.alloc hbs _⟩
    · have hix : ∀ w', (Instr.index 157 (.agg escCells) (.int .i64 2)).run Tryz.prog w' = .ok (.agg #[.int .i32 114, .int .i32 13]) w' := fun _ => by kernel_rfl
      by_cases hc : r = 114
      · have hcB : (r == 114) = true := by simpa using hc
        have HE := Lib.hid (escRes_ok r 13 (by rw [hc]; rfl) (by omega))
        clear hc
        go_wp2
        go_ret2
        exact ⟨HE.out, hb.alloc hbs _⟩
      · have hcB : (r == 114) = false := by simpa using hc
        have HC := Lib.hid hc
        clear hc
        go_wp2
        go_roundg (gk - 1)
        case measure => omega
        case rel => exact ⟨3, by omega, by omega, rfl, Lib.hid (by have := HN.out; have := HC.out; unfold unlNot at *; omega), hb.alloc hbs _⟩
    · have hix : ∀ w', (Instr.index 157 (.agg escCells) (.int .i64 3)).run Tryz.prog w' = .ok (.agg #[.int .i32 98, .int .i32 8]) w' := fun _ => by kernel_rfl
      by_cases hc : r = 98
      · have hcB : (r == 98) = true := by simpa using hc
        have HE := Lib.hid (escRes_ok r 8 (by rw [hc]; rfl) (by omega))
        clear hc
        go_wp2
        go_ret2
        exact ⟨HE.out, hb.alloc hbs _⟩
      · have hcB : (r == 98) = false := by simpa using hc
        have HC := Lib.hid hc
        clear hc
        go_wp2
        go_roundg (gk - 1)
        case measure => omega
        case rel => exact ⟨4, by omega, by omega, rfl, Lib.hid (by have := HN.out; have := HC.out; unfold unlNot at *; omega), hb.alloc hbs _⟩
    · have hix : ∀ w', (Instr.index 157 (.agg escCells) (.int .i64 4)).run Tryz.prog w' = .ok (.agg #[.int .i32 102, .int .i32 12]) w' := fun _ => by kernel_rfl
      by_cases hc : r = 102
      · have hcB : (r == 102) = true := by simpa using hc
        have HE := Lib.hid (escRes_ok r 12 (by rw [hc]; rfl) (by omega))
        clear hc
        go_wp2
        go_ret2
        exact ⟨HE.out, hb.alloc hbs _⟩
      · have hcB : (r == 102) = false := by simpa using hc
        have HC := Lib.hid hc
        clear hc
        go_wp2
        go_roundg (gk - 1)
        case measure => omega
        case rel => exact ⟨5, by omega, by omega, rfl, Lib.hid (by have := HN.out; have := HC.out; unfold unlNot at *; omega), hb.alloc hbs _⟩
    · have hix : ∀ w', (Instr.index 157 (.agg escCells) (.int .i64 5)).run Tryz.prog w' = .ok (.agg #[.int .i32 34, .int .i32 34]) w' := fun _ => by kernel_rfl
      by_cases hc : r = 34
      · have hcB : (r == 34) = true := by simpa using hc
        have HE := Lib.hid (escRes_ok r 34 (by rw [hc]; rfl) (by omega))
        clear hc
        go_wp2
        go_ret2
        exact ⟨HE.out, hb.alloc hbs _⟩
      · have hcB : (r == 34) = false := by simpa using hc
        have HC := Lib.hid hc
        clear hc
        go_wp2
        go_roundg (gk - 1)
        case measure => omega
        case rel => exact ⟨6, by omega, by omega, rfl, Lib.hid (by have := HN.out; have := HC.out; unfold unlNot at *; omega), hb.alloc hbs _⟩
    · have hix : ∀ w', (Instr.index 157 (.agg escCells) (.int .i64 6)).run Tryz.prog w' = .ok (.agg #[.int .i32 92, .int .i32 92]) w' := fun _ => by kernel_rfl
      by_cases hc : r = 92
      · have hcB : (r == 92) = true := by simpa using hc
        have HE := Lib.hid (escRes_ok r 92 (by rw [hc]; rfl) (by omega))
        clear hc
        go_wp2
        go_ret2
        exact ⟨HE.out, hb.alloc hbs _⟩
      · have hcB : (r == 92) = false := by simpa using hc
        have HC := Lib.hid hc
        clear hc
        go_wp2
        go_roundg (gk - 1)
        case measure => omega
        case rel => exact ⟨7, by omega, by omega, rfl, Lib.hid (by have := HN.out; have := HC.out; unfold unlNot at *; omega), hb.alloc hbs _⟩
    · have HE := Lib.hid (escRes_no r (unlNot_end r HN.out))
      go_wp2
      go_ret2
      exact ⟨HE.out, hb⟩
/-- The number of digits. -/
def numV (ds : List Int) : Int := ds.foldl (fun a d => a * 16 + hexv d) 0
theorem numV_snoc (ds : List Int) (d : Int) : numV (ds ++ [d]) = numV ds * 16 + hexv d := by simp [numV]
theorem numV_nonneg : ∀ (ds : List Int) (a : Int), 0 ≤ a → (∀ d ∈ ds, 0 ≤ hexv d) → a ≤ ds.foldl (fun a d => a * 16 + hexv d) a
  | [], a, _, _ => by simp
  | d :: ds, a, h0, h => by
    have hd := h d List.mem_cons_self
    have := numV_nonneg ds (a * 16 + hexv d) (by omega) (fun x hx => h x (List.mem_cons_of_mem _ hx))
    rw [List.foldl_cons]
    omega
theorem numV_take (ds : List Int) (i : Nat) (h : ∀ d ∈ ds, 0 ≤ hexv d) : 0 ≤ numV (ds.take i) ∧ numV (ds.take i) ≤ numV ds := by
  have h1 := numV_nonneg (ds.take i) 0 (by omega) (fun d hd => h d (List.mem_of_mem_take hd))
  refine ⟨h1, ?_⟩
  have h2 := numV_nonneg (ds.drop i) (numV (ds.take i)) h1 (fun d hd => h d (List.mem_of_mem_drop hd))
  have e : numV ds = (ds.drop i).foldl (fun a d => a * 16 + hexv d) (numV (ds.take i)) := by
    unfold numV
    rw [← List.foldl_append, List.take_append_drop]
  rw [e]; exact h2
def NumI (B : Nat) (w : World) (b : Nat) (v : Value) (sl ds : List Int) (k g : Nat) (s6 s9 : Value) (wr : World) : Prop :=
  ∃ i : Nat, i + g = ds.length ∧ s6 = .int .i32 (numV (ds.take i)) ∧ s9 = .int .i64 i ∧ Moves B w b v sl (k + i) wr

set_option maxHeartbeats 4000000 in
set_option maxRecDepth 100000 in
theorem number_good {B : Nat} {w : World} {b : Nat} {v : Value} {sl ds : List Int} {k : Nat} (h : Sc B w b v sl k) (hl : sl.length ≤ 4294967296) (hds : ds = (sl.drop k).take ds.length) (hd8 : ds.length ≤ 8)
    (hh : ∀ d ∈ ds, 0 ≤ hexv d) (hv : numV ds < 2147483648) (hs : sgn (numV ds) = true) :
    Calls Tryz.prog 139 #[.pointer (some ⟨b, 0, none⟩), .int .i64 ds.length] w fun e w' => e = .returned (.tuple #[.int .i32 (numV ds), .bool true]) ∧ Moves B w b v sl (k + ds.length) w' := by
  have HS := Lib.hid h
  have HD := Lib.hid hds
  have HH := Lib.hid hh
  have HV := Lib.hid hv
  have HG := Lib.hid hs
  clear h hds hh hv hs
  go_enter Tryz.func139, Tryz.ntmps139
  go_wp2
  go_loopg [6, 9] ds.length (fun g s6 s9 wr => NumI B w b v sl ds k g s6 s9 wr)
  case atStart => exact ⟨0, by omega, rfl, rfl, HS.out, same_grown (Same.refl _) _⟩
  case round =>
    obtain ⟨i, hig, rfl, rfl, hM⟩ := hrel
    have hr := numV_take ds i HH.out
    cases gk with
    | zero =>
      have hi : i = ds.length := by omega
      have hR : numV (ds.take i) = numV ds := by rw [hi, List.take_length]
      rw [hR]
      have hnot : (cls (numV ds) == 6) = false := by
        have := (sgn_iff _).1 HG.out
        have h6 : cls (numV ds) ≠ 6 := by unfold cls; omega
        simpa using h6
      have hge : ¬ ((i : Int) < (ds.length : Int)) := by omega
      have HM : Hid (Moves B w b v sl (k + ds.length) wr) := Lib.hid (by rw [← hi]; exact hM)
      clear hM hR hi hr
      obtain ⟨R, hR⟩ : ∃ R, R = numV ds := ⟨_, rfl⟩
      rw [← hR] at hnot ⊢
      have HRR := Lib.hid hR
      clear hR
      go_wp2_with (go_at_call 99; (with_reducible refine (class_any R _).mono ?_); rintro e w' ⟨rfl, rfl⟩)
      go_ret2
      exact ⟨by rw [← HRR.out]; rfl, HM.out⟩
    | succ g =>
      have hi : i < ds.length := by omega
      obtain ⟨d, hd⟩ : ∃ d, ds[i]? = some d := ⟨_, List.getElem?_eq_getElem hi⟩
      have hx : sl[k + i]? = some d := by
        have := HD.out ▸ hd
        rw [List.getElem?_take, if_pos hi, List.getElem?_drop] at this
        exact this
      have hh0 := HH.out d (List.mem_of_getElem? hd)
      have hh1 : hexv d ≤ 15 := by unfold hexv; omega
      have hP := peek_sign hM.1 hx hl
      have hi2 : (i : Int) < (ds.length : Int) := by omega
      have hst : ds.take (i + 1) = ds.take i ++ [d] := by rw [List.take_succ_eq_append_getElem hi, (List.getElem?_eq_some_iff.1 hd).2]
      have hnx := numV_take ds (i + 1) HH.out
      have hnv : numV (ds.take (i + 1)) = numV (ds.take i) * 16 + hexv d := by rw [hst, numV_snoc]
      obtain ⟨R, hR⟩ : ∃ R, R = numV (ds.take i) := ⟨_, rfl⟩
      rw [← hR] at hr hnv ⊢
      obtain ⟨D, hD⟩ : ∃ D, D = hexv d := ⟨_, rfl⟩
      rw [← hD] at hnv hh0 hh1
      have hHx : ∀ W, Calls Tryz.prog 133 #[.int .i32 d] W fun e w' => e = .returned (.int .i64 D) ∧ W = w' := fun W => by have := hex_any d W; rwa [← hD] at this
      have q1 : 0 ≤ R := hr.1
      have q2 : R * 16 + D < 2147483648 := by have := HV.out; omega
      have HM := Lib.hid hM
      have HNV := Lib.hid hnv
      have hor : bits .or .i32 (R * 16) D = R * 16 + D := bits_join .i32 31 (by decide) wraps_i32 4 (R * 16) D (by omega) (by omega) (by omega) (by omega) (by omega) (by omega)
      have hki : k + i < sl.length := (List.getElem?_eq_some_iff.1 hx).1
      clear hM hx hd hst hnx hnv hR hD hr
      go_wp2_with (first
        | (go_at_call 86; (with_reducible refine hP.mono ?_); rintro e w3 ⟨rfl, hs3⟩; have h3 := hs3.sc HM.out.1; have c13 := h3.c1; have f13 := h3.f1)
        | (go_at_call 133; (with_reducible refine (hHx _).mono ?_); rintro e w' ⟨rfl, rfl⟩))
      have hfin : NumI B w b v sl ds k g (.int .i32 (R * 16 + D)) (.int .i64 ((i : Int) + 1)) (w3.setCell ⟨b, 1, none⟩ (.int .i64 ((k : Int) + (i : Int) + 1))) := by
        refine ⟨i + 1, by omega, by rw [HNV.out], by rfl, ?_, grown_trans (grown_trans HM.out.2 (same_grown hs3 _)) (grown_set w3 b 1 _)⟩
        have := h3.place (k + (i + 1))
        rwa [show ((k + (i + 1) : Nat) : Int) = (k : Int) + (i : Int) + 1 by omega] at this
      have HF := Lib.hid hfin
      clear hfin h3 c13 f13
      go_roundg g
      case measure => omega
      case rel => exact HF.out
end Go.Proofs.YtjalhcbomjgkoaaGreatDoor

/-
  READING WHAT IS QUOTED: one sign behind a backslash; the whole of what Quote has written.
-/
namespace Go.Proofs.YtjalhcbomjgkoaaGreatDoor
open Go.RowKit
set_option linter.unusedVariables false

theorem bd_grown {T e : TypeId} {B Bb b : Nat} {bs : List Value} {W W' : World} {cs : Array Value} {U : TypeId} {fz : Nat × Nat} (h : Lib.IsBuilderF T e B Bb bs W) (hb : W.heap[b]? = some (.cells cs U fz)) (hT : T ≠ U) (he : e ≠ U) (hg : W.grownBy W' (some b)) : Lib.IsBuilderF T e B Bb bs W' := by
  have key : ∀ p, Lib.BuilderAtF T e B Bb p bs W → Lib.BuilderAtF T e B Bb p bs W' := by
    intro p ⟨hB, v, hbk, hown, hne⟩
    have h1 : Bb ≠ b := by
      intro x
      rw [x, hb] at hbk
      cases hbk
      exact hT rfl
    refine ⟨hB, v, (hg.block Bb (Array.getElem?_eq_some_iff.1 hbk).1 (fun x => h1 (Option.some.inj x))).trans hbk, hown.kept hg (Or.inr ?_), hne⟩
    intro x
    obtain ⟨c, f, hc⟩ := Lib.ownsRowF_kind hown b x
    rw [hb] at hc
    cases hc
    exact he rfl
  exact h.elim (fun x => .inl (key _ x)) (fun x => .inr (key _ x))
theorem below_grown {w w' : World} (h : Below w.heap.size w w') (row : Option Nat) : w.grownBy w' row := ⟨h.os, h.tape, h.output, h.size, fun k hk _ => h.block k hk⟩
theorem grown_ext {w W W' : World} {row : Option Nat} (h : w.grownBy W row) (k : Below w.heap.size W W') : w.grownBy W' row := ⟨k.os.trans h.os, k.tape.trans h.tape, k.output.trans h.output, Nat.le_trans h.size k.size, fun i hi hr => (k.block i hi).trans (h.block i hi hr)⟩
theorem Sc.below2 {B n : Nat} {w w' : World} {b : Nat} {v : Value} {sl : List Int} {k : Nat} (h : Sc B w b v sl k) (hb : Below n w w') (h1 : b < n) (h2 : ∀ g, v.ownBlock = some g → g < n) : Sc B w' b v sl k := by
  refine ⟨(hb.block b h1).trans h.blk, ⟨h.row.1, ?_⟩, h.ge⟩
  rcases h.row.2 with x | ⟨g, cap, cur, hv, hg, hh, rest⟩
  · exact .inl x
  · exact .inr ⟨g, cap, cur, hv, hg, (hb.block g (h2 g (by rw [hv]; rfl))).trans hh, rest⟩
theorem Sc.below3 {B : Nat} {w w' : World} {b : Nat} {v : Value} {sl : List Int} {k : Nat} (h : Sc B w b v sl k) (hb : Below w.heap.size w w') : Sc B w' b v sl k :=
  h.below2 hb (Array.getElem?_eq_some_iff.1 h.blk).1 (fun g hg => (World.ownsRow.lt h.row g hg).2)

set_option maxHeartbeats 4000000 in
set_option maxRecDepth 100000 in
theorem escape_letter {B : Nat} {w : World} {b : Nat} {v : Value} {sl : List Int} {k : Nat} {c n : Int} (h : Sc B w b v sl k) (hl : sl.length ≤ 4294967296) (hx : sl[k]? = some c) (hu : unl c = n) (h0 : 0 ≤ n)
    (t : TypeId) (fr : Nat × Nat) (htab : ∀ W, Same w W → W.heap[0]? = some (.cells escCells t fr)) :
    Calls Tryz.prog 134 #[.pointer (some ⟨b, 0, none⟩)] w fun e w' => e = .returned (.tuple #[.int .i32 n, .bool true]) ∧ Moves B w b v sl (k + 1) w' := by
  have hki : k < sl.length := (List.getElem?_eq_some_iff.1 hx).1
  have hP : ∀ W, Same w W → Calls Tryz.prog 86 #[.pointer (some ⟨b, 0, none⟩)] W fun e w' => e = .returned (.int .i32 c) ∧ Same w w' := fun W s => (peek_sign (s.sc h) hx hl).mono fun _ _ ⟨x, y⟩ => ⟨x, s.trans y⟩
  have hE : ∀ W, Same w W → Calls Tryz.prog 140 #[.int .i32 c] W fun e w' => e = .returned (.tuple #[.int .i32 n, .bool true]) ∧ Sc B w' b v sl k ∧ w.grownBy w' (some b) := fun W s => (escaped_any c W t fr (htab W s)).mono fun _ _ ⟨x, y⟩ => ⟨by rw [x, ← escRes_ok c n hu h0], (s.sc h).below3 y, grown_trans (same_grown s _) (below_grown y _)⟩
  have e1 : (c == 117) = false := by
    have : c ≠ 117 := by intro e; subst e; have : n = -1 := by rw [← hu]; rfl
                         omega
    simpa using this
  have e2 : (c == 85) = false := by
    have : c ≠ 85 := by intro e; subst e; have : n = -1 := by rw [← hu]; rfl
                        omega
    simpa using this
  have hs0 : Same w w := Same.refl w
  clear h hx hu htab
  go_enter Tryz.func134, Tryz.ntmps134
  go_wp2_with (first
    | (go_at_call 86; (with_reducible refine (hP _ (by assumption)).mono ?_); rintro e w3 ⟨rfl, hs3⟩)
    | (go_at_call 140; (with_reducible refine (hE _ (by assumption)).mono ?_); rintro e w4 ⟨rfl, hsc4, hg4⟩; have c14 := hsc4.c1; have f14 := hsc4.f1))
  go_ret2
  exact ⟨rfl, by exact hsc4.place (k + 1), grown_trans hg4 (grown_set w4 b 1 _)⟩

set_option maxHeartbeats 4000000 in
set_option maxRecDepth 100000 in
theorem escape_u {B : Nat} {w : World} {b : Nat} {v : Value} {sl ds : List Int} {k : Nat} (h : Sc B w b v sl k) (hl : sl.length ≤ 4294967296) (hx : sl[k]? = some 117) (hds : ds = (sl.drop (k + 1)).take ds.length) (hd4 : ds.length = 4)
    (hh : ∀ d ∈ ds, 0 ≤ hexv d) (hv : numV ds < 2147483648) (hs : sgn (numV ds) = true) :
    Calls Tryz.prog 134 #[.pointer (some ⟨b, 0, none⟩)] w fun e w' => e = .returned (.tuple #[.int .i32 (numV ds), .bool true]) ∧ Moves B w b v sl (k + 5) w' := by
  have hki : k < sl.length := (List.getElem?_eq_some_iff.1 hx).1
  have hP := peek_sign h hx hl
  have hN : ∀ W, Sc B W b v sl (k + 1) → Calls Tryz.prog 139 #[.pointer (some ⟨b, 0, none⟩), .int .i64 4] W fun e w' => e = .returned (.tuple #[.int .i32 (numV ds), .bool true]) ∧ Moves B W b v sl (k + 5) w' := fun W s => by
    have := number_good s hl hds (by omega) hh hv hs
    rw [hd4] at this
    exact this
  have HS := Lib.hid h
  obtain ⟨R, hR⟩ : ∃ R, R = numV ds := ⟨_, rfl⟩
  rw [← hR] at hN ⊢
  clear h hx hds hd4 hh hv hs hR
  go_enter Tryz.func134, Tryz.ntmps134
  go_wp2_with (first
    | (go_at_call 86; (with_reducible refine hP.mono ?_); rintro e w3 ⟨rfl, hs3⟩; have h3 := hs3.sc HS.out; have c13 := h3.c1; have f13 := h3.f1; have h4 : Sc B (w3.setCell ⟨b, 1, none⟩ (.int .i64 ((k : Int) + 1))) b v sl (k + 1) := h3.place (k + 1))
    | (go_at_call 139; (with_reducible refine (hN _ (by assumption)).mono ?_); rintro e w4 ⟨rfl, hM4⟩))
  go_ret2
  exact ⟨rfl, hM4.1, grown_trans (grown_trans (same_grown hs3 _) (grown_set w3 b 1 _)) hM4.2⟩
end Go.Proofs.YtjalhcbomjgkoaaGreatDoor

/-
  READING WHAT Quote HAS WRITTEN: 'readQuoted' and 'Quoted' on a quoted text, whatever stands behind.
-/
namespace Go.Proofs.YtjalhcbomjgkoaaGreatDoor
open Go.RowKit
set_option linter.unusedVariables false

/-- A scanner at place k, a builder that holds acc, and what is older but the scanner as it was. -/
def RS (w : World) (B b : Nat) (v : Value) (sl : List Int) (N k : Nat) (acc : List Int) (W : World) : Prop :=
  Sc B W b v sl k ∧ Lib.IsBuilderF 105 5 N N (Lib.byteCells (encL acc)) W ∧ w.grownBy W (some b) ∧ N = w.heap.size ∧ b < N ∧ ∀ g, v.ownBlock = some g → g < N
section
variable {w : World} {B b : Nat} {v : Value} {sl : List Int} {N k : Nat} {acc : List Int}
theorem RS.grown {k' : Nat} {W W' : World} (h : RS w B b v sl N k acc W) (m : Moves B W b v sl k' W') : RS w B b v sl N k' acc W' :=
  ⟨m.1, bd_grown h.2.1 h.1.blk (by decide) (by decide) m.2, grown_trans h.2.2.1 m.2, h.2.2.2.1, h.2.2.2.2.1, h.2.2.2.2.2⟩
theorem RS.same {W W' : World} (h : RS w B b v sl N k acc W) (s : Same W W') : RS w B b v sl N k acc W' := h.grown ⟨s.sc h.1, same_grown s _⟩
theorem rs_end (hk : k < sl.length) (hl : sl.length ≤ 4294967296) : EverT (RS w B b v sl N k acc) 59 #[.pointer (some ⟨b, 0, none⟩)] (.returned (.bool false)) (RS w B b v sl N k acc) :=
  fun _ h => (end_no h.1 hk hl).mono fun _ _ ⟨x, y⟩ => ⟨x, h.same y⟩
theorem rs_next {x : Int} (hx : sl[k]? = some x) (hl : sl.length ≤ 4294967296) : EverT (RS w B b v sl N k acc) 87 #[.pointer (some ⟨b, 0, none⟩)] (.returned (.int .i32 x)) (RS w B b v sl N (k + 1) acc) :=
  fun _ h => (next_sign' h.1 hx hl).mono fun _ _ ⟨x, y⟩ => ⟨x, h.grown y⟩
theorem rs_letter {c n : Int} (hx : sl[k]? = some c) (hl : sl.length ≤ 4294967296) (hu : unl c = n) (h0 : 0 ≤ n) (t : TypeId) (fr : Nat × Nat) (htab : ∀ W, w.grownBy W (some b) → W.heap[0]? = some (.cells escCells t fr)) :
    EverT (RS w B b v sl N k acc) 134 #[.pointer (some ⟨b, 0, none⟩)] (.returned (.tuple #[.int .i32 n, .bool true])) (RS w B b v sl N (k + 1) acc) :=
  fun _ h => (escape_letter h.1 hl hx hu h0 t fr (fun W s => htab W (grown_trans h.2.2.1 (same_grown s _)))).mono fun _ _ ⟨x, y⟩ => ⟨x, h.grown y⟩
theorem rs_u {ds : List Int} (hx : sl[k]? = some 117) (hl : sl.length ≤ 4294967296) (hds : ds = (sl.drop (k + 1)).take ds.length) (hd4 : ds.length = 4) (hh : ∀ d ∈ ds, 0 ≤ hexv d) (hv : numV ds < 2147483648) (hs : sgn (numV ds) = true) :
    EverT (RS w B b v sl N k acc) 134 #[.pointer (some ⟨b, 0, none⟩)] (.returned (.tuple #[.int .i32 (numV ds), .bool true])) (RS w B b v sl N (k + 5) acc) :=
  fun _ h => (escape_u h.1 hl hx hds hd4 hh hv hs).mono fun _ _ ⟨x, y⟩ => ⟨x, h.grown y⟩
theorem rs_write (n : Int) (hn : sgn n = true) (hacc : acc.length ≤ 1000000) : EverT (RS w B b v sl N k acc) 98 #[.pointer (some ⟨N, 0, none⟩), .int .i32 n] (.returned (.tuple #[.int .i64 (Lib.runeCells n).length, .nilIface])) (RS w B b v sl N k (acc ++ [n])) := by
  intro W h
  have hr := (sgn_iff n).1 hn
  have hN : N ≤ W.heap.size := by rw [h.2.2.2.1]; exact h.2.2.1.size
  have hlen := (encL_len acc).2
  refine (Tryz.Builder_WriteRune_k N N _ n (by omega) (by omega) W h.2.1 (by rw [Lib.byteCells_length]; omega) hN).mono fun e w' ⟨x, y, z, _⟩ => ⟨x, ?_⟩
  refine ⟨h.1.below2 z h.2.2.2.2.1 h.2.2.2.2.2, .inr ?_, grown_ext h.2.2.1 (z.mono (by rw [h.2.2.2.1]; exact Nat.le_refl _)), h.2.2.2.1, h.2.2.2.2.1, h.2.2.2.2.2⟩
  rw [encL_append, show encL [n] = Lib.encodeRune n by simp [encL], Lib.byteCells_append, Lib.byteCells_encodeRune]
  exact y
theorem rs_string : EverT (RS w B b v sl N k acc) 57 #[.pointer (some ⟨N, 0, none⟩)] (.returned (.string (textOf acc))) (RS w B b v sl N k acc) := by
  intro W h
  have hN : N ≤ W.heap.size := by rw [h.2.2.2.1]; exact h.2.2.1.size
  refine (Tryz.Builder_String_any_k N N (encL acc) W h.2.1 hN).mono fun e w' ⟨x, y, z, _⟩ => ⟨x, ?_⟩
  exact ⟨h.1.below2 z h.2.2.2.2.1 h.2.2.2.2.2, y, grown_ext h.2.2.1 (z.mono (by rw [h.2.2.2.1]; exact Nat.le_refl _)), h.2.2.2.1, h.2.2.2.2.1, h.2.2.2.2.2⟩
end
/-- The relation of the loop: the signs a are read. -/
def QR (w : World) (B b : Nat) (v : Value) (sl la : List Int) (N g : Nat) (wr : World) : Prop :=
  ∃ a r, la = a ++ r ∧ r.length = g ∧ RS w B b v sl N (1 + (bodyS a).length) a wr
theorem bodyS_snoc (a : List Int) (n : Int) : (bodyS (a ++ [n])).length = (bodyS a).length + (escS n).length := by simp [bodyS]
theorem rest_at (la lm a r : List Int) (n : Int) (h : la = a ++ n :: r) : (quoS la ++ lm).drop (1 + (bodyS a).length) = escS n ++ (bodyS r ++ (34 :: lm)) := by
  have : quoS la ++ lm = (34 :: bodyS a) ++ (escS n ++ (bodyS r ++ (34 :: lm))) := by rw [h]; simp [quoS, bodyS]
  rw [this, show 1 + (bodyS a).length = (34 :: bodyS a).length by simp; omega, List.drop_left]
theorem rest_end (la lm : List Int) : (quoS la ++ lm).drop (1 + (bodyS la).length) = 34 :: lm := by
  have : quoS la ++ lm = (34 :: bodyS la) ++ (34 :: lm) := by simp [quoS]
  rw [this, show 1 + (bodyS la).length = (34 :: bodyS la).length by simp; omega, List.drop_left]
theorem at_drop {l : List Int} {k : Nat} {n : Int} {r : List Int} (h : l.drop k = n :: r) : l[k]? = some n := by
  have := congrArg (·[0]?) h
  simpa [List.getElem?_drop] using this
theorem drop_tail {l : List Int} {k : Nat} {n : Int} {r : List Int} (h : l.drop k = n :: r) : l.drop (k + 1) = r := by
  rw [show l.drop (k + 1) = (l.drop k).drop 1 by rw [List.drop_drop], h]; rfl
theorem unl_lett (n : Int) (h : lett n ≠ 0) : unl (lett n) = n ∧ 0 ≤ n := by
  have hc : n = 9 ∨ n = 10 ∨ n = 13 ∨ n = 8 ∨ n = 12 ∨ n = 34 ∨ n = 92 := by unfold lett at h; omega
  rcases hc with rfl | rfl | rfl | rfl | rfl | rfl | rfl <;> decide
theorem numV_ctl (n : Int) (h0 : 0 ≤ n) (h1 : n < 160) : numV [48, 48, hx (n / 16), hx (n % 16)] = n := by
  have e1 := hexv_hx (n / 16) (by omega) (by omega)
  have e2 := hexv_hx (n % 16) (by omega) (by omega)
  have e0 : hexv 48 = 0 := by decide
  simp only [numV, List.foldl_cons, List.foldl_nil, e0, e1, e2]
  omega
theorem bodyS_le (l : List Int) : l.length ≤ (bodyS l).length := by
  have h := bodyS_bytes l
  induction l with
  | nil => simp
  | cons n t ih =>
    have := esc_head n []
    have h1 : 1 ≤ (escS n).length := by
      obtain ⟨m, r, he, _⟩ := esc_head n []
      rw [List.append_nil] at he
      rw [he]; simp
    have := ih (bodyS_bytes t)
    unfold bodyS at *
    rw [List.flatMap_cons, List.length_append, List.length_cons]
    omega

set_option maxHeartbeats 8000000 in
set_option maxRecDepth 100000 in
theorem readq_good {B : Nat} {w : World} {b : Nat} {v : Value} (la lm sl : List Int) (hsl : sl = quoS la ++ lm) (h : Sc B w b v sl 0) (hall : AllS la) (hl : sl.length ≤ 100000)
    (t : TypeId) (fr : Nat × Nat) (htab : w.heap[0]? = some (.cells escCells t fr)) :
    Calls Tryz.prog 130 #[.pointer (some ⟨b, 0, none⟩)] w fun e w' => e = .returned (.tuple #[.string (textOf la), .bool true]) ∧ Moves B w b v sl (quoS la).length w' := by
  have hb0 : (0 : Nat) ≠ b := by
    intro e
    rw [e, h.blk] at htab
    simp only [Option.some.injEq, Obj.cells.injEq] at htab
    have := congrArg Array.size htab.1
    simp [escCells] at this
  have hT : ∀ W, w.grownBy W (some b) → W.heap[0]? = some (.cells escCells t fr) := fun W g => (g.block 0 (Array.getElem?_eq_some_iff.1 htab).1 (fun e => hb0 (by cases e; rfl))).trans htab
  have hx0 : sl[0]? = some 34 := by rw [hsl]; rfl
  have hl0 : 0 < sl.length := (List.getElem?_eq_some_iff.1 hx0).1
  have hP := peek_sign h hx0 (by omega)
  have hbw : b < w.heap.size := (Array.getElem?_eq_some_iff.1 h.blk).1
  have hvw : ∀ g, v.ownBlock = some g → g < w.heap.size := fun g hg => (World.ownsRow.lt h.row g hg).2
  have HS := Lib.hid h
  have HSL := Lib.hid hsl
  have HA := Lib.hid hall
  clear h hsl hall htab hx0
  go_enter Tryz.func130, Tryz.ntmps130
  go_wp2_with (go_at_call 86; (with_reducible refine hP.mono ?_); rintro e w3 ⟨rfl, hs3⟩; have h3 := hs3.sc HS.out; have c13 := h3.c1; have f13 := h3.f1)
  obtain ⟨N, hN⟩ : ∃ N, N = w3.heap.size := ⟨_, rfl⟩
  have hNw : N = w.heap.size := by rw [hN, hs3.heap]
  have hstart : RS w B b v sl N 1 [] ((w3.setCell ⟨b, 1, none⟩ (.int .i64 1)).alloc (.cells #[.pointer none, .slice none 0 0] 105)) := by
    have hp1 : Sc B (w3.setCell ⟨b, 1, none⟩ (.int .i64 1)) b v sl 1 := h3.place 1
    have hfr := Lib.fresh_isBuilder 105 5 (w3.setCell ⟨b, 1, none⟩ (.int .i64 1))
    rw [World.size_setCell, ← hN] at hfr
    refine ⟨hp1.below3 ((Below.refl _ _).alloc (Nat.le_refl _) _), Lib.IsBuilderF.of hfr, ?_, hNw, by rw [hNw]; exact hbw, by rw [hNw]; exact hvw⟩
    exact grown_trans (grown_trans (same_grown hs3 _) (grown_set w3 b 1 _)) (below_grown ((Below.refl _ _).alloc (Nat.le_refl _) _) _)
  have HST := Lib.hid hstart
  clear hstart h3 c13 f13
  rw [← hN]
  have HNN := Lib.hid hN
  have HNW := Lib.hid hNw
  clear hN hNw
  go_loopg [] la.length (fun g wr => QR w B b v sl la N g wr)
  case atStart => exact ⟨[], la, rfl, rfl, HST.out⟩
  case round =>
    obtain ⟨a, r, har, hrl, hR⟩ := hrel
    have hacc : a.length ≤ 1000000 := by
      have h1 := congrArg List.length HSL.out
      have h2 := bodyS_le la
      have h3 : a.length ≤ la.length := by rw [har]; simp
      simp [quoS] at h1
      omega
    cases gk with
    | zero =>
      obtain rfl : r = [] := List.length_eq_zero_iff.1 hrl
      have hla : la = a := by rw [har, List.append_nil]
      have hx : sl[1 + (bodyS a).length]? = some 34 := by rw [HSL.out, ← hla]; exact at_drop (rest_end la lm)
      have hk := (List.getElem?_eq_some_iff.1 hx).1
      have cE := rs_end (w := w) (B := B) (b := b) (v := v) (N := N) (acc := a) hk (by omega)
      have cN := rs_next (w := w) (B := B) (b := b) (v := v) (N := N) (acc := a) hx (by omega)
      have cS := rs_string (w := w) (B := B) (b := b) (v := v) (sl := sl) (N := N) (k := 1 + (bodyS a).length + 1) (acc := a)
      have HLA := Lib.hid hla
      clear hx har hrl hla hk
      go_wp2_with (first
        | (go_at_call 59; (with_reducible refine (cE.at (by assumption)).mono ?_); rintro e x1 ⟨rfl, hR1⟩)
        | (go_at_call 87; (with_reducible refine (cN.at (by assumption)).mono ?_); rintro e x2 ⟨rfl, hR2⟩)
        | (go_at_call 57; (with_reducible refine (cS.at (by assumption)).mono ?_); rintro e x3 ⟨rfl, hR3⟩))
      go_ret2
      refine ⟨by rw [HLA.out]; rfl, ?_, hR3.2.2.1⟩
      have hq : (quoS la).length = 1 + (bodyS a).length + 1 := by rw [HLA.out]; simp [quoS]; omega
      rw [hq]
      exact hR3.1
    | succ g =>
      obtain ⟨n, r', rfl⟩ : ∃ n r', r = n :: r' := by
        match r, hrl with
        | n :: r', _ => exact ⟨n, r', rfl⟩
      have hn : sgn n = true := HA.out n (by rw [har]; simp)
      have hd : sl.drop (1 + (bodyS a).length) = escS n ++ (bodyS r' ++ (34 :: lm)) := by rw [HSL.out]; exact rest_at la lm a r' n har
      have hsn := bodyS_snoc a n
      have HR' : ∀ W, RS w B b v sl N (1 + (bodyS (a ++ [n])).length) (a ++ [n]) W → QR w B b v sl la N g W := fun W x => ⟨a ++ [n], r', by rw [har]; simp, by simpa using hrl, x⟩
      have HQ := Lib.hid HR'
      have HSN := Lib.hid hsn
      clear HR' hsn hrl har
      by_cases hlt : lett n ≠ 0
      · have hes : escS n = [92, lett n] := by unfold escS; rw [if_pos hlt]
        rw [hes] at hd
        have hx := at_drop hd
        have hk := (List.getElem?_eq_some_iff.1 hx).1
        have hx2 := at_drop (drop_tail hd)
        obtain ⟨hu, hn0⟩ := unl_lett n hlt
        have cE := rs_end (w := w) (B := B) (b := b) (v := v) (N := N) (acc := a) hk (by omega)
        have cN := rs_next (w := w) (B := B) (b := b) (v := v) (N := N) (acc := a) hx (by omega)
        have cL := rs_letter (w := w) (B := B) (b := b) (v := v) (N := N) (acc := a) hx2 (by omega) hu hn0 t fr hT
        have cW := rs_write (w := w) (B := B) (b := b) (v := v) (sl := sl) (N := N) (k := 1 + (bodyS a).length + 1 + 1) (acc := a) n hn hacc
        have HES := Lib.hid hes
        clear hx hx2 hd hk hlt hes hn hu hn0 hT hP
        go_wp2_with (first
          | (go_at_call 59; (with_reducible refine (cE.at (by assumption)).mono ?_); rintro e x1 ⟨rfl, hR1⟩)
          | (go_at_call 87; (with_reducible refine (cN.at (by assumption)).mono ?_); rintro e x2 ⟨rfl, hR2⟩)
          | (go_at_call 134; (with_reducible refine (cL.at (by assumption)).mono ?_); rintro e x3 ⟨rfl, hR3⟩)
          | (go_at_call 98; (with_reducible refine (cW.at (by assumption)).mono ?_); rintro e x4 ⟨rfl, hR4⟩))
        go_roundg g
        case measure => omega
        case rel =>
          refine HQ.out _ ?_
          rw [HSN.out, HES.out]
          exact hR4
      · by_cases hc4 : cls n = 4
        · have hes : escS n = [92, 117, 48, 48, hx (n / 16), hx (n % 16)] := by unfold escS; rw [if_neg hlt, if_pos hc4]
          rw [hes] at hd
          have hr4 := cls4_range n hc4
          have hx' := at_drop hd
          have hk := (List.getElem?_eq_some_iff.1 hx').1
          have hx2 := at_drop (drop_tail hd)
          have hd3 := drop_tail (drop_tail hd)
          have hnv := numV_ctl n hr4.1 hr4.2
          have cE := rs_end (w := w) (B := B) (b := b) (v := v) (N := N) (acc := a) hk (by omega)
          have cN := rs_next (w := w) (B := B) (b := b) (v := v) (N := N) (acc := a) hx' (by omega)
          have cL := rs_u (w := w) (B := B) (b := b) (v := v) (N := N) (acc := a) (ds := [48, 48, hx (n / 16), hx (n % 16)]) hx2 (by omega) (by rw [hd3]; rfl) rfl (by
            intro d hd'
            simp at hd'
            have q1 := hexv_hx (n / 16) (by omega) (by omega)
            have q2 := hexv_hx (n % 16) (by omega) (by omega)
            rcases hd' with rfl | rfl | rfl
            · decide
            · omega
            · omega) (by rw [hnv]; omega) (by rw [hnv]; exact hn)
          rw [hnv] at cL
          have cW := rs_write (w := w) (B := B) (b := b) (v := v) (sl := sl) (N := N) (k := 1 + (bodyS a).length + 1 + 5) (acc := a) n hn hacc
          have HES := Lib.hid hes
          clear hx' hx2 hd hk hlt hes hn hd3 hnv hc4 hr4 hT hP
          go_wp2_with (first
            | (go_at_call 59; (with_reducible refine (cE.at (by assumption)).mono ?_); rintro e x1 ⟨rfl, hR1⟩)
            | (go_at_call 87; (with_reducible refine (cN.at (by assumption)).mono ?_); rintro e x2 ⟨rfl, hR2⟩)
            | (go_at_call 134; (with_reducible refine (cL.at (by assumption)).mono ?_); rintro e x3 ⟨rfl, hR3⟩)
            | (go_at_call 98; (with_reducible refine (cW.at (by assumption)).mono ?_); rintro e x4 ⟨rfl, hR4⟩))
          go_roundg g
          case measure => omega
          case rel =>
            refine HQ.out _ ?_
            rw [HSN.out, HES.out]
            exact hR4
        · have hes : escS n = [n] := by unfold escS; rw [if_neg hlt, if_neg hc4]
          rw [hes] at hd
          have hx := at_drop hd
          have hk := (List.getElem?_eq_some_iff.1 hx).1
          have cE := rs_end (w := w) (B := B) (b := b) (v := v) (N := N) (acc := a) hk (by omega)
          have cN := rs_next (w := w) (B := B) (b := b) (v := v) (N := N) (acc := a) hx (by omega)
          have cW := rs_write (w := w) (B := B) (b := b) (v := v) (sl := sl) (N := N) (k := 1 + (bodyS a).length + 1) (acc := a) n hn hacc
          have g34 : (n == 34) = false := by have : n ≠ 34 := fun e => hlt (by rw [e]; decide)
                                             simpa using this
          have g10 : (n == 10) = false := by have : n ≠ 10 := fun e => hlt (by rw [e]; decide)
                                             simpa using this
          have g13 : (n == 13) = false := by have : n ≠ 13 := fun e => hlt (by rw [e]; decide)
                                             simpa using this
          have g92 : (n == 92) = false := by have : n ≠ 92 := fun e => hlt (by rw [e]; decide)
                                             simpa using this
          have HES := Lib.hid hes
          clear hx hd hk hlt hc4 hes hn hT hP
          go_wp2_with (first
            | (go_at_call 59; (with_reducible refine (cE.at (by assumption)).mono ?_); rintro e x1 ⟨rfl, hR1⟩)
            | (go_at_call 87; (with_reducible refine (cN.at (by assumption)).mono ?_); rintro e x2 ⟨rfl, hR2⟩)
            | (go_at_call 98; (with_reducible refine (cW.at (by assumption)).mono ?_); rintro e x3 ⟨rfl, hR3⟩))
          go_roundg g
          case measure => omega
          case rel =>
            refine HQ.out _ ?_
            rw [HSN.out, HES.out]
            exact hR3

theorem same_drewN (w : World) (m : Nat) : Same w (w.drewN m) := ⟨rfl, rfl, rfl, rfl⟩
set_option maxHeartbeats 4000000 in
set_option maxRecDepth 100000 in
theorem quoted_good {B : Nat} {w : World} {b : Nat} {v : Value} (la lm sl : List Int) (hsl : sl = quoS la ++ lm) (h : Sc B w b v sl 0) (hall : AllS la) (hl : sl.length ≤ 100000)
    (t : TypeId) (fr : Nat × Nat) (htab : w.heap[0]? = some (.cells escCells t fr)) :
    Calls Tryz.prog 125 #[.pointer (some ⟨b, 0, none⟩)] w fun e w' => e = .returned (.tuple #[.string (textOf la), .int .i64 (quoS la).length, .int .i64 0]) ∧ Moves B w b v sl (quoS la).length w' := by
  have hR := readq_good la lm sl hsl h hall hl t fr htab
  have c1 := h.c1
  clear hsl h hall htab
  go_enter Tryz.func125, Tryz.ntmps125
  go_wp2_with (go_at_call 130; (with_reducible refine hR.mono ?_); rintro e w2 ⟨rfl, hM⟩; have c12 := hM.1.c1)
  have HM := Lib.hid hM
  clear hM hR c1
  go_quiet (fail)
  go_wp2
  go_ret3
  refine ⟨rfl, Same.sc HM.out.1 ⟨rfl, rfl, rfl, rfl⟩, grown_trans HM.out.2 ?_⟩
  exact same_grown (same_drewN _ _) _
end Go.Proofs.YtjalhcbomjgkoaaGreatDoor
