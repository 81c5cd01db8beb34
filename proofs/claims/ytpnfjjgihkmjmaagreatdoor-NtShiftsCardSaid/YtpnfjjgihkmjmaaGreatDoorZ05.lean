/-
  MERGED (a claim has at most 60 files): Meth, Esc, ReadA.
-/
import Derived.Test.YtpnfjjgihkmjmaaGreatDoorZ03
import Derived.Test.YtpnfjjgihkmjmaaGreatDoorZ04
import Derived.Deep.QuietTactic
import Derived.BigQuiet
import Derived.Laws.BitsLemmas
/-
  THE SCANNER's CALLS: End, Place, Peek, Next, Back.
-/
namespace Go.Proofs.YtpnfjjgihkmjmaaGreatDoor
open Go.RowKit
set_option linter.unusedVariables false

/-- A call that only reads: memory is as it was. -/
structure Same (w w' : World) : Prop where
  heap : w'.heap = w.heap
  os : w'.os = w.os
  tape : w'.tape = w.tape
  output : w'.output = w.output
theorem Same.refl (w : World) : Same w w := ⟨rfl, rfl, rfl, rfl⟩
theorem Same.trans {a b c : World} (h : Same a b) (k : Same b c) : Same a c := ⟨k.heap.trans h.heap, k.os.trans h.os, k.tape.trans h.tape, k.output.trans h.output⟩
theorem Same.below {B : Nat} {a b c : World} (h : Below B a b) (k : Same b c) : Below B a c :=
  ⟨k.os.trans h.os, k.tape.trans h.tape, k.output.trans h.output, by rw [k.heap]; exact h.size, fun i hi => by rw [k.heap]; exact h.block i hi⟩
theorem Same.sc {B : Nat} {w w' : World} {b : Nat} {v : Value} {sl : List Int} {k : Nat} (h : Sc B w b v sl k) (s : Same w w') : Sc B w' b v sl k :=
  ⟨by rw [s.heap]; exact h.blk, by have := h.row; unfold World.ownsRow at *; rw [s.heap]; exact this, h.ge⟩
theorem Same.ints {B : Nat} {w w' : World} {v : Value} {l : List Int} (h : Ints B w v l) (s : Same w w') : Ints B w' v l := by
  unfold Ints World.ownsRow at *; rw [s.heap]; exact h
theorem same_grown {w w' : World} (s : Same w w') (row : Option Nat) : w.grownBy w' row := ⟨s.os, s.tape, s.output, by rw [s.heap]; exact Nat.le_refl _, fun _ _ _ => by rw [s.heap]⟩
theorem grown_trans {a b c : World} {row : Option Nat} (h : a.grownBy b row) (k : b.grownBy c row) : a.grownBy c row := ⟨k.os.trans h.os, k.tape.trans h.tape, k.output.trans h.output, Nat.le_trans h.size k.size, fun i hi hr => (k.block i (Nat.lt_of_lt_of_le hi h.size) hr).trans (h.block i hi hr)⟩
theorem Sc.cell {B : Nat} {w : World} {b : Nat} {sl : List Int} {k : Nat} {g cap : Nat} {n : Nat} (h : Sc B w b (.slice (some ⟨g, 0, none⟩) n cap) sl k) (j : Nat) (x : Int) (hx : sl[j]? = some x) : w.cell? ⟨g, j, none⟩ = some (.int .i32 x) := by
  have := h.row.cells (g := g) rfl j (.int .i32 x) (by simp [runeRow, hx])
  by_cases hj : j = 0
  · subst hj; simpa [Addr.add] using this
  · simpa [Addr.add, hj] using this
theorem Sc.shape1 {B : Nat} {w : World} {b : Nat} {v : Value} {sl : List Int} {k : Nat} (h : Sc B w b v sl k) (hk : 0 < sl.length) : ∃ g cap, v = .slice (some ⟨g, 0, none⟩) sl.length cap ∧ sl.length ≤ cap := by
  rcases h.row.2 with ⟨hv, hl⟩ | ⟨g, cap, cur, hv, _, _, hc, _⟩
  · omega
  · exact ⟨g, cap, hv, hc⟩

set_option maxHeartbeats 1000000 in
theorem end_no {B : Nat} {w : World} {b : Nat} {v : Value} {sl : List Int} {k : Nat} (h : Sc B w b v sl k) (hk : k < sl.length) (hl : sl.length ≤ 4294967296) :
    Calls Tryz.prog 35 #[.pointer (some ⟨b, 0, none⟩)] w fun e w' => e = .returned (.bool false) ∧ Same w w' := by
  obtain ⟨ao, cap, rfl⟩ := h.shape
  have c0 := h.c0
  have c1 := h.c1
  have hB : ((k : Int) == (sl.length : Int)) = false := by simp; omega
  have hB2 : (k == sl.length) = false := by simp; omega
  clear h
  go_enter Tryz.func35, Tryz.ntmps35
  go_wp2
  go_quiet (fail)
  go_wp2
  go_ret
  exact ⟨ret_bool (by first | rfl | assumption), ⟨rfl, rfl, rfl, rfl⟩⟩
set_option maxHeartbeats 1000000 in
theorem end_yes {B : Nat} {w : World} {b : Nat} {v : Value} {sl : List Int} {k : Nat} (h : Sc B w b v sl k) (hk : k = sl.length) (hl : sl.length ≤ 4294967296) :
    Calls Tryz.prog 35 #[.pointer (some ⟨b, 0, none⟩)] w fun e w' => e = .returned (.bool true) ∧ Same w w' := by
  subst hk
  obtain ⟨ao, cap, rfl⟩ := h.shape
  have c0 := h.c0
  have c1 := h.c1
  clear h
  go_enter Tryz.func35, Tryz.ntmps35
  go_wp2
  go_quiet (fail)
  go_wp2
  go_ret
  exact ⟨ret_bool (by first | rfl | assumption | simp), ⟨rfl, rfl, rfl, rfl⟩⟩
theorem place_any {B : Nat} {w : World} {b : Nat} {v : Value} {sl : List Int} {k : Nat} (h : Sc B w b v sl k) :
    Calls Tryz.prog 38 #[.pointer (some ⟨b, 0, none⟩)] w fun e w' => e = .returned (.int .i64 k) ∧ Same w w' := by
  have c1 := h.c1
  clear h
  go_enter Tryz.func38, Tryz.ntmps38
  go_wp2
  go_ret
  exact ⟨rfl, ⟨rfl, rfl, rfl, rfl⟩⟩
set_option maxHeartbeats 1000000 in
theorem peek_sign {B : Nat} {w : World} {b : Nat} {v : Value} {sl : List Int} {k : Nat} {x : Int} (h : Sc B w b v sl k) (hx : sl[k]? = some x) (hl : sl.length ≤ 4294967296) :
    Calls Tryz.prog 66 #[.pointer (some ⟨b, 0, none⟩)] w fun e w' => e = .returned (.int .i32 x) ∧ Same w w' := by
  have hk : k < sl.length := (List.getElem?_eq_some_iff.1 hx).1
  have hE := end_no h hk hl
  have HS := Lib.hid h
  have HX := Lib.hid hx
  clear h hx
  go_enter Tryz.func66, Tryz.ntmps66
  go_wp2_with (go_at_call 35; (with_reducible refine hE.mono ?_); rintro e w1 ⟨rfl, hs⟩)
  have h1 := hs.sc HS.out
  obtain ⟨g, cap, rfl, hcap⟩ := h1.shape1 (by omega)
  have c0 := h1.c0
  have c1 := h1.c1
  have cc := h1.cell k x HX.out
  have k1 : (0 : Int) ≤ (k : Int) := by omega
  have k2 : (k : Int) < (sl.length : Int) := by omega
  have HH := Lib.hid hs
  clear h1 hs hE
  go_quiet (fail)
  go_wp2
  go_ret
  exact ⟨rfl, HH.out.trans ⟨rfl, rfl, rfl, rfl⟩⟩
theorem peek_end {B : Nat} {w : World} {b : Nat} {v : Value} {sl : List Int} {k : Nat} (h : Sc B w b v sl k) (hk : k = sl.length) (hl : sl.length ≤ 4294967296) :
    Calls Tryz.prog 66 #[.pointer (some ⟨b, 0, none⟩)] w fun e w' => e = .returned (.int .i32 (-1)) ∧ Same w w' := by
  have hE := end_yes h hk hl
  clear h
  go_enter Tryz.func66, Tryz.ntmps66
  go_wp2_with (go_at_call 35; (with_reducible refine hE.mono ?_); rintro e w1 ⟨rfl, hs⟩)
  go_ret
  exact ⟨rfl, hs⟩
/-- A call that may move the place. -/
def Moves (B : Nat) (w : World) (b : Nat) (v : Value) (sl : List Int) (k' : Nat) (w' : World) : Prop := Sc B w' b v sl k' ∧ w.grownBy w' (some b)
theorem next_end {B : Nat} {w : World} {b : Nat} {v : Value} {sl : List Int} {k : Nat} (h : Sc B w b v sl k) (hk : k = sl.length) (hl : sl.length ≤ 4294967296) :
    Calls Tryz.prog 67 #[.pointer (some ⟨b, 0, none⟩)] w fun e w' => e = .returned (.int .i32 (-1)) ∧ Same w w' := by
  have hP := peek_end h hk hl
  have hE : ∀ w1, Same w w1 → _ := fun w1 s => end_yes (s.sc h) hk hl
  clear h
  go_enter Tryz.func67, Tryz.ntmps67
  go_wp2_with (first
    | (go_at_call 66; (with_reducible refine hP.mono ?_); rintro e w1 ⟨rfl, hs⟩)
    | (go_at_call 35; (with_reducible refine (hE _ (by assumption)).mono ?_); rintro e w2 ⟨rfl, hs2⟩))
  go_ret
  exact ⟨rfl, hs.trans hs2⟩
set_option maxHeartbeats 1000000 in
theorem next_sign' {B : Nat} {w : World} {b : Nat} {v : Value} {sl : List Int} {k : Nat} {x : Int} (h : Sc B w b v sl k) (hx : sl[k]? = some x) (hl : sl.length ≤ 4294967296) :
    Calls Tryz.prog 67 #[.pointer (some ⟨b, 0, none⟩)] w fun e w' => e = .returned (.int .i32 x) ∧ Moves B w b v sl (k + 1) w' := by
  have hk : k < sl.length := (List.getElem?_eq_some_iff.1 hx).1
  have hP := peek_sign h hx hl
  have hE : ∀ w1, Same w w1 → _ := fun w1 s => end_no (s.sc h) hk hl
  have HS := Lib.hid h
  clear h hx
  go_enter Tryz.func67, Tryz.ntmps67
  go_wp2_with (first
    | (go_at_call 66; (with_reducible refine hP.mono ?_); rintro e w1 ⟨rfl, hs⟩)
    | (go_at_call 35; (with_reducible refine (hE _ (by assumption)).mono ?_); rintro e w2 ⟨rfl, hs2⟩; have h2 := (hs.trans hs2).sc HS.out; have c1 := h2.c1; have f1 := h2.f1))
  go_ret
  exact ⟨rfl, by exact h2.place (k + 1), grown_trans (same_grown (hs.trans hs2) (some b)) (grown_set w2 b 1 _)⟩
/-- Back to a place that is there. -/
theorem back_yes {B : Nat} {w : World} {b : Nat} {v : Value} {sl : List Int} {k : Nat} (h : Sc B w b v sl k) (j : Nat) (hj : j ≤ sl.length) (hl : sl.length ≤ 4294967296) :
    Calls Tryz.prog 92 #[.pointer (some ⟨b, 0, none⟩), .int .i64 j] w fun e w' => e = .returned (.bool true) ∧ Moves B w b v sl j w' := by
  obtain ⟨ao, cap, rfl⟩ := h.shape
  have c0 := h.c0
  have c1 := h.c1
  have f1 := h.f1
  have HS := Lib.hid h
  have k1 : ¬ (sl.length : Int) < (j : Int) := by omega
  have k2 : ¬ (j : Int) < 0 := by omega
  clear h
  go_enter Tryz.func92, Tryz.ntmps92
  go_wp2
  go_ret
  exact ⟨rfl, HS.out.place j, grown_set w b 1 _⟩
theorem back_no {B : Nat} {w : World} {b : Nat} {v : Value} {sl : List Int} {k : Nat} (h : Sc B w b v sl k) (j : Int) (hj : j < 0 ∨ (sl.length : Int) < j) (hl : sl.length ≤ 4294967296) :
    Calls Tryz.prog 92 #[.pointer (some ⟨b, 0, none⟩), .int .i64 j] w fun e w' => e = .returned (.bool false) ∧ Same w w' := by
  obtain ⟨ao, cap, rfl⟩ := h.shape
  have c0 := h.c0
  clear h
  rcases hj with hj | hj
  · go_enter Tryz.func92, Tryz.ntmps92
    go_wp2
    go_ret
    exact ⟨rfl, Same.refl _⟩
  · have k2 : ¬ j < 0 := by omega
    go_enter Tryz.func92, Tryz.ntmps92
    go_wp2
    go_ret
    exact ⟨rfl, Same.refl _⟩

/-- WHAT A LAW HOLDS: a scanner at place k, the document's signs, nothing older turned. -/
def TS (w : World) (b : Nat) (v vI : Value) (sl : List Int) (k : Nat) (W : World) : Prop := Sc w.heap.size W b v sl k ∧ Ints w.heap.size W vI sl ∧ Below w.heap.size w W
theorem TS.same {w : World} {b : Nat} {v vI : Value} {sl : List Int} {k : Nat} {W W' : World} (h : TS w b v vI sl k W) (s : Same W W') : TS w b v vI sl k W' := ⟨s.sc h.1, s.ints h.2.1, s.below h.2.2⟩
theorem TS.moves {w : World} {b : Nat} {v vI : Value} {sl : List Int} {k k' : Nat} {W W' : World} (h : TS w b v vI sl k W) (m : Moves w.heap.size W b v sl k' W') : TS w b v vI sl k' W' := by
  refine ⟨m.1, ?_, h.2.2.grown m.2 h.2.2.size (fun j hj => by cases hj; exact h.1.ge)⟩
  refine h.2.1.kept m.2 (Or.inr ?_)
  intro e
  rcases h.2.1.2 with ⟨hv, _⟩ | ⟨g, cap, cur, hv, _, hg, _⟩
  · rw [hv] at e; cases e
  · rw [hv] at e
    simp [Value.ownBlock] at e
    subst e
    rw [h.1.blk] at hg
    cases hg
def EverT (P : World → Prop) (f : FuncId) (args : Array Value) (x : Ending) (Q : World → Prop) : Prop := ∀ W, P W → Calls Tryz.prog f args W fun e w' => e = x ∧ Q w'
theorem EverT.at {P Q : World → Prop} {f : FuncId} {args : Array Value} {x : Ending} (h : EverT P f args x Q) {W : World} (hp : P W) : Calls Tryz.prog f args W fun e w' => e = x ∧ Q w' := h W hp
section
variable {w : World} {b : Nat} {v vI : Value} {sl : List Int} {k : Nat}
theorem ts_end_no (hk : k < sl.length) (hl : sl.length ≤ 4294967296) : EverT (TS w b v vI sl k) 35 #[.pointer (some ⟨b, 0, none⟩)] (.returned (.bool false)) (TS w b v vI sl k) :=
  fun _ h => (end_no h.1 hk hl).mono fun _ _ ⟨x, y⟩ => ⟨x, h.same y⟩
theorem ts_end_yes (hk : k = sl.length) (hl : sl.length ≤ 4294967296) : EverT (TS w b v vI sl k) 35 #[.pointer (some ⟨b, 0, none⟩)] (.returned (.bool true)) (TS w b v vI sl k) :=
  fun _ h => (end_yes h.1 hk hl).mono fun _ _ ⟨x, y⟩ => ⟨x, h.same y⟩
theorem ts_place : EverT (TS w b v vI sl k) 38 #[.pointer (some ⟨b, 0, none⟩)] (.returned (.int .i64 k)) (TS w b v vI sl k) :=
  fun _ h => (place_any h.1).mono fun _ _ ⟨x, y⟩ => ⟨x, h.same y⟩
theorem ts_peek {x : Int} (hx : sl[k]? = some x) (hl : sl.length ≤ 4294967296) : EverT (TS w b v vI sl k) 66 #[.pointer (some ⟨b, 0, none⟩)] (.returned (.int .i32 x)) (TS w b v vI sl k) :=
  fun _ h => (peek_sign h.1 hx hl).mono fun _ _ ⟨x, y⟩ => ⟨x, h.same y⟩
theorem ts_peek_end (hk : k = sl.length) (hl : sl.length ≤ 4294967296) : EverT (TS w b v vI sl k) 66 #[.pointer (some ⟨b, 0, none⟩)] (.returned (.int .i32 (-1))) (TS w b v vI sl k) :=
  fun _ h => (peek_end h.1 hk hl).mono fun _ _ ⟨x, y⟩ => ⟨x, h.same y⟩
theorem ts_next {x : Int} (hx : sl[k]? = some x) (hl : sl.length ≤ 4294967296) : EverT (TS w b v vI sl k) 67 #[.pointer (some ⟨b, 0, none⟩)] (.returned (.int .i32 x)) (TS w b v vI sl (k + 1)) :=
  fun _ h => (next_sign' h.1 hx hl).mono fun _ _ ⟨x, y⟩ => ⟨x, h.moves y⟩
theorem ts_next_end (hk : k = sl.length) (hl : sl.length ≤ 4294967296) : EverT (TS w b v vI sl k) 67 #[.pointer (some ⟨b, 0, none⟩)] (.returned (.int .i32 (-1))) (TS w b v vI sl k) :=
  fun _ h => (next_end h.1 hk hl).mono fun _ _ ⟨x, y⟩ => ⟨x, h.same y⟩
theorem ts_back (j : Nat) (hj : j ≤ sl.length) (hl : sl.length ≤ 4294967296) : EverT (TS w b v vI sl k) 92 #[.pointer (some ⟨b, 0, none⟩), .int .i64 j] (.returned (.bool true)) (TS w b v vI sl j) :=
  fun _ h => (back_yes h.1 j hj hl).mono fun _ _ ⟨x, y⟩ => ⟨x, h.moves y⟩
theorem ts_back_no (j : Int) (hj : j < 0 ∨ (sl.length : Int) < j) (hl : sl.length ≤ 4294967296) : EverT (TS w b v vI sl k) 92 #[.pointer (some ⟨b, 0, none⟩), .int .i64 j] (.returned (.bool false)) (TS w b v vI sl k) :=
  fun _ h => (back_no h.1 j hj hl).mono fun _ _ ⟨x, y⟩ => ⟨x, h.same y⟩
end
end Go.Proofs.YtpnfjjgihkmjmaaGreatDoor

/-
  PLAIN LEAN, NO RUN: the signs of a quoted text: none is a control; unlike texts are quoted unlike.
-/
namespace Go.Proofs.YtpnfjjgihkmjmaaGreatDoor
set_option linter.unusedVariables false

def hx (x : Int) : Int := if x < 10 then 48 + x else 55 + x
/-- What Quote writes of a sign, as signs. -/
def escS (n : Int) : List Int := if lett n ≠ 0 then [92, lett n] else if cls n = 4 then [92, 117, 48, 48, hx (n / 16), hx (n % 16)] else [n]
def bodyS (l : List Int) : List Int := l.flatMap escS
def quoS (l : List Int) : List Int := 34 :: bodyS l ++ [34]
theorem enc_ascii (m : Int) (h0 : 0 ≤ m) (h1 : m < 128) : Lib.encodeRune m = [m.toNat.toUInt8] := by
  unfold Lib.encodeRune
  rw [Lib.encodeRuneZ_one h0 (by omega)]
  rfl
theorem encL_one (m : Int) (t : List Int) (h0 : 0 ≤ m) (h1 : m < 128) : encL (m :: t) = m.toNat.toUInt8 :: encL t := by
  rw [encL_cons, enc_ascii m h0 h1]; rfl
theorem lett_range (n : Int) (h : lett n ≠ 0) : 0 ≤ lett n ∧ lett n < 128 := by unfold lett at *; omega
theorem cls4_range (n : Int) (h : cls n = 4) : 0 ≤ n ∧ n < 160 := by unfold cls at h; omega
theorem hx_range (x : Int) (h0 : 0 ≤ x) (h1 : x < 16) : 48 ≤ hx x ∧ hx x < 71 := by unfold hx; omega
theorem escS_bytes (n : Int) : encL (escS n) = esc n := by
  unfold escS esc
  split
  · rename_i h
    have := lett_range n h
    rw [encL_one _ _ (by omega) (by omega), encL_one _ _ this.1 this.2]
    rfl
  · split
    · rename_i h
      have := cls4_range n h
      have h1 := hx_range (n / 16) (by omega) (by omega)
      have h2 := hx_range (n % 16) (by omega) (by omega)
      rw [encL_one _ _ (by omega) (by omega), encL_one _ _ (by omega) (by omega), encL_one _ _ (by omega) (by omega), encL_one _ _ (by omega) (by omega), encL_one _ _ (by omega) (by omega), encL_one _ _ (by omega) (by omega)]
      rfl
    · simp [encL]
theorem bodyS_bytes (l : List Int) : encL (bodyS l) = escL l := by
  induction l with
  | nil => rfl
  | cons n t ih => unfold bodyS escL at *; rw [List.flatMap_cons, List.flatMap_cons, encL_append, ih, escS_bytes]
theorem quoS_bytes (l : List Int) : encL (quoS l) = quoteL l := by
  unfold quoS quoteL
  rw [List.cons_append, encL_one _ _ (by omega) (by omega), encL_append, bodyS_bytes, encL_one _ _ (by omega) (by omega)]
  rfl
/-- A sign that may stand in a quoted text. -/
def okQ (n : Int) : Prop := sgn n = true ∧ cls n ≠ 4 ∧ n ≠ 9 ∧ n ≠ 10 ∧ n ≠ 13
theorem okS_plain (n : Int) (h0 : 33 ≤ n) (h1 : n ≤ 126) : okQ n := by
  refine ⟨(sgn_iff n).2 (by omega), ?_, by omega, by omega, by omega⟩
  unfold cls; omega
theorem escS_ok (n : Int) (h : sgn n = true) : ∀ m ∈ escS n, okQ m := by
  intro m hm
  unfold escS at hm
  split at hm
  · rename_i hl
    have h33 : 33 ≤ lett n ∧ lett n ≤ 126 := by unfold lett at *; omega
    simp at hm
    rcases hm with rfl | rfl
    · exact okS_plain _ (by omega) (by omega)
    · exact okS_plain _ h33.1 h33.2
  · rename_i hl
    split at hm
    · rename_i hc
      have := cls4_range n hc
      have h1 := hx_range (n / 16) (by omega) (by omega)
      have h2 := hx_range (n % 16) (by omega) (by omega)
      simp at hm
      rcases hm with rfl | rfl | rfl | rfl | rfl <;> exact okS_plain _ (by omega) (by omega)
    · rename_i hc
      simp at hm
      subst hm
      refine ⟨h, hc, ?_, ?_, ?_⟩ <;> (intro e; subst e; exact hl (by decide))
theorem quoS_ok (l : List Int) (h : AllS l) : ∀ m ∈ quoS l, okQ m := by
  intro m hm
  unfold quoS bodyS at hm
  simp at hm
  rcases hm with rfl | ⟨n, hn, hm⟩ | rfl
  · exact okS_plain _ (by omega) (by omega)
  · exact escS_ok n (h n hn) m hm
  · exact okS_plain _ (by omega) (by omega)
theorem quoS_parts (l : List Int) (h : AllS l) : Parts (quo l).data.toList (quoS l) [] :=
  ⟨by rw [quo_list, quoS_bytes, List.append_nil], fun m hm => (quoS_ok l h m hm).1, .inl rfl⟩
/-- Read back: one sign. -/
def unesc : List Int → Option (Int × List Int)
  | 92 :: 117 :: _ :: _ :: x :: y :: t => some (16 * hexv x + hexv y, t)
  | 92 :: c :: t => some ((if c = 116 then 9 else if c = 110 then 10 else if c = 114 then 13 else if c = 98 then 8 else if c = 102 then 12 else c), t)
  | n :: t => some (n, t)
  | [] => none
theorem hexv_hx (x : Int) (h0 : 0 ≤ x) (h1 : x < 16) : hexv (hx x) = x := by unfold hexv hx; omega
theorem unesc_esc (n : Int) (t : List Int) : unesc (escS n ++ t) = some (n, t) := by
  unfold escS
  by_cases hl : lett n ≠ 0
  · rw [if_pos hl]
    have hc : n = 9 ∨ n = 10 ∨ n = 13 ∨ n = 8 ∨ n = 12 ∨ n = 34 ∨ n = 92 := by unfold lett at hl; omega
    rcases hc with rfl | rfl | rfl | rfl | rfl | rfl | rfl <;> rfl
  · rw [if_neg hl]
    by_cases hc : cls n = 4
    · rw [if_pos hc]
      have := cls4_range n hc
      show some (16 * hexv (hx (n / 16)) + hexv (hx (n % 16)), t) = _
      rw [hexv_hx _ (by omega) (by omega), hexv_hx _ (by omega) (by omega)]
      congr 2
      omega
    · rw [if_neg hc]
      have h92 : n ≠ 92 := by intro e; subst e; exact hl (by decide)
      show unesc (n :: t) = _
      unfold unesc
      split
      · rename_i heq; simp only [List.cons.injEq] at heq; exact absurd heq.1 h92
      · rename_i heq; simp only [List.cons.injEq] at heq; exact absurd heq.1 h92
      · rename_i heq; simp only [List.cons.injEq] at heq; obtain ⟨rfl, rfl⟩ := heq; rfl
      · rename_i heq; cases heq
theorem esc_head (n : Int) (t : List Int) : ∃ m r, escS n ++ t = m :: r ∧ m ≠ 34 := by
  unfold escS
  by_cases hl : lett n ≠ 0
  · rw [if_pos hl]; exact ⟨92, _, rfl, by decide⟩
  · rw [if_neg hl]
    by_cases hc : cls n = 4
    · rw [if_pos hc]; exact ⟨92, _, rfl, by decide⟩
    · rw [if_neg hc]
      exact ⟨n, t, rfl, fun e => by subst e; exact hl (by decide)⟩
theorem body_one : ∀ a b : List Int, bodyS a ++ [34] = bodyS b ++ [34] → a = b
  | [], [], _ => rfl
  | [], n :: b, h => by
    exfalso
    obtain ⟨m, r, he, hm⟩ := esc_head n (bodyS b ++ [34])
    unfold bodyS at h he
    rw [List.flatMap_cons, List.append_assoc, he] at h
    simp at h
    exact hm h.1.symm
  | n :: a, [], h => by
    exfalso
    obtain ⟨m, r, he, hm⟩ := esc_head n (bodyS a ++ [34])
    unfold bodyS at h he
    rw [List.flatMap_cons, List.append_assoc, he] at h
    simp at h
    exact hm h.1
  | n :: a, m :: b, h => by
    have e1 := unesc_esc n (bodyS a ++ [34])
    have e2 := unesc_esc m (bodyS b ++ [34])
    have hh : escS n ++ (bodyS a ++ [34]) = escS m ++ (bodyS b ++ [34]) := by
      unfold bodyS at h ⊢
      rwa [List.flatMap_cons, List.flatMap_cons, List.append_assoc, List.append_assoc] at h
    rw [hh, e2] at e1
    simp only [Option.some.injEq, Prod.mk.injEq] at e1
    rw [e1.1, body_one a b e1.2.symm]
/-- Unlike texts are quoted unlike. -/
theorem quo_one (a b : List Int) (ha : AllS a) (hb : AllS b) (h : quo a = quo b) : a = b := by
  have h1 : encL (quoS a) ++ [] = encL (quoS b) ++ [] := by rw [quoS_bytes, quoS_bytes, ← quo_list, ← quo_list, h]
  have h2 := (split_one _ _ _ _ h1 (quoS_parts a ha).all (quoS_parts b hb).all (.inl rfl) (.inl rfl)).1
  unfold quoS at h2
  simp only [List.cons_append, List.cons.injEq, true_and] at h2
  exact body_one a b h2
end Go.Proofs.YtpnfjjgihkmjmaaGreatDoor

/-
  READING WHAT IS QUOTED, its parts: the letters behind a backslash; four digits; what is kept of a builder while a scanner moves on.
-/
namespace Go.Proofs.YtpnfjjgihkmjmaaGreatDoor
open Go.RowKit
set_option linter.unusedVariables false

/-- The sign that a letter behind a backslash stands for, or -1. -/
def unl (r : Int) : Int := if r = 39 then 39 else if r = 116 then 9 else if r = 110 then 10 else if r = 114 then 13 else if r = 98 then 8 else if r = 102 then 12 else if r = 34 then 34 else if r = 92 then 92 else -1
def unlNot (n k : Int) : Prop := n ≠ 39 ∧ (1 ≤ k → n ≠ 116) ∧ (2 ≤ k → n ≠ 110) ∧ (3 ≤ k → n ≠ 114) ∧ (4 ≤ k → n ≠ 98) ∧ (5 ≤ k → n ≠ 102) ∧ (6 ≤ k → n ≠ 34) ∧ (7 ≤ k → n ≠ 92)
def escRes (r : Int) : Ending := .returned (.tuple #[.int .i32 (if unl r < 0 then 0 else unl r), .bool (decide (0 ≤ unl r))])
theorem unlNot_end (n : Int) (h : unlNot n 7) : unl n = -1 := by unfold unlNot at h; unfold unl; omega
theorem escRes_ok (r n : Int) (h : unl r = n) (h0 : 0 ≤ n) : Ending.returned (.tuple #[.int .i32 n, .bool true]) = escRes r := by
  unfold escRes; rw [h, if_neg (by omega), decide_eq_true h0]
theorem escRes_no (r : Int) (h : unl r = -1) : Ending.returned (.tuple #[.int .i32 0, .bool false]) = escRes r := by
  unfold escRes; rw [h]; rfl

set_option maxHeartbeats 4000000 in
set_option maxRecDepth 100000 in
theorem escaped_any (r : Int) (w : World) (t : TypeId) (fr : Nat × Nat) (htab : w.heap[0]? = some (.cells escCells t fr)) :
    Calls Tryz.prog 134 #[.int .i32 r] w fun e w' => e = escRes r ∧ Below w.heap.size w w' := by
  by_cases h39 : r = 39
  · have hB : (r == 39) = true := by simpa using h39
    have HH := Lib.hid (escRes_ok r 39 (by rw [h39]; rfl) (by omega))
    have H9 := Lib.hid h39
    clear h39 htab
    go_enter Tryz.func134, Tryz.ntmps134
    go_wp2
    go_ret2
    exact ⟨by rw [← HH.out, H9.out]; rfl, Below.refl _ _⟩
  have hB : (r == 39) = false := by simpa using h39
  have H39 := Lib.hid h39
  have HT := Lib.hid htab
  have htabw := htab
  clear h39 htab
  go_enter Tryz.func134, Tryz.ntmps134
  go_wp2_with (with_reducible refine wpList_load_row rfl 179 (.global 0) rfl 0 rfl t escCells fr _ htabw Tryz.underlying179 rfl (by kernel_rfl) ?_)
  clear htabw
  go_loopg [10] 7 (fun g i wx => ∃ j : Int, 0 ≤ j ∧ j + g = 7 ∧ i = .int .i64 j ∧ Hid (unlNot r j) ∧ Below w.heap.size w wx)
  case atStart => exact ⟨0, by omega, by omega, rfl, Lib.hid (by have := H39.out; unfold unlNot; omega), Below.refl _ _⟩
  case round =>
    obtain ⟨j, hj0, hj, rfl, HN, hb⟩ := hrel
    have hbs := hb.size
    obtain rfl | rfl | rfl | rfl | rfl | rfl | rfl | rfl : j = 0 ∨ j = 1 ∨ j = 2 ∨ j = 3 ∨ j = 4 ∨ j = 5 ∨ j = 6 ∨ j = 7 := by omega
    · have hix : ∀ w', (Instr.index 179 (.agg escCells) (.int .i64 0)).run Tryz.prog w' = .ok (.agg #[.int .i32 116, .int .i32 9]) w' := fun _ => by kernel_rfl
      by_cases hc : r = 116
      · have hcB : (r == 116) = true := by simpa using hc
        have HE := Lib.hid (escRes_ok r 9 (by rw [hc]; rfl) (by omega))
        clear hc
        go_wp2
        go_ret2
        exact ⟨HE.out, hb.alloc hbs _⟩
      · have hcB : (r == 116) = false := by simpa using hc
        have HC := Lib.hid hc
        clear hc
        go_wp2
        go_roundg (gk - 1)
        case measure => omega
        case rel => exact ⟨1, by omega, by omega, rfl, Lib.hid (by have := HN.out; have := HC.out; unfold unlNot at *; omega), hb.alloc hbs _⟩
    · have hix : ∀ w', (Instr.index 179 (.agg escCells) (.int .i64 1)).run Tryz.prog w' = .ok (.agg #[.int .i32 110, .int .i32 10]) w' := fun _ => by kernel_rfl
      by_cases hc : r = 110
      · have hcB : (r == 110) = true := by simpa using hc
        have HE := Lib.hid (escRes_ok r 10 (by rw [hc]; rfl) (by omega))
        clear hc
        go_wp2
        go_ret2
        exact ⟨HE.out, hb.alloc hbs _⟩
      · have hcB : (r == 110) = false := by simpa using hc
        have HC := Lib.hid hc
        clear hc
        go_wp2
        go_roundg (gk - 1)
        case measure => omega
        case rel => exact ⟨2, by omega, by omega, rfl, Lib.hid (by have := HN.out; have := HC.out; unfold unlNot at *; omega), hb.alloc hbs _⟩
    · have hix : ∀ w', (Instr.index 179 (.agg escCells) (.int .i64 2)).run Tryz.prog w' = .ok (.agg #[.int .i32 114, .int .i32 13]) w' := fun _ => by kernel_rfl
      by_cases hc : r = 114
      · have hcB : (r == 114) = true := by simpa using hc
        have HE := Lib.hid (escRes_ok r 13 (by rw [hc]; rfl) (by omega))
        clear hc
        go_wp2
        go_ret2
        exact ⟨HE.out, hb.alloc hbs _⟩
      · have hcB : (r == 114) = false := by simpa using hc
        have HC := Lib.hid hc
        clear hc
        go_wp2
        go_roundg (gk - 1)
        case measure => omega
        case rel => exact ⟨3, by omega, by omega, rfl, Lib.hid (by have := HN.out; have := HC.out; unfold unlNot at *; omega), hb.alloc hbs _⟩
    · have hix : ∀ w', (Instr.index 179 (.agg escCells) (.int .i64 3)).run Tryz.prog w' = .ok (.agg #[.int .i32 98, .int .i32 8]) w' := fun _ => by kernel_rfl
      by_cases hc : r = 98
      · have hcB : (r == 98) = true := by simpa using hc
        have HE := Lib.hid (escRes_ok r 8 (by rw [hc]; rfl) (by omega))
        clear hc
        go_wp2
        go_ret2
        exact ⟨HE.out, hb.alloc hbs _⟩
      · have hcB : (r == 98) = false := by simpa using hc
        have HC := Lib.hid hc
        clear hc
        go_wp2
        go_roundg (gk - 1)
        case measure => omega
        case rel => exact ⟨4, by omega, by omega, rfl, Lib.hid (by have := HN.out; have := HC.out; unfold unlNot at *; omega), hb.alloc hbs _⟩
    · have hix : ∀ w', (Instr.index 179 (.agg escCells) (.int .i64 4)).run Tryz.prog w' = .ok (.agg #[.int .i32 102, .int .i32 12]) w' := fun _ => by kernel_rfl
      by_cases hc : r = 102
      · have hcB : (r == 102) = true := by simpa using hc
        have HE := Lib.hid (escRes_ok r 12 (by rw [hc]; rfl) (by omega))
        clear hc
        go_wp2
        go_ret2
        exact ⟨HE.out, hb.alloc hbs _⟩
      · have hcB : (r == 102) = false := by simpa using hc
        have HC := Lib.hid hc
        clear hc
        go_wp2
        go_roundg (gk - 1)
        case measure => omega
        case rel => exact ⟨5, by omega, by omega, rfl, Lib.hid (by have := HN.out; have := HC.out; unfold unlNot at *; omega), hb.alloc hbs _⟩
    · have hix : ∀ w', (Instr.index 179 (.agg escCells) (.int .i64 5)).run Tryz.prog w' = .ok (.agg #[.int .i32 34, .int .i32 34]) w' := fun _ => by kernel_rfl
      by_cases hc : r = 34
      · have hcB : (r == 34) = true := by simpa using hc
        have HE := Lib.hid (escRes_ok r 34 (by rw [hc]; rfl) (by omega))
        clear hc
        go_wp2
        go_ret2
        exact ⟨HE.out, hb.alloc hbs _⟩
      · have hcB : (r == 34) = false := by simpa using hc
        have HC := Lib.hid hc
        clear hc
        go_wp2
        go_roundg (gk - 1)
        case measure => omega
        case rel => exact ⟨6, by omega, by omega, rfl, Lib.hid (by have := HN.out; have := HC.out; unfold unlNot at *; omega), hb.alloc hbs _⟩
    · have hix : ∀ w', (Instr.index 179 (.agg escCells) (.int .i64 6)).run Tryz.prog w' = .ok (.agg #[.int .i32 92, .int .i32 92]) w' := fun _ => by kernel_rfl
      by_cases hc : r = 92
      · have hcB : (r == 92) = true := by simpa using hc
        have HE := Lib.hid (escRes_ok r 92 (by rw [hc]; rfl) (by omega))
        clear hc
        go_wp2
        go_ret2
        exact ⟨HE.out, hb.alloc hbs _⟩
      · have hcB : (r == 92) = false := by simpa using hc
        have HC := Lib.hid hc
        clear hc
        go_wp2
        go_roundg (gk - 1)
        case measure => omega
        case rel => exact ⟨7, by omega, by omega, rfl, Lib.hid (by have := HN.out; have := HC.out; unfold unlNot at *; omega), hb.alloc hbs _⟩
    · have HE := Lib.hid (escRes_no r (unlNot_end r HN.out))
      go_wp2
      go_ret2
      exact ⟨HE.out, hb⟩
/-- The number of digits. -/
def numV (ds : List Int) : Int := ds.foldl (fun a d => a * 16 + hexv d) 0
theorem numV_snoc (ds : List Int) (d : Int) : numV (ds ++ [d]) = numV ds * 16 + hexv d := by simp [numV]
theorem numV_nonneg : ∀ (ds : List Int) (a : Int), 0 ≤ a → (∀ d ∈ ds, 0 ≤ hexv d) → a ≤ ds.foldl (fun a d => a * 16 + hexv d) a
  | [], a, _, _ => by simp
  | d :: ds, a, h0, h => by
    have hd := h d List.mem_cons_self
    have := numV_nonneg ds (a * 16 + hexv d) (by omega) (fun x hx => h x (List.mem_cons_of_mem _ hx))
    rw [List.foldl_cons]
    omega
theorem numV_take (ds : List Int) (i : Nat) (h : ∀ d ∈ ds, 0 ≤ hexv d) : 0 ≤ numV (ds.take i) ∧ numV (ds.take i) ≤ numV ds := by
  have h1 := numV_nonneg (ds.take i) 0 (by omega) (fun d hd => h d (List.mem_of_mem_take hd))
  refine ⟨h1, ?_⟩
  have h2 := numV_nonneg (ds.drop i) (numV (ds.take i)) h1 (fun d hd => h d (List.mem_of_mem_drop hd))
  have e : numV ds = (ds.drop i).foldl (fun a d => a * 16 + hexv d) (numV (ds.take i)) := by
    unfold numV
    rw [← List.foldl_append, List.take_append_drop]
  rw [e]; exact h2
def NumI (B : Nat) (w : World) (b : Nat) (v : Value) (sl ds : List Int) (k g : Nat) (s6 s9 : Value) (wr : World) : Prop :=
  ∃ i : Nat, i + g = ds.length ∧ s6 = .int .i32 (numV (ds.take i)) ∧ s9 = .int .i64 i ∧ Moves B w b v sl (k + i) wr

set_option maxHeartbeats 4000000 in
set_option maxRecDepth 100000 in
theorem number_good {B : Nat} {w : World} {b : Nat} {v : Value} {sl ds : List Int} {k : Nat} (h : Sc B w b v sl k) (hl : sl.length ≤ 4294967296) (hds : ds = (sl.drop k).take ds.length) (hd8 : ds.length ≤ 8)
    (hh : ∀ d ∈ ds, 0 ≤ hexv d) (hv : numV ds < 2147483648) (hs : sgn (numV ds) = true) :
    Calls Tryz.prog 133 #[.pointer (some ⟨b, 0, none⟩), .int .i64 ds.length] w fun e w' => e = .returned (.tuple #[.int .i32 (numV ds), .bool true]) ∧ Moves B w b v sl (k + ds.length) w' := by
  have HS := Lib.hid h
  have HD := Lib.hid hds
  have HH := Lib.hid hh
  have HV := Lib.hid hv
  have HG := Lib.hid hs
  clear h hds hh hv hs
  go_enter Tryz.func133, Tryz.ntmps133
  go_wp2
  go_loopg [6, 9] ds.length (fun g s6 s9 wr => NumI B w b v sl ds k g s6 s9 wr)
  case atStart => exact ⟨0, by omega, rfl, rfl, HS.out, same_grown (Same.refl _) _⟩
  case round =>
    obtain ⟨i, hig, rfl, rfl, hM⟩ := hrel
    have hr := numV_take ds i HH.out
    cases gk with
    | zero =>
      have hi : i = ds.length := by omega
      have hR : numV (ds.take i) = numV ds := by rw [hi, List.take_length]
      rw [hR]
      have hnot : (cls (numV ds) == 6) = false := by
        have := (sgn_iff _).1 HG.out
        have h6 : cls (numV ds) ≠ 6 := by unfold cls; omega
        simpa using h6
      have hge : ¬ ((i : Int) < (ds.length : Int)) := by omega
      have HM : Hid (Moves B w b v sl (k + ds.length) wr) := Lib.hid (by rw [← hi]; exact hM)
      clear hM hR hi hr
      obtain ⟨R, hR⟩ : ∃ R, R = numV ds := ⟨_, rfl⟩
      rw [← hR] at hnot ⊢
      have HRR := Lib.hid hR
      clear hR
      go_wp2_with (go_at_call 116; (with_reducible refine (class_any R _).mono ?_); rintro e w' ⟨rfl, rfl⟩)
      go_ret2
      exact ⟨by rw [← HRR.out]; rfl, HM.out⟩
    | succ g =>
      have hi : i < ds.length := by omega
      obtain ⟨d, hd⟩ : ∃ d, ds[i]? = some d := ⟨_, List.getElem?_eq_getElem hi⟩
      have hx : sl[k + i]? = some d := by
        have := HD.out ▸ hd
        rw [List.getElem?_take, if_pos hi, List.getElem?_drop] at this
        exact this
      have hh0 := HH.out d (List.mem_of_getElem? hd)
      have hh1 : hexv d ≤ 15 := by unfold hexv; omega
      have hP := peek_sign hM.1 hx hl
      have hi2 : (i : Int) < (ds.length : Int) := by omega
      have hst : ds.take (i + 1) = ds.take i ++ [d] := by rw [List.take_succ_eq_append_getElem hi, (List.getElem?_eq_some_iff.1 hd).2]
      have hnx := numV_take ds (i + 1) HH.out
      have hnv : numV (ds.take (i + 1)) = numV (ds.take i) * 16 + hexv d := by rw [hst, numV_snoc]
      obtain ⟨R, hR⟩ : ∃ R, R = numV (ds.take i) := ⟨_, rfl⟩
      rw [← hR] at hr hnv ⊢
      obtain ⟨D, hD⟩ : ∃ D, D = hexv d := ⟨_, rfl⟩
      rw [← hD] at hnv hh0 hh1
      have hHx : ∀ W, Calls Tryz.prog 129 #[.int .i32 d] W fun e w' => e = .returned (.int .i64 D) ∧ W = w' := fun W => by have := hex_any d W; rwa [← hD] at this
      have q1 : 0 ≤ R := hr.1
      have q2 : R * 16 + D < 2147483648 := by have := HV.out; omega
      have HM := Lib.hid hM
      have HNV := Lib.hid hnv
      have hor : bits .or .i32 (R * 16) D = R * 16 + D := bits_join .i32 31 (by decide) wraps_i32 4 (R * 16) D (by omega) (by omega) (by omega) (by omega) (by omega) (by omega)
      have hki : k + i < sl.length := (List.getElem?_eq_some_iff.1 hx).1
      clear hM hx hd hst hnx hnv hR hD hr
      go_wp2_with (first
        | (go_at_call 66; (with_reducible refine hP.mono ?_); rintro e w3 ⟨rfl, hs3⟩; have h3 := hs3.sc HM.out.1; have c13 := h3.c1; have f13 := h3.f1)
        | (go_at_call 129; (with_reducible refine (hHx _).mono ?_); rintro e w' ⟨rfl, rfl⟩))
      have hfin : NumI B w b v sl ds k g (.int .i32 (R * 16 + D)) (.int .i64 ((i : Int) + 1)) (w3.setCell ⟨b, 1, none⟩ (.int .i64 ((k : Int) + (i : Int) + 1))) := by
        refine ⟨i + 1, by omega, by rw [HNV.out], by rfl, ?_, grown_trans (grown_trans HM.out.2 (same_grown hs3 _)) (grown_set w3 b 1 _)⟩
        have := h3.place (k + (i + 1))
        rwa [show ((k + (i + 1) : Nat) : Int) = (k : Int) + (i : Int) + 1 by omega] at this
      have HF := Lib.hid hfin
      clear hfin h3 c13 f13
      go_roundg g
      case measure => omega
      case rel => exact HF.out
end Go.Proofs.YtpnfjjgihkmjmaaGreatDoor
