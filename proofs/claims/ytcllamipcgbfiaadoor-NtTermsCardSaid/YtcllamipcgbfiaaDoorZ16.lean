/-
  MERGED (a claim has at most 60 files): NLine.
-/
import Derived.Test.YtcllamipcgbfiaaDoorZ14
/-
  BLANKS WITHIN A LINE, A LINE's END (package nt).
-/
namespace Go.Proofs.YtcllamipcgbfiaaDoor
open Go.RowKit
set_option linter.unusedVariables false

section
variable {w : World} {B b : Nat} {v : Value} {sl : List Int} {k : Nat}
theorem Moves.to {k' : Nat} {W W' : World} (h : Moves B w b v sl k W) (m : Moves B W b v sl k' W') : Moves B w b v sl k' W' := ⟨m.1, grown_trans h.2 m.2⟩
theorem Moves.same {W W' : World} (h : Moves B w b v sl k W) (s : Same W W') : Moves B w b v sl k W' := ⟨s.sc h.1, grown_trans h.2 (same_grown s _)⟩
theorem Moves.start (h : Sc B w b v sl k) : Moves B w b v sl k w := ⟨h, same_grown (Same.refl _) _⟩
theorem mv_end (hk : k ≤ sl.length) (hl : sl.length ≤ 4294967296) {W : World} (h : Moves B w b v sl k W) : Calls Tryd.prog 63 #[.pointer (some ⟨b, 0, none⟩)] W fun e w' => e = .returned (.bool (decide (k = sl.length))) ∧ Moves B w b v sl k w' := by
  by_cases he : k = sl.length
  · rw [decide_eq_true he]; exact (end_yes h.1 he hl).mono fun _ _ ⟨x, y⟩ => ⟨x, h.same y⟩
  · rw [decide_eq_false he]; exact (end_no h.1 (by omega) hl).mono fun _ _ ⟨x, y⟩ => ⟨x, h.same y⟩
theorem mv_place {W : World} (h : Moves B w b v sl k W) : Calls Tryd.prog 24 #[.pointer (some ⟨b, 0, none⟩)] W fun e w' => e = .returned (.int .i64 k) ∧ Moves B w b v sl k w' := (place_any h.1).mono fun _ _ ⟨x, y⟩ => ⟨x, h.same y⟩
theorem mv_peek {x : Int} (hx : sl[k]? = some x) (hl : sl.length ≤ 4294967296) {W : World} (h : Moves B w b v sl k W) : Calls Tryd.prog 87 #[.pointer (some ⟨b, 0, none⟩)] W fun e w' => e = .returned (.int .i32 x) ∧ Moves B w b v sl k w' := (peek_sign h.1 hx hl).mono fun _ _ ⟨x, y⟩ => ⟨x, h.same y⟩
/-- The sign at a place, or -1. -/
def pk (sl : List Int) (k : Nat) : Int := (sl[k]?).getD (-1)
theorem mv_pk (hk : k ≤ sl.length) (hl : sl.length ≤ 4294967296) {W : World} (h : Moves B w b v sl k W) : Calls Tryd.prog 87 #[.pointer (some ⟨b, 0, none⟩)] W fun e w' => e = .returned (.int .i32 (pk sl k)) ∧ Moves B w b v sl k w' := by
  unfold pk
  cases hx : sl[k]? with
  | none => exact (peek_end h.1 (by have := List.getElem?_eq_none_iff.1 hx; omega) hl).mono fun _ _ ⟨x, y⟩ => ⟨x, h.same y⟩
  | some x => exact mv_peek hx hl h
theorem mv_next {x : Int} (hx : sl[k]? = some x) (hl : sl.length ≤ 4294967296) {W : World} (h : Moves B w b v sl k W) : Calls Tryd.prog 90 #[.pointer (some ⟨b, 0, none⟩)] W fun e w' => e = .returned (.int .i32 x) ∧ Moves B w b v sl (k + 1) w' := (next_sign' h.1 hx hl).mono fun _ _ ⟨x, y⟩ => ⟨x, h.to y⟩
theorem mv_back (j : Nat) (hj : j ≤ sl.length) (hl : sl.length ≤ 4294967296) {W : World} (h : Moves B w b v sl k W) : Calls Tryd.prog 21 #[.pointer (some ⟨b, 0, none⟩), .int .i64 j] W fun e w' => e = .returned (.bool true) ∧ Moves B w b v sl j w' := (back_yes h.1 j hj hl).mono fun _ _ ⟨x, y⟩ => ⟨x, h.to y⟩
theorem mv_is (hk : k ≤ sl.length) (hl : sl.length ≤ 4294967296) (c : Int) (s : ByteArray) (hp : Parts s.data.toList [c] []) (hsz : s.size ≤ 4294967296) {W : World} (h : Moves B w b v sl k W) :
    Calls Tryd.prog 91 #[.pointer (some ⟨b, 0, none⟩), .string s] W fun e w' => e = .returned (.bool (decide (sl[k]? = some c))) ∧ Moves B w b v sl (k + if sl[k]? = some c then 1 else 0) w' := (is_one h.1 hk hl c s hp hsz).mono fun _ _ ⟨x, y⟩ => ⟨x, h.to y⟩
theorem mv_is_yes (hk : k ≤ sl.length) (hl : sl.length ≤ 4294967296) (c : Int) (s : ByteArray) (hp : Parts s.data.toList [c] []) (hsz : s.size ≤ 4294967296) (hx : sl[k]? = some c) {W : World} (h : Moves B w b v sl k W) :
    Calls Tryd.prog 91 #[.pointer (some ⟨b, 0, none⟩), .string s] W fun e w' => e = .returned (.bool true) ∧ Moves B w b v sl (k + 1) w' := by
  have := mv_is hk hl c s hp hsz h
  rw [if_pos hx, decide_eq_true hx] at this
  exact this
theorem mv_is_no (hk : k ≤ sl.length) (hl : sl.length ≤ 4294967296) (c : Int) (s : ByteArray) (hp : Parts s.data.toList [c] []) (hsz : s.size ≤ 4294967296) (hx : ¬ sl[k]? = some c) {W : World} (h : Moves B w b v sl k W) :
    Calls Tryd.prog 91 #[.pointer (some ⟨b, 0, none⟩), .string s] W fun e w' => e = .returned (.bool false) ∧ Moves B w b v sl k w' := by
  have := mv_is hk hl c s hp hsz h
  rw [if_neg hx, decide_eq_false hx] at this
  exact this
theorem pre_two (c d : Int) (sl : List Int) (p : Nat) : [c, d].isPrefixOf (sl.drop p) = decide (sl[p]? = some c ∧ sl[p + 1]? = some d) := by
  cases hx : sl[p]? with
  | none => rw [List.drop_eq_nil_of_le (List.getElem?_eq_none_iff.1 hx)]; simp
  | some x =>
    rw [drop_cons sl p x hx]
    have e1 := pre_one d sl (p + 1)
    rw [show [c, d].isPrefixOf (x :: sl.drop (p + 1)) = ((c == x) && [d].isPrefixOf (sl.drop (p + 1))) from rfl, e1]
    by_cases h1 : x = c
    · subst h1; simp
    · have : (c == x) = false := by simpa using Ne.symm h1
      rw [this]; simp [h1]
theorem mv_is2_yes (hk : k ≤ sl.length) (hl : sl.length ≤ 4294967296) (c d : Int) (s : ByteArray) (hp : Parts s.data.toList [c, d] []) (hsz : s.size ≤ 4294967296) (hx : sl[k]? = some c ∧ sl[k + 1]? = some d) {W : World} (h : Moves B w b v sl k W) :
    Calls Tryd.prog 91 #[.pointer (some ⟨b, 0, none⟩), .string s] W fun e w' => e = .returned (.bool true) ∧ Moves B w b v sl (k + 2) w' :=
  (is_any h.1 hk hl s [c, d] hp hsz).mono fun e w' ⟨x, y⟩ => by
    unfold isN at y
    rw [pre_two, decide_eq_true hx] at x y
    rw [if_pos rfl] at y
    exact ⟨x, h.to y⟩
theorem mv_is2_no (hk : k ≤ sl.length) (hl : sl.length ≤ 4294967296) (c d : Int) (s : ByteArray) (hp : Parts s.data.toList [c, d] []) (hsz : s.size ≤ 4294967296) (hx : ¬ (sl[k]? = some c ∧ sl[k + 1]? = some d)) {W : World} (h : Moves B w b v sl k W) :
    Calls Tryd.prog 91 #[.pointer (some ⟨b, 0, none⟩), .string s] W fun e w' => e = .returned (.bool false) ∧ Moves B w b v sl k w' :=
  (is_any h.1 hk hl s [c, d] hp hsz).mono fun e w' ⟨x, y⟩ => by
    unfold isN at y
    rw [pre_two, decide_eq_false hx] at x y
    rw [if_neg (by decide), Nat.add_zero] at y
    exact ⟨x, h.to y⟩
end
theorem parts_two (c d : Int) (h0 : 0 ≤ c) (h1 : c ≤ 127) (h2 : 0 ≤ d) (h3 : d ≤ 127) : Parts (⟨#[c.toNat.toUInt8, d.toNat.toUInt8]⟩ : ByteArray).data.toList [c, d] [] := by
  refine ⟨?_, fun n hn => ?_, .inl rfl⟩
  · rw [List.append_nil, encL_cons, encL_cons, encL_nil, List.append_nil]
    unfold Lib.encodeRune
    rw [Lib.encodeRuneZ_one h0 h1, Lib.encodeRuneZ_one h2 h3]
    rfl
  · simp at hn
    rw [sgn_iff]; omega
theorem p1310 : Parts (⟨#[13, 10]⟩ : ByteArray).data.toList [13, 10] [] := parts_two 13 10 (by decide) (by decide) (by decide) (by decide)
theorem p9494 : Parts (⟨#[94, 94]⟩ : ByteArray).data.toList [94, 94] [] := parts_two 94 94 (by decide) (by decide) (by decide) (by decide)
/-! ### The plain functions -/
def gpc (n : Int) : Bool := (n == 32) || (n == 9)
def gapP (sl : List Int) (k : Nat) : Nat := k + ((sl.drop k).takeWhile gpc).length
def notN (n : Int) : Bool := !(n == 10)
def noteF (sl : List Int) (k : Nat) : Nat := k + ((sl.drop k).takeWhile notN).length
def noteP (sl : List Int) (k : Nat) : Nat := if sl[k]? = some 35 then noteF sl k else k
theorem while_step (f : Int → Bool) (sl : List Int) (k : Nat) (c : Int) (h : sl[k]? = some c) (hf : f c = true) : k + ((sl.drop k).takeWhile f).length = (k + 1) + ((sl.drop (k + 1)).takeWhile f).length := by
  rw [drop_cons sl k c h, List.takeWhile_cons, if_pos hf, List.length_cons]; omega
theorem while_stop (f : Int → Bool) (sl : List Int) (k : Nat) (h : ∀ c, sl[k]? = some c → f c = false) : k + ((sl.drop k).takeWhile f).length = k := by
  cases hx : sl[k]? with
  | none => rw [List.drop_eq_nil_of_le (List.getElem?_eq_none_iff.1 hx)]; rfl
  | some c => rw [drop_cons sl k c hx, List.takeWhile_cons, if_neg (by rw [h c hx]; decide)]; rfl
theorem takeWhile_len (f : Int → Bool) : ∀ l : List Int, (l.takeWhile f).length ≤ l.length
  | [] => Nat.le_refl _
  | n :: l => by rw [List.takeWhile_cons]; split <;> simp [takeWhile_len f l]
theorem while_le (f : Int → Bool) (sl : List Int) (k : Nat) (h : k ≤ sl.length) : k + ((sl.drop k).takeWhile f).length ≤ sl.length := by
  have := takeWhile_len f (sl.drop k)
  rw [List.length_drop] at this; omega
theorem gapP_le (sl : List Int) (k : Nat) (h : k ≤ sl.length) : gapP sl k ≤ sl.length ∧ k ≤ gapP sl k := ⟨while_le _ _ _ h, by unfold gapP; omega⟩
theorem noteP_le (sl : List Int) (k : Nat) (h : k ≤ sl.length) : noteP sl k ≤ sl.length ∧ k ≤ noteP sl k := by
  unfold noteP noteF
  split
  · exact ⟨while_le _ _ _ h, by omega⟩
  · exact ⟨h, Nat.le_refl _⟩
/-- The line's end, if it may come at a place. -/
def overE (sl : List Int) (i : Nat) : Nat × Bool :=
  if i = sl.length then (i, true) else if sl[i]? = some 10 then (i + 1, true) else if sl[i]? = some 13 ∧ sl[i + 1]? = some 10 then (i + 2, true) else (i, false)
def overP (sl : List Int) (k : Nat) : Nat × Bool := overE sl (noteP sl (gapP sl k))
theorem overE_le (sl : List Int) (i : Nat) (h : i ≤ sl.length) : (overE sl i).1 ≤ sl.length ∧ i ≤ (overE sl i).1 ∧ ((overE sl i).2 = true → i < sl.length → i < (overE sl i).1) := by
  unfold overE
  split
  · exact ⟨by dsimp only; omega, Nat.le_refl _, fun _ h => by omega⟩
  split
  · rename_i h1 h2
    have := (List.getElem?_eq_some_iff.1 h2).1
    exact ⟨by dsimp only; omega, by dsimp only; omega, fun _ _ => by dsimp only; omega⟩
  split
  · rename_i h1 h2 h3
    have := (List.getElem?_eq_some_iff.1 h3.2).1
    exact ⟨by dsimp only; omega, by dsimp only; omega, fun _ _ => by dsimp only; omega⟩
  · exact ⟨h, Nat.le_refl _, fun h => by cases h⟩
theorem overP_le (sl : List Int) (k : Nat) (h : k ≤ sl.length) : (overP sl k).1 ≤ sl.length ∧ k ≤ (overP sl k).1 ∧ ((overP sl k).2 = true → k < sl.length → k < (overP sl k).1) := by
  have h1 := gapP_le sl k h
  have h2 := noteP_le sl (gapP sl k) h1.1
  have h3 := overE_le sl _ h2.1
  refine ⟨h3.1, by unfold overP; omega, fun h4 h5 => ?_⟩
  unfold overP at *
  by_cases h6 : noteP sl (gapP sl k) = sl.length
  · omega
  · have := h3.2.2 h4 (by omega); omega
def SkI (B : Nat) (w : World) (b : Nat) (v : Value) (sl : List Int) (k g : Nat) (wr : World) : Prop :=
  ∃ p, gapP sl p = gapP sl k ∧ p ≤ sl.length ∧ sl.length - p ≤ g ∧ Moves B w b v sl p wr
set_option maxHeartbeats 4000000 in
set_option maxRecDepth 100000 in
theorem nskip_any {B : Nat} {w : World} {b : Nat} {v : Value} {sl : List Int} {k : Nat} (h : Sc B w b v sl k) (hk : k ≤ sl.length) (hl : sl.length ≤ 4294967296) :
    Calls Tryd.prog 96 #[.pointer (some ⟨b, 0, none⟩)] w fun e w' => e = .returned (.tuple #[]) ∧ Moves B w b v sl (gapP sl k) w' := by
  have HS := Lib.hid (Moves.start h)
  clear h
  go_enter Tryd.func96, Tryd.ntmps96
  go_wp2
  go_loopg [] (sl.length - k) (fun g wr => SkI B w b v sl k g wr)
  case atStart => exact ⟨k, rfl, hk, Nat.le_refl _, HS.out⟩
  case round =>
    obtain ⟨p, hp, hpl, hpg, hM⟩ := hrel
    have HP := Lib.hid hp
    by_cases h1 : sl[p]? = some 32
    · have c1 := mv_is_yes hpl hl 32 _ p32 (by decide) h1 hM
      have hlt := (List.getElem?_eq_some_iff.1 h1).1
      obtain ⟨g, rfl⟩ : ∃ g, gk = g + 1 := ⟨gk - 1, by omega⟩
      have HF : Hid (gapP sl (p + 1) = gapP sl k) := Lib.hid (by rw [← hp]; exact (while_step gpc sl p 32 h1 rfl).symm)
      clear hp h1 hM
      go_wp2_with (go_at_call 91; (with_reducible refine c1.mono ?_); rintro e x1 ⟨rfl, m1⟩)
      go_roundg g
      case measure => omega
      case rel => exact ⟨p + 1, HF.out, by omega, by omega, m1⟩
    · have c1 := mv_is_no hpl hl 32 _ p32 (by decide) h1 hM
      by_cases h2 : sl[p]? = some 9
      · have c2 := fun (W : World) (x : Moves B w b v sl p W) => mv_is_yes hpl hl 9 _ p9 (by decide) h2 x
        have hlt := (List.getElem?_eq_some_iff.1 h2).1
        obtain ⟨g, rfl⟩ : ∃ g, gk = g + 1 := ⟨gk - 1, by omega⟩
        have HF : Hid (gapP sl (p + 1) = gapP sl k) := Lib.hid (by rw [← hp]; exact (while_step gpc sl p 9 h2 rfl).symm)
        clear hp h1 h2 hM
        go_wp2_with (first
          | (go_at_call 91; (with_reducible refine c1.mono ?_); rintro e x1 ⟨rfl, m1⟩)
          | (go_at_call 91; (with_reducible refine (c2 _ (by assumption)).mono ?_); rintro e x2 ⟨rfl, m2⟩))
        go_roundg g
        case measure => omega
        case rel => exact ⟨p + 1, HF.out, by omega, by omega, m2⟩
      · have c2 := fun (W : World) (x : Moves B w b v sl p W) => mv_is_no hpl hl 9 _ p9 (by decide) h2 x
        have HF : Hid (gapP sl k = p) := Lib.hid (by
          rw [← hp]
          refine while_stop gpc sl p (fun c hc => ?_)
          unfold gpc
          have n1 : c ≠ 32 := fun e => h1 (by rw [hc, e])
          have n2 : c ≠ 9 := fun e => h2 (by rw [hc, e])
          simp [n1, n2])
        clear hp h1 h2 hM
        go_wp2_with (first
          | (go_at_call 91; (with_reducible refine c1.mono ?_); rintro e x1 ⟨rfl, m1⟩)
          | (go_at_call 91; (with_reducible refine (c2 _ (by assumption)).mono ?_); rintro e x2 ⟨rfl, m2⟩))
        (try rw [Exit.noGoto_ret])
        go_end0
        exact ⟨rfl, by rw [HF.out]; exact m2⟩
def NoI (B : Nat) (w : World) (b : Nat) (v : Value) (sl : List Int) (k g : Nat) (wr : World) : Prop :=
  ∃ p, noteF sl p = noteF sl k ∧ p ≤ sl.length ∧ sl.length - p ≤ g ∧ Moves B w b v sl p wr
/-- What the four ways of a line's end say of the three calls at its end. -/
theorem over_ways (sl : List Int) (i : Nat) (h : i ≤ sl.length) :
    (i = sl.length ∧ overE sl i = (i, true)) ∨ (¬ i = sl.length ∧ ((sl[i]? = some 10 ∧ overE sl i = (i + 1, true)) ∨ (¬ sl[i]? = some 10 ∧ (((sl[i]? = some 13 ∧ sl[i + 1]? = some 10) ∧ overE sl i = (i + 2, true)) ∨ (¬ (sl[i]? = some 13 ∧ sl[i + 1]? = some 10) ∧ overE sl i = (i, false)))))) := by
  unfold overE
  by_cases h1 : i = sl.length
  · exact .inl ⟨h1, by rw [if_pos h1]⟩
  refine .inr ⟨h1, ?_⟩
  rw [if_neg h1]
  by_cases h2 : sl[i]? = some 10
  · exact .inl ⟨h2, by rw [if_pos h2]⟩
  refine .inr ⟨h2, ?_⟩
  rw [if_neg h2]
  by_cases h3 : sl[i]? = some 13 ∧ sl[i + 1]? = some 10
  · exact .inl ⟨h3, by rw [if_pos h3]⟩
  · exact .inr ⟨h3, by rw [if_neg h3]⟩
/-- The three calls at a line's end, at place i: one for each way. -/
def Three (B : Nat) (w : World) (b : Nat) (v : Value) (sl : List Int) (i : Nat) (e0 e1 e2 : Bool) (j1 j2 : Nat) : Prop :=
  (∀ {W : World}, Moves B w b v sl i W → Calls Tryd.prog 63 #[.pointer (some ⟨b, 0, none⟩)] W fun e w' => e = .returned (.bool e0) ∧ Moves B w b v sl i w') ∧
  (∀ {W : World}, Moves B w b v sl i W → Calls Tryd.prog 91 #[.pointer (some ⟨b, 0, none⟩), .string ⟨#[10]⟩] W fun e w' => e = .returned (.bool e1) ∧ Moves B w b v sl j1 w') ∧
  (∀ {W : World}, Moves B w b v sl i W → Calls Tryd.prog 91 #[.pointer (some ⟨b, 0, none⟩), .string ⟨#[13, 10]⟩] W fun e w' => e = .returned (.bool e2) ∧ Moves B w b v sl j2 w')
theorem three_ways {B : Nat} {w : World} {b : Nat} {v : Value} (sl : List Int) (i : Nat) (h : i ≤ sl.length) (hl : sl.length ≤ 4294967296) : ∃ e0 e1 e2 j1 j2, Three B w b v sl i e0 e1 e2 j1 j2 ∧
    ((e0 = true ∧ i = sl.length ∧ overE sl i = (i, true)) ∨ (e0 = false ∧ ¬ i = sl.length ∧ ((e1 = true ∧ overE sl i = (j1, true)) ∨ (e1 = false ∧ j1 = i ∧ ((e2 = true ∧ overE sl i = (j2, true)) ∨ (e2 = false ∧ overE sl i = (j2, false))))))) := by
  have hE := fun {W : World} (x : Moves B w b v sl i W) => mv_end h hl x
  by_cases h2 : sl[i]? = some 10
  · have h3 : ¬ (sl[i]? = some 13 ∧ sl[i + 1]? = some 10) := fun e => by rw [h2] at e; exact absurd e.1 (by decide)
    refine ⟨_, _, _, _, _, ⟨hE, fun x => mv_is_yes h hl 10 _ p10 (by decide) h2 x, fun x => mv_is2_no h hl 13 10 _ p1310 (by decide) h3 x⟩, ?_⟩
    rcases over_ways sl i h with ⟨a, b⟩ | ⟨a, ⟨b, c⟩ | ⟨b, _⟩⟩
    · exact .inl ⟨decide_eq_true a, a, b⟩
    · exact .inr ⟨decide_eq_false a, a, .inl ⟨rfl, c⟩⟩
    · exact absurd h2 b
  · by_cases h3 : sl[i]? = some 13 ∧ sl[i + 1]? = some 10
    · refine ⟨_, _, _, _, _, ⟨hE, fun x => mv_is_no h hl 10 _ p10 (by decide) h2 x, fun x => mv_is2_yes h hl 13 10 _ p1310 (by decide) h3 x⟩, ?_⟩
      rcases over_ways sl i h with ⟨a, b⟩ | ⟨a, ⟨b, c⟩ | ⟨b, ⟨c, d⟩ | ⟨c, d⟩⟩⟩
      · exact .inl ⟨decide_eq_true a, a, b⟩
      · exact absurd b h2
      · exact .inr ⟨decide_eq_false a, a, .inr ⟨rfl, rfl, .inl ⟨rfl, d⟩⟩⟩
      · exact absurd h3 c
    · refine ⟨_, _, _, _, _, ⟨hE, fun x => mv_is_no h hl 10 _ p10 (by decide) h2 x, fun x => mv_is2_no h hl 13 10 _ p1310 (by decide) h3 x⟩, ?_⟩
      rcases over_ways sl i h with ⟨a, b⟩ | ⟨a, ⟨b, c⟩ | ⟨b, ⟨c, d⟩ | ⟨c, d⟩⟩⟩
      · exact .inl ⟨decide_eq_true a, a, b⟩
      · exact absurd b h2
      · exact absurd c h3
      · exact .inr ⟨decide_eq_false a, a, .inr ⟨rfl, rfl, .inr ⟨rfl, d⟩⟩⟩
def EnPost (B : Nat) (w : World) (b : Nat) (v : Value) (sl : List Int) (r : Nat × Bool) (e : Ending) (w' : World) : Prop := e = .returned (.bool r.2) ∧ Moves B w b v sl r.1 w'
set_option maxHeartbeats 8000000 in
set_option maxRecDepth 100000 in
theorem nend_any {B : Nat} {w : World} {b : Nat} {v : Value} {sl : List Int} {k : Nat} (h : Sc B w b v sl k) (hk : k ≤ sl.length) (hl : sl.length ≤ 4294967296) :
    Calls Tryd.prog 64 #[.pointer (some ⟨b, 0, none⟩)] w (EnPost B w b v sl (overP sl k)) := by
  have cS : ∀ {W : World}, Moves B w b v sl k W → Calls Tryd.prog 96 #[.pointer (some ⟨b, 0, none⟩)] W fun e w' => e = .returned (.tuple #[]) ∧ Moves B w b v sl (gapP sl k) w' := fun {W} x => (nskip_any x.1 hk hl).mono fun _ _ ⟨a, y⟩ => ⟨a, x.to y⟩
  have h0 := Moves.start h
  obtain ⟨r, hr⟩ : ∃ r, r = overP sl k := ⟨_, rfl⟩
  rw [← hr]
  unfold overP at hr
  have hq := (gapP_le sl k hk).1
  obtain ⟨q, hqq⟩ : ∃ q, q = gapP sl k := ⟨_, rfl⟩
  rw [← hqq] at cS hr hq
  have hi := (noteP_le sl q hq).1
  obtain ⟨i, hii⟩ : ∃ i, i = noteP sl q := ⟨_, rfl⟩
  rw [← hii] at hr hi
  obtain ⟨e0, e1, e2, j1, j2, ⟨cE, cN, cR⟩, hw⟩ := three_ways (B := B) (w := w) (b := b) (v := v) sl i hi hl
  have HR := Lib.hid hr
  clear h hr hqq
  have cP : ∀ {W : World}, Moves B w b v sl q W → Calls Tryd.prog 87 #[.pointer (some ⟨b, 0, none⟩)] W fun e w' => e = .returned (.int .i32 (pk sl q)) ∧ Moves B w b v sl q w' := fun {W} x => mv_pk hq hl x
  by_cases h35 : sl[q]? = some 35
  · have hp : pk sl q = 35 := by unfold pk; rw [h35]; rfl
    rw [hp] at cP
    have hif : i = noteF sl q := by rw [hii]; unfold noteP; rw [if_pos h35]
    have HI := Lib.hid hif
    clear hp hif hii h35
    go_enter Tryd.func64, Tryd.ntmps64
    go_wp2_with (first
      | (go_at_call 96; (with_reducible refine (cS (by assumption)).mono ?_); rintro e x1 ⟨rfl, m1⟩)
      | (go_at_call 87; (with_reducible refine (cP (by assumption)).mono ?_); rintro e x2 ⟨rfl, m2⟩))
    go_loopg [] (sl.length - q) (fun g wr => NoI B w b v sl q g wr)
    case atStart => exact ⟨q, rfl, hq, Nat.le_refl _, m2⟩
    case round =>
      clear m1 m2 h0 cP cS
      obtain ⟨p, hp, hpl, hpg, hM⟩ := hrel
      have HP := Lib.hid hp
      have cEp : ∀ {W : World}, Moves B w b v sl p W → Calls Tryd.prog 63 #[.pointer (some ⟨b, 0, none⟩)] W fun e w' => e = .returned (.bool (decide (p = sl.length))) ∧ Moves B w b v sl p w' := fun {W} x => mv_end hpl hl x
      clear hp
      by_cases hpe : p = sl.length
      · rw [decide_eq_true hpe] at cEp
        have hpi : i = p := by
          rw [HI.out, ← HP.out]
          exact while_stop notN sl p (fun c hc => by rw [hpe, List.getElem?_eq_none (Nat.le_refl _)] at hc; cases hc)
        subst hpi
        rcases hw with ⟨rfl, _, w1⟩ | ⟨_, hne, _⟩
        · have HW := Lib.hid w1
          clear w1 hpe
          go_wp2_with (go_at_call 63; (with_reducible refine (cEp (by assumption)).mono ?_); rintro e x1 ⟨rfl, m1⟩; clear hM; have hM := m1; clear m1)
          (try rw [Exit.noGoto_ret])
          go_ret
          rw [HR.out, HW.out]
          exact ⟨rfl, hM⟩
        · exact absurd hpe hne
      · rw [decide_eq_false hpe] at cEp
        obtain ⟨c, hx⟩ : ∃ c, sl[p]? = some c := ⟨_, List.getElem?_eq_getElem (by omega)⟩
        have cPp : ∀ {W : World}, Moves B w b v sl p W → Calls Tryd.prog 87 #[.pointer (some ⟨b, 0, none⟩)] W fun e w' => e = .returned (.int .i32 c) ∧ Moves B w b v sl p w' := fun {W} x => mv_peek hx hl x
        by_cases hc : c = 10
        · have hpi : i = p := by
            rw [HI.out, ← HP.out]
            exact while_stop notN sl p (fun c' hc' => by rw [hx, hc] at hc'; cases hc'; rfl)
          subst hpi
          subst hc
          clear hx
          rcases hw with ⟨rfl, _, w1⟩ | ⟨rfl, _, ⟨rfl, w1⟩ | ⟨rfl, rfl, ⟨rfl, w1⟩ | ⟨rfl, w1⟩⟩⟩
          all_goals
            have HW := Lib.hid w1
            clear w1 hpe
            go_wp2_with (first
              | (go_at_call 63; (with_reducible refine (cE (by assumption)).mono ?_); rintro e x1 ⟨rfl, m1⟩; clear hM; have hM := m1; clear m1)
              | (go_at_call 87; (with_reducible refine (cPp (by assumption)).mono ?_); rintro e x4 ⟨rfl, m4⟩; clear hM; have hM := m4; clear m4)
              | (go_at_call 91; (with_reducible refine (cN (by assumption)).mono ?_); rintro e x2 ⟨rfl, m2⟩; clear hM; have hM := m2; clear m2)
              | (go_at_call 91; (with_reducible refine (cR (by assumption)).mono ?_); rintro e x3 ⟨rfl, m3⟩; clear hM; have hM := m3; clear m3))
            (try rw [Exit.noGoto_ret])
            go_ret
            rw [HR.out, HW.out]
            exact ⟨rfl, hM⟩
        · have g10 : (c != 10) = true := by simpa using hc
          have cX : ∀ {W : World}, Moves B w b v sl p W → Calls Tryd.prog 90 #[.pointer (some ⟨b, 0, none⟩)] W fun e w' => e = .returned (.int .i32 c) ∧ Moves B w b v sl (p + 1) w' := fun {W} x => mv_next hx hl x
          obtain ⟨g, rfl⟩ : ∃ g, gk = g + 1 := ⟨gk - 1, by omega⟩
          have HF : Hid (noteF sl (p + 1) = noteF sl q) := Lib.hid (by rw [← HP.out]; exact (while_step notN sl p c hx (by unfold notN; simpa using hc)).symm)
          clear hx hc hw
          go_wp2_with (first
            | (go_at_call 63; (with_reducible refine (cEp (by assumption)).mono ?_); rintro e x1 ⟨rfl, m1⟩)
            | (go_at_call 87; (with_reducible refine (cPp (by assumption)).mono ?_); rintro e x4 ⟨rfl, m4⟩)
            | (go_at_call 90; (with_reducible refine (cX (by assumption)).mono ?_); rintro e x5 ⟨rfl, m5⟩))
          go_roundg g
          case measure => omega
          case rel => exact ⟨p + 1, HF.out, by omega, by omega, m5⟩
  · have hiq : i = q := by rw [hii]; unfold noteP; rw [if_neg h35]
    have hp : (pk sl q == 35) = false := by
      unfold pk
      cases hx : sl[q]? with
      | none => rfl
      | some c => rw [hx] at h35; simpa using h35
    subst hiq
    obtain ⟨z, hz⟩ : ∃ z, z = pk sl i := ⟨_, rfl⟩
    rw [← hz] at cP hp
    clear hii h35 hz
    rcases hw with ⟨rfl, _, w1⟩ | ⟨rfl, _, ⟨rfl, w1⟩ | ⟨rfl, rfl, ⟨rfl, w1⟩ | ⟨rfl, w1⟩⟩⟩
    all_goals
      have HW := Lib.hid w1
      clear w1
      go_enter Tryd.func64, Tryd.ntmps64
      go_wp2_with (first
        | (go_at_call 96; (with_reducible refine (cS (by assumption)).mono ?_); rintro e x1 ⟨rfl, m1⟩; clear h0; have hM := m1; clear m1)
        | (go_at_call 87; (with_reducible refine (cP (by assumption)).mono ?_); rintro e x2 ⟨rfl, m2⟩; clear hM; have hM := m2; clear m2)
        | (go_at_call 63; (with_reducible refine (cE (by assumption)).mono ?_); rintro e x3 ⟨rfl, m3⟩; clear hM; have hM := m3; clear m3)
        | (go_at_call 91; (with_reducible refine (cN (by assumption)).mono ?_); rintro e x4 ⟨rfl, m4⟩; clear hM; have hM := m4; clear m4)
        | (go_at_call 91; (with_reducible refine (cR (by assumption)).mono ?_); rintro e x5 ⟨rfl, m5⟩; clear hM; have hM := m5; clear m5))
      go_ret
      rw [HR.out, HW.out]
      exact ⟨rfl, hM⟩
end Go.Proofs.YtcllamipcgbfiaaDoor
