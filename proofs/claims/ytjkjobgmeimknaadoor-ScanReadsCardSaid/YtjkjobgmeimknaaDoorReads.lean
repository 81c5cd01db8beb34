/-
  ScanReads, FOR ANY BYTE STRING AND ANY PLACE: what is read as a quoted text from a place on is what the document reads there: the law returns true, and its arguments read as before. The table 'escapes' starts as the program's text lays it (tied).
-/
import Derived.Test.YtjkjobgmeimknaaDoorRQdC
import Derived.Test.YtjkjobgmeimknaaDoorKit2
import Derived.Test.YtjkjobgmeimknaaDoorCards
import Derived.Test.YtjkjobgmeimknaaDoorTie
namespace Go.Proofs.YtjkjobgmeimknaaDoor
open Go.ChangeShapes Go.WideShapes Go.ChangeAt Go.RowKit
set_option linter.unusedVariables false

theorem ints_open {B : Nat} {w : World} {v : Value} {l : List Int} (h : Ints B w v l) : ∃ ao cap, v = .slice ao l.length cap ∧
    (0 < l.length → ∃ g, ao = some ⟨g, 0, none⟩ ∧ g < w.heap.size ∧ ∀ (j : Nat) (x : Int), l[j]? = some x → w.cell? ⟨g, 0 + j, none⟩ = some (.int .i64 x)) := by
  rcases id h.2 with ⟨hv, h0⟩ | ⟨g, cap, cur, hv, _⟩
  · exact ⟨none, 0, by rw [hv, h0], fun hp => by omega⟩
  · refine ⟨_, cap, hv, fun _ => ⟨g, rfl, (World.ownsRow.lt h g (by rw [hv]; rfl)).2, ?_⟩⟩
    intro j x hx
    subst hv
    have := World.ownsRow.cells h (g := g) rfl j (.int .i64 x) (by simp [intRow, hx])
    rw [addr_add] at this
    rw [Nat.zero_add]
    exact this
theorem text_ints {B : Nat} {W : World} {v : Value} {l : List Int} (h : Ints B W v l) (hall : AllS l) (hl : l.length ≤ 1000000) :
    Calls Tryd.prog 31 #[v] W fun e w' => e = .returned (.string (textOf l)) ∧ Below W.heap.size W w' := by
  obtain ⟨ao, cap, rfl, hc⟩ := ints_open h
  by_cases h0 : 0 < l.length
  · obtain ⟨g, rfl, hlt, hcell⟩ := hc h0
    exact text_any l hall hl _ g 0 cap W (fun _ => ⟨rfl, hlt⟩) hcell
  · obtain rfl : l = [] := List.length_eq_zero_iff.1 (by omega)
    exact text_any [] hall hl ao 0 0 cap W (fun hp => absurd hp (by simp)) (fun j x hx => by simp at hx)
theorem rquoted_ints {B : Nat} {W : World} {v : Value} {sl : List Int} (h : Ints B W v sl) (k : Nat) (hl : sl.length ≤ 100000) :
    Calls Tryd.prog 30 #[v, .int .i64 k] W (QxPost W.heap.size W (qd sl k)) := by
  obtain ⟨ao, cap, rfl, hc⟩ := ints_open h
  by_cases hk : k < sl.length
  · obtain ⟨g, rfl, hlt, hcell⟩ := hc (by omega)
    exact rquoted_at sl k hk hl g 0 cap W hlt hcell
  · exact rquoted_far sl k (by omega) ao cap W
theorem qf_good (sl : List Int) (hall : AllS sl) : ∀ (f p : Nat) (acc l : List Int), AllS acc → (qf sl f p acc).2 = some l → AllS l ∧ l.length ≤ acc.length + f
  | 0, p, acc, l, ha, h => by unfold qf at h; cases h
  | f + 1, p, acc, l, ha, h => by
    have snoc : ∀ x : Int, sgn x = true → AllS (acc ++ [x]) := fun x hx n hn => by
      rcases List.mem_append.1 hn with hn | hn
      · exact ha n hn
      · simp at hn; subst hn; exact hx
    unfold qf at h
    cases hx : sl[p]? with
    | none => rw [hx] at h; cases h
    | some c =>
      rw [hx] at h
      dsimp only at h
      split at h
      · simp at h
        subst h
        exact ⟨ha, by omega⟩
      split at h
      · cases h
      split at h
      · cases he : (ef sl (p + 1)).2 with
        | none => rw [he] at h; cases h
        | some n =>
          rw [he] at h
          dsimp only at h
          obtain ⟨a, b⟩ := qf_good sl hall f _ (acc ++ [n]) l (snoc n (ef_sgn sl (p + 1) n he)) h
          exact ⟨a, by simp at b; omega⟩
      · obtain ⟨a, b⟩ := qf_good sl hall f _ (acc ++ [c]) l (snoc c (hall c (List.mem_of_getElem? hx))) h
        exact ⟨a, by simp at b; omega⟩
theorem qd_good (sl : List Int) (hall : AllS sl) (k p : Nat) (l : List Int) (h : qd sl k = (p, some l)) : AllS l ∧ l.length ≤ sl.length := by
  unfold qd at h
  split at h
  · obtain ⟨a, b⟩ := qf_good sl hall (sl.length - (k + 1)) (k + 1) [] l (fun n hn => by cases hn) (by rw [h])
    exact ⟨a, by simp at b; omega⟩
  · cases h
section
variable {w : World} {b : Nat} {v vI : Value} {sl : List Int} {k : Nat}
theorem ts_quoted_some (hk : k ≤ sl.length) (hl : sl.length ≤ 100000) (hall : AllS sl) (t : TypeId) (fr : Nat × Nat) (htab : w.heap[0]? = some (.cells escCells t fr)) (p : Nat) (l : List Int) (hq : qd sl k = (p, some l)) (W : World) (h : TS w b v vI sl k W) :
    Calls Tryd.prog 28 #[.pointer (some ⟨b, 0, none⟩)] W fun e w' => e = .returned (.tuple #[.string (textOf l), .int .i64 p, .int .i64 0]) ∧ TS w b v vI sl p w' := by
  have := quoted_any h.1 hk hl hall t fr (tab_below htab h.2.2 (Array.getElem?_eq_some_iff.1 htab).1)
  rw [hq] at this
  exact this.mono fun e w' ⟨x, m⟩ => ⟨x, h.moves m⟩
theorem ts_quoted_none (hk : k ≤ sl.length) (hl : sl.length ≤ 100000) (hall : AllS sl) (t : TypeId) (fr : Nat × Nat) (htab : w.heap[0]? = some (.cells escCells t fr)) (p : Nat) (hq : qd sl k = (p, none)) (W : World) (h : TS w b v vI sl k W) :
    Calls Tryd.prog 28 #[.pointer (some ⟨b, 0, none⟩)] W fun e w' => e = .returned (.tuple #[.string ⟨#[]⟩, .int .i64 p, .int .i64 1]) ∧ TS w b v vI sl k w' := by
  have := quoted_any h.1 hk hl hall t fr (tab_below htab h.2.2 (Array.getElem?_eq_some_iff.1 htab).1)
  rw [hq] at this
  exact this.mono fun e w' ⟨x, m⟩ => ⟨x, h.moves m⟩
theorem ts_rquoted (hl : sl.length ≤ 100000) (k' p : Nat) (o : Option (List Int)) (hq : qd sl k' = (p, o)) (W : World) (h : TS w b v vI sl k W) :
    Calls Tryd.prog 30 #[vI, .int .i64 k'] W fun e w' => ∃ v2, e = .returned (.tuple #[v2, .int .i64 p, .bool o.isSome]) ∧ Ints W.heap.size w' v2 (o.getD []) ∧ TS w b v vI sl k w' := by
  have := rquoted_ints h.2.1 k' hl
  rw [hq] at this
  exact this.mono fun e w' ⟨v2, x, y, z⟩ => ⟨v2, x, y, h.below z⟩
theorem ts_text2 {B : Nat} {v2 : Value} {l : List Int} (hall : AllS l) (hl : l.length ≤ 1000000) {W : World} (hI : Ints B W v2 l) (h : TS w b v vI sl k W) :
    Calls Tryd.prog 31 #[v2] W fun e w' => e = .returned (.string (textOf l)) ∧ TS w b v vI sl k w' :=
  (text_ints hI hall hl).mono fun e w' ⟨x, y⟩ => ⟨x, h.below y⟩
end

set_option maxHeartbeats 8000000 in
set_option maxRecDepth 100000 in
theorem reads_walk (s : ByteArray) (_hs : s.size ≤ maxLen) (x : Int) (x0 : 0 ≤ x) (x1 : x ≤ 255) (w : World) (t : TypeId) (fr : Nat × Nat) (htab : w.heap[0]? = some (.cells escCells t fr)) :
    Calls Tryd.prog 6 #[.string s, .int .u8 x] w fun e w' => e = .returned (.bool true) ∧ Below w.heap.size w w' := by
  have cA := ever_awake htab
  have HTAB := Lib.hid htab
  clear htab
  have hb0 : Below w.heap.size w w := Below.refl _ _
  by_cases hlen : 300 < s.size
  · go_enter Tryd.func6, Tryd.ntmps6
    go_wp2_with (go_at_call 13; (with_reducible refine (cA.at (by assumption)).mono ?_); rintro e w1 ⟨rfl, hb1⟩)
    all_goals (go_ret; exact ⟨rfl, by assumption⟩)
  · obtain ⟨sl, rest, hp⟩ := parts_of s.data.toList
    have hl : sl.length ≤ 300 := by have := hp.size; have := encL_len sl; omega
    have sA : ∀ W, Calls Tryd.prog 14 #[.string s] W (SignsPost W sl (decide (rest = []))) := fun W => signs_any s sl rest hp (by omega) W
    by_cases hr : rest = []
    · subst hr
      have hd : decide (([] : List UInt8) = []) = true := rfl
      rw [hd] at sA
      have cN : ∀ W, Calls Tryd.prog 17 #[.string s] W (NewPost W sl) := fun W => new_good s sl hp (by omega) W
      have hall := hp.all
      have hwx : wrap64 x = x := by first | exact IntWalk.i64_in x (by omega) | (unfold wrap64; omega)
      obtain ⟨k, hk⟩ : ∃ k : Nat, x.tmod ((sl.length : Int) + 1) = k := ⟨(x.tmod ((sl.length : Int) + 1)).toNat, by have := Int.tmod_nonneg ((sl.length : Int) + 1) x0; omega⟩
      have hkl : k ≤ sl.length := by have := Int.tmod_lt_of_pos x (show (0 : Int) < (sl.length : Int) + 1 by omega); omega
      have hne : ¬ ((sl.length : Int) + 1 = 0) := by omega
      have hneb : (((sl.length : Int) + 1) == 0) = false := by rw [beq_eq_false_iff_ne]; exact hne
      have hw1 : IntKind.i64.wrap ((sl.length : Int) + 1) = (sl.length : Int) + 1 := IntWalk.i64_in _ (by omega)
      have hw2 : IntKind.i64.wrap (k : Int) = k := IntWalk.i64_in _ (by omega)
      obtain ⟨p, o, hq⟩ : ∃ p o, qd sl k = (p, o) := ⟨_, _, rfl⟩
      have cK : ∀ {b v vI W}, TS w b v vI sl 0 W → Calls Tryd.prog 29 #[.pointer (some ⟨b, 0, none⟩), .int .i64 k] W fun e w' => e = .returned (.bool true) ∧ TS w b v vI sl k w' := fun {b v vI W} h => ts_back (w := w) k hkl (by omega) W h
      have cR := fun {b v vI W} (h : TS w b v vI sl k W) => ts_rquoted (w := w) (by omega) k p o hq W h
      have cR2 := fun {b v vI W} (h : TS w b v vI sl p W) => ts_rquoted (w := w) (by omega) k p o hq W h
      have cP : ∀ {b v vI W q}, TS w b v vI sl q W → Calls Tryd.prog 19 #[.pointer (some ⟨b, 0, none⟩)] W fun e w' => e = .returned (.int .i64 q) ∧ TS w b v vI sl q w' := fun {b v vI W q} h => ts_place (w := w) W h
      cases o with
      | some l =>
        obtain ⟨g1, g2⟩ := qd_good sl hall k p l hq
        have cQ := fun {b v vI W} (h : TS w b v vI sl k W) => ts_quoted_some (w := w) hkl (by omega) hall t fr HTAB.out p l hq W h
        have cT := fun {B v2 b v vI W} (hI : Ints B W v2 l) (h : TS w b v vI sl p W) => ts_text2 (w := w) g1 (by omega) hI h
        clear hd hp hall x0 x1 hkl hq g1 g2 cR
        go_enter Tryd.func6, Tryd.ntmps6
        go_wp2_with (first
          | (go_at_call 13; (with_reducible refine (cA.at (by assumption)).mono ?_); rintro e w1 ⟨rfl, hb1⟩)
          | (go_at_call 14; (with_reducible refine (sA _).mono ?_); rintro e w2 ⟨vI, rfl, hI2, hb2⟩; obtain ⟨aoI, capI, rfl⟩ := ints_shape hI2; have hb3 := hb1.trans (hb2.mono hb1.size); have hI3 := ints_mono hI2 hb1.size; clear hb2 hI2)
          | (go_at_call 17; (with_reducible refine (cN _).mono ?_); rintro e w6 ⟨b, v, rfl, hsc6, hb8⟩; have hTS : TS w b v (.slice aoI sl.length capI) sl 0 w6 := ⟨hsc6.mono hb3.size, ints_below hI3 hb8, hb3.trans (hb8.mono hb3.size)⟩; clear hsc6 hb8 hI3)
          | (go_at_call 29; (with_reducible refine (cK hTS).mono ?_); rintro e y1 ⟨rfl, hT1⟩)
          | (go_at_call 28; (with_reducible refine (cQ hT1).mono ?_); rintro e y2 ⟨rfl, hT2⟩)
          | (go_at_call 30; (with_reducible refine (cR2 hT2).mono ?_); rintro e y3 ⟨v3, rfl, hI3, hT3⟩)
          | (go_at_call 31; (with_reducible refine (cT hI3 hT3).mono ?_); rintro e y4 ⟨rfl, hT4⟩)
          | (go_at_call 19; (with_reducible refine (cP (by assumption)).mono ?_); rintro e y5 ⟨rfl, hT5⟩))
        go_ret
        exact ⟨ret_bool (by first | rfl | simp), hT5.2.2⟩
      | none =>
        have cQ := fun {b v vI W} (h : TS w b v vI sl k W) => ts_quoted_none (w := w) hkl (by omega) hall t fr HTAB.out p hq W h
        have cT : ∀ {B v2 b v vI W}, Ints B W v2 [] → TS w b v vI sl k W → Calls Tryd.prog 31 #[v2] W fun e w' => e = .returned (.string ⟨#[]⟩) ∧ TS w b v vI sl k w' := fun {B v2 b v vI W} hI h => ts_text2 (w := w) (fun n hn => by cases hn) (by simp) hI h
        clear hd hp hall x0 x1 hkl hq cR2
        go_enter Tryd.func6, Tryd.ntmps6
        go_wp2_with (first
          | (go_at_call 13; (with_reducible refine (cA.at (by assumption)).mono ?_); rintro e w1 ⟨rfl, hb1⟩)
          | (go_at_call 14; (with_reducible refine (sA _).mono ?_); rintro e w2 ⟨vI, rfl, hI2, hb2⟩; obtain ⟨aoI, capI, rfl⟩ := ints_shape hI2; have hb3 := hb1.trans (hb2.mono hb1.size); have hI3 := ints_mono hI2 hb1.size; clear hb2 hI2)
          | (go_at_call 17; (with_reducible refine (cN _).mono ?_); rintro e w6 ⟨b, v, rfl, hsc6, hb8⟩; have hTS : TS w b v (.slice aoI sl.length capI) sl 0 w6 := ⟨hsc6.mono hb3.size, ints_below hI3 hb8, hb3.trans (hb8.mono hb3.size)⟩; clear hsc6 hb8 hI3)
          | (go_at_call 29; (with_reducible refine (cK hTS).mono ?_); rintro e y1 ⟨rfl, hT1⟩)
          | (go_at_call 28; (with_reducible refine (cQ hT1).mono ?_); rintro e y2 ⟨rfl, hT2⟩)
          | (go_at_call 30; (with_reducible refine (cR hT2).mono ?_); rintro e y3 ⟨v3, rfl, hI3, hT3⟩)
          | (go_at_call 31; (with_reducible refine (cT hI3 hT3).mono ?_); rintro e y4 ⟨rfl, hT4⟩)
          | (go_at_call 19; (with_reducible refine (cP (by assumption)).mono ?_); rintro e y5 ⟨rfl, hT5⟩))
        go_ret
        exact ⟨ret_bool (by first | rfl | simp), hT5.2.2⟩
    · have hd : decide (rest = []) = false := decide_eq_false hr
      rw [hd] at sA
      have cN : ∀ W, Calls Tryd.prog 17 #[.string s] W fun e w' => e = .returned (.tuple #[.pointer none, .int .i64 sl.length, .int .i64 1]) ∧ Below W.heap.size W w' := fun W => new_bad s sl rest hp hr (by omega) W
      clear hd hp hr
      go_enter Tryd.func6, Tryd.ntmps6
      go_wp2_with (first
        | (go_at_call 13; (with_reducible refine (cA.at (by assumption)).mono ?_); rintro e w1 ⟨rfl, hb1⟩)
        | (go_at_call 14; (with_reducible refine (sA _).mono ?_); rintro e w2 ⟨vI, rfl, hI2, hb2⟩; obtain ⟨aoI, capI, rfl⟩ := ints_shape hI2; have hb3 := hb1.trans (hb2.mono hb1.size); clear hI2)
        | (go_at_call 17; (with_reducible refine (cN _).mono ?_); rintro e w6 ⟨rfl, hb6⟩; have hb7 := hb3.trans (hb6.mono hb3.size)))
      all_goals (go_ret; exact ⟨ret_bool (by first | rfl | simp), by assumption⟩)

namespace ScanReadsF
theorem contract (H : Type) (enc : TypeId × Value → H) (W : World) (base : Nat) (args : Array Value) (ds gs : List (DataW H)) (before : List MemPlace)
    (hval : ∀ (j : Nat) t v, Tryd.f6.params[j]? = some t → args[j]? = some v → Value.okWide Tryd.prog W .any base t v)
    (hW : DataW.Whole enc Tryd.prog Tryd.f6.params.toList Rows.scanReadsSpec.vars false W args.toList ds gs before) (hL : laidMetH Tryd.prog Rows.scanReadsRow.laid W) :
    Calls Tryd.prog 6 args W fun e W' => ∃ v, e = .returned v ∧ Rows.scanReadsSpec.post enc Tryd.prog Tryd.f6 false true false false W args v W' := by
  have hW' := hW
  obtain ⟨p, q, hA0, hV, rfl, hfz, hnd⟩ := hW
  have hA : DataW.TrodAll enc Tryd.prog W 0 (fun _ => true) true Tryd.f6.params.toList args.toList ds p := hA0
  rw [Tryd.params6] at hA hval
  obtain ⟨v0, vs0, d0, ds0, p0, q0, hargs, rfl, rfl, h0, r0⟩ := trodAll_cons hA
  obtain ⟨v1, vs1, d1, ds1, p1, q1, rfl, rfl, rfl, h1, r1⟩ := trodAll_cons r0
  obtain ⟨rfl, rfl, rfl⟩ := trodAll_nil r1
  obtain rfl : args = #[v0, v1] := by cases args; simp_all
  obtain ⟨rfl, rfl⟩ := trodVars_none hV
  obtain ⟨x0, rfl, rfl, rfl, w0⟩ := Go.ChangeMaps.open_string Tryd.underlying9 (hval 0 9 v0 rfl rfl) h0
  obtain ⟨x1, rfl, rfl, rfl, w1⟩ := open_int Tryd.underlying5 (hval 1 5 v1 rfl rfl) h1
  have bd1 := bounds_u8 w1
  clear hA0
  simp only [List.append_nil] at hW'
  obtain ⟨t, fr, htab⟩ := table hL
  refine (reads_walk x0 w0 x1 bd1.1 bd1.2 W t fr htab).mono fun e W' ⟨he, hb⟩ => ?_
  subst he
  exact ⟨_, rfl, _, _, _, [], [], [], hW', trodAll_mk1 (shut_bool Tryd.underlying4 _), trodAll_cons_mk (Go.ChangeMaps.shut_string Tryd.underlying9 w0) (trodAll_cons_mk (shut_int Tryd.underlying5 w1) (trodAll_mk0)), rfl, hb.frame _, fun h => by cases h⟩

noncomputable def laidWorld (os : Os) : World :=
  { World.holding Tryd.prog os ⟨#[], #[], []⟩ with heap := (World.holding Tryd.prog os ⟨#[], #[], []⟩).heap.modify 0 fun
      | .cells _ t frozen => .cells escCells t frozen
      | o => o }
theorem laid_met (os : Os) : laidMet Tryd.prog Rows.scanReadsRow.laid ((laidWorld os).forCall (fun _ _ => 0) ⟨#[], #[.string ⟨#[]⟩, .int .u8 0], []⟩).memory :=
  laidMet_of_run' 8 (by kernel_rfl) (by kernel_rfl)
theorem reads (os : Os) {H : Type} (enc : TypeId × Value → H) : ∃ places, DataW.whole enc Tryd.prog ((laidWorld os).forCall (fun _ _ => 0) ⟨#[], #[.string ⟨#[]⟩, .int .u8 0], []⟩).memory Tryd.f6.params.toList Rows.scanReadsSpec.vars false (#[.string ⟨#[]⟩, .int .u8 0] : Array Value).toList 8 = some ([.lit (.string []), .lit (.int .u8 0)], [], places) :=
  ⟨[], by kernel_rfl⟩

set_option maxRecDepth 100000 in
theorem lifted (os : Os) (started : os.Started) (H : Type) (enc : TypeId × Value → H) (F : Stop.Interp) :
    ReturnsInHanded {} Tryd.checked os 6 .any ((OpenSpec.ofChange Rows.scanReadsSpec).preRow enc Tryd.prog Tryd.f6 Rows.scanReadsRow.domain false Rows.scanReadsRow.laid) (((OpenSpec.ofChange Rows.scanReadsSpec).at F).post enc Tryd.prog Tryd.f6 false true false false) := by
  obtain ⟨places, hx⟩ := reads os enc
  refine returnsInHanded_of_row (C := Tryd.checked) (s := OpenSpec.ofChange Rows.scanReadsSpec) own started (by kernel_rfl) Tryd.func6
    (witness_row_at (enc := enc) (C := Tryd.checked) false (laidWorld os) #[.string ⟨#[]⟩, .int .u8 0] rfl (by kernel_rfl) (by kernel_rfl) (by kernel_rfl)
      (OpenSpec.preRow_of_cond 8 hx (by kernel_rfl) (fun k hk => by cases hk) (by kernel_rfl) (laid_met os))) ?_
  intro W base args ds gs before hval hW _ _ _ hL _ _
  exact contract H enc W base args ds gs before hval hW hL

theorem said : Rows.ScanReadsSaid :=
  OpenClaim.holds_of_cond 6 Tryd.f6 rfl rfl rfl rfl rfl rfl rfl ⟨rfl, rfl, rfl, rfl, rfl⟩ rfl rfl rfl rfl rfl (by kernel_rfl) Tryd.func6 (by kernel_rfl)
    (of_decide_eq_true (by kernel_rfl)) (by unfold Func.isWrapper; first | (rw [if_pos (by decide +kernel)]; kernel_rfl) | (rw [if_neg (by decide +kernel)]; exact ⟨rfl, rfl⟩))
    (fun os started H enc _ F => by rw [OpenClaim.pre_eq_preRow]; exact lifted os started H enc F)

theorem plain (f : FuncId) (fn : Func) (hf : Tryd.pinned.checked.prog.funcNamed "beck/becklaw01.ScanReads" = some f) (hfn : Tryd.pinned.checked.prog.funcs[f]? = some fn) :
    false = Tryd.pinned.checked.prog.looks [] ∧ ∀ (j : Nat) t, fn.params[j]? = some t → Tryd.pinned.checked.prog.wantsStandIn t = false := by
  obtain rfl : f = 6 := Option.some.inj ((show Tryd.prog.funcNamed "beck/becklaw01.ScanReads" = some 6 by kernel_rfl).symm.trans hf) |>.symm
  obtain rfl : fn = Tryd.f6 := (Option.some.inj (Tryd.func6.symm.trans hfn)).symm
  refine ⟨by kernel_rfl, fun j t ht => ?_⟩
  rw [Tryd.params6] at ht
  have hm : t ∈ [9, 5] := by simpa using Array.mem_of_getElem? ht
  have hall : ([9, 5].all fun u => !Tryd.prog.wantsStandIn u) = true := by kernel_rfl
  exact (show Tryd.prog.wantsStandIn t = false by simpa using List.all_eq_true.1 hall t hm)
end ScanReadsF
theorem scanReads_card : Rows.ScanReadsCardSaid :=
  Claim7.holds_tied_plain_at .later [] _ _ _ _ ScanReadsF.said (fun _ h => by cases h) (by kernel_rfl) (fun _ h => by cases h) scanReads_row_tie rfl ⟨rfl, rfl⟩ (by kernel_rfl) rfl ScanReadsF.plain (by kernel_rfl)

end Go.Proofs.YtjkjobgmeimknaaDoor
