/-
  NtReads, FOR ANY BYTE STRING AND ANY PLACE: the term that stands there, or the place and the kind of what is wrong, is the document's: the law returns true, and its arguments read as before. The table 'escapes' starts as the program's text lays it (tied).
-/
import Derived.Test.YtcllamipcgbfiaaDoorZ34
import Derived.Test.YtcllamipcgbfiaaDoorZ35
import Derived.Test.YtcllamipcgbfiaaDoorZ38
import Derived.Test.YtcllamipcgbfiaaDoorZ36
import Derived.Test.YtcllamipcgbfiaaDoorCards
import Derived.Test.YtcllamipcgbfiaaDoorTie
namespace Go.Proofs.YtcllamipcgbfiaaDoor
open Go.ChangeShapes Go.WideShapes Go.ChangeAt Go.RowKit
set_option linter.unusedVariables false
set_option linter.unusedSimpArgs false

section
variable {w : World} {b : Nat} {v vI : Value} {sl : List Int} {k : Nat}
theorem ts_nread_some (hk : k ≤ sl.length) (hl : sl.length ≤ 100000) (hall : AllS sl) (t : TypeId) (fr : Nat × Nat) (htab : w.heap[0]? = some (.cells escCells t fr)) (p : Nat) (u : Tm) (c : Int) (hq : readP sl k = (some u, p, c)) (W : World) (h : TS w b v vI sl k W) :
    Calls Tryd.prog 22 #[.pointer (some ⟨b, 0, none⟩)] W fun e w' => e = .returned (.tuple #[u.val, .int .i64 p, .int .i64 0]) ∧ TS w b v vI sl p w' := by
  have := nread_any h.1 hk hl hall t fr (tab_below htab h.2.2 (Array.getElem?_eq_some_iff.1 htab).1)
  rw [hq] at this
  exact this.mono fun e w' ⟨x, m⟩ => ⟨x, h.moves m⟩
theorem ts_nread_none (hk : k ≤ sl.length) (hl : sl.length ≤ 100000) (hall : AllS sl) (t : TypeId) (fr : Nat × Nat) (htab : w.heap[0]? = some (.cells escCells t fr)) (p : Nat) (c : Int) (hq : readP sl k = (none, p, c)) (W : World) (h : TS w b v vI sl k W) :
    Calls Tryd.prog 22 #[.pointer (some ⟨b, 0, none⟩)] W fun e w' => e = .returned (.tuple #[.nilIface, .int .i64 p, .int .i64 c]) ∧ TS w b v vI sl k w' := by
  have := nread_any h.1 hk hl hall t fr (tab_below htab h.2.2 (Array.getElem?_eq_some_iff.1 htab).1)
  rw [hq] at this
  exact this.mono fun e w' ⟨x, m⟩ => ⟨x, h.moves m⟩
theorem ts_qread {j : Nat} (hk : k ≤ sl.length) (hl : sl.length ≤ 100000) (hall : AllS sl) (p : Nat) (o : Option Tm) (c : Int) (hq : readP sl k = (o, p, c)) (W : World) (h : TS w b v vI sl j W) :
    Calls Tryd.prog 23 #[vI, .int .i64 k] W fun e w' => e = .returned (.tuple #[T4 (o.getD (.blank mt)), .int .i64 p, .int .i64 c]) ∧ TS w b v vI sl j w' := by
  obtain ⟨A, cap, rfl, hL⟩ := Lq.of h.2.1
  have := qread_any hL hall k hk hl
  rw [hq] at this
  exact this.mono fun e w' ⟨x, m⟩ => ⟨x, h.below m⟩
end
theorem readP_code2 (sl : List Int) (k p : Nat) (c : Int) (h : readP sl k = (none, p, c)) : c = 1 ∨ c = 3 := by
  unfold readP at h
  split at h
  · simp at h; exact .inl h.2.symm
  · split at h
    · simp at h
    · simp at h; exact .inr (by omega)
/-- The scanner, the signs, and the box of what the document has read. -/
def Trd (w : World) (b : Nat) (v vI : Value) (sl : List Int) (k g : Nat) (cs : Array Value) (W : World) : Prop := TS w b v vI sl k W ∧ Fb W g 23 cs
section
variable {w : World} {b : Nat} {v vI : Value} {sl : List Int} {k g : Nat} {cs : Array Value}
theorem Trd.drew {W : World} (h : Trd w b v vI sl k g cs W) : Trd w b v vI sl k g cs W.drew := ⟨h.1.drew, h.2⟩
theorem Trd.below {W W' : World} (h : Trd w b v vI sl k g cs W) (hb : Below W.heap.size W W') : Trd w b v vI sl k g cs W' := ⟨h.1.below hb, h.2.below hb⟩
theorem Trd.all {x0 x1 x2 x3 : Value} {W : World} (h : Trd w b v vI sl k g #[x0, x1, x2, x3] W) : W.cell? ⟨g, 0, none⟩ = some x0 ∧ W.cell? ⟨g, 1, none⟩ = some x1 ∧ W.cell? ⟨g, 2, none⟩ = some x2 ∧ W.cell? ⟨g, 3, none⟩ = some x3 ∧ Trd w b v vI sl k g #[x0, x1, x2, x3] W :=
  ⟨h.2.cell 0, h.2.cell 1, h.2.cell 2, h.2.cell 3, h⟩
theorem trd_place {W : World} (h : Trd w b v vI sl k g cs W) : Calls Tryd.prog 24 #[.pointer (some ⟨b, 0, none⟩)] W fun e w' => e = .returned (.int .i64 k) ∧ Trd w b v vI sl k g cs w' :=
  (place_any h.1.1).mono fun _ _ ⟨x, y⟩ => ⟨x, h.1.same y, by have := h.2; unfold Fb at this ⊢; rw [y.heap]; exact this⟩
end

set_option maxHeartbeats 8000000 in
set_option maxRecDepth 100000 in
theorem ntreads_walk (s : ByteArray) (_hs : s.size ≤ maxLen) (x : Int) (x0 : 0 ≤ x) (x1 : x ≤ 255) (w : World) (t : TypeId) (fr : Nat × Nat) (htab : w.heap[0]? = some (.cells escCells t fr)) :
    Calls Tryd.prog 4 #[.string s, .int .u8 x] w fun e w' => e = .returned (.bool true) ∧ Below w.heap.size w w' := by
  have cA : ∀ {W : World}, Below w.heap.size w W → Calls Tryd.prog 18 #[] W fun e w' => e = .returned (.bool true) ∧ Below w.heap.size w w' := fun {W} hb =>
    (nawake_ok W t fr (tab_below htab hb (Array.getElem?_eq_some_iff.1 htab).1)).mono fun _ _ ⟨a, y⟩ => ⟨a, hb.trans (y.mono hb.size)⟩
  have HTAB := Lib.hid htab
  clear htab
  have hb0 : Below w.heap.size w w := Below.refl _ _
  by_cases hlen : 300 < s.size
  · go_enter Tryd.func4, Tryd.ntmps4
    go_wp2_with (go_at_call 18; (with_reducible refine (cA (by assumption)).mono ?_); rintro e w1 ⟨rfl, hb1⟩)
    all_goals (go_ret; exact ⟨rfl, by assumption⟩)
  · obtain ⟨sl, rest, hp⟩ := parts_of s.data.toList
    have hl : sl.length ≤ 300 := by have := hp.size; have := encL_len sl; omega
    have sA : ∀ W, Calls Tryd.prog 19 #[.string s] W (SignsPost W sl (decide (rest = []))) := fun W => signs_any s sl rest hp (by omega) W
    by_cases hr : rest = []
    · subst hr
      have hd : decide (([] : List UInt8) = []) = true := rfl
      rw [hd] at sA
      have cN : ∀ W, Calls Tryd.prog 20 #[.string s] W (NewPost W sl) := fun W => new_good s sl hp (by omega) W
      have hall := hp.all
      have hwx : wrap64 x = x := by first | exact IntWalk.i64_in x (by omega) | (unfold wrap64; omega)
      obtain ⟨k, hk⟩ : ∃ k : Nat, x.tmod ((sl.length : Int) + 1) = k := ⟨(x.tmod ((sl.length : Int) + 1)).toNat, by have := Int.tmod_nonneg ((sl.length : Int) + 1) x0; omega⟩
      have hkl : k ≤ sl.length := by have := Int.tmod_lt_of_pos x (show (0 : Int) < (sl.length : Int) + 1 by omega); omega
      have hne : ¬ ((sl.length : Int) + 1 = 0) := by omega
      have hneb : (((sl.length : Int) + 1) == 0) = false := by rw [beq_eq_false_iff_ne]; exact hne
      have hw1 : IntKind.i64.wrap ((sl.length : Int) + 1) = (sl.length : Int) + 1 := IntWalk.i64_in _ (by omega)
      have hw2 : IntKind.i64.wrap (k : Int) = k := IntWalk.i64_in _ (by omega)
      obtain ⟨o, p, c, hq⟩ : ∃ o p c, readP sl k = (o, p, c) := ⟨_, _, _, rfl⟩
      have cK : ∀ {b v vI W}, TS w b v vI sl 0 W → Calls Tryd.prog 21 #[.pointer (some ⟨b, 0, none⟩), .int .i64 k] W fun e w' => e = .returned (.bool true) ∧ TS w b v vI sl k w' := fun {b v vI W} h => ts_back (w := w) k hkl (by omega) W h
      have cQ := fun {b v vI j W} (h : TS w b v vI sl j W) => ts_qread (w := w) hkl (by omega) hall p o c hq W h
      have cP : ∀ {b v vI W q}, TS w b v vI sl q W → Calls Tryd.prog 24 #[.pointer (some ⟨b, 0, none⟩)] W fun e w' => e = .returned (.int .i64 q) ∧ TS w b v vI sl q w' := fun {b v vI W q} h => ts_place (w := w) W h
      cases o with
      | some u =>
        have hc : c = 0 := by have := (readP_le sl k hkl hall).2.2 u (by rw [hq]); rw [hq] at this; exact this.2.2.2
        have hk3 : u.kind < 3 := by have := (readP_le sl k hkl hall).2.2 u (by rw [hq]); exact this.1.2
        subst hc
        have cR := fun {b v vI W} (h : TS w b v vI sl k W) => ts_nread_some (w := w) hkl (by omega) hall t fr HTAB.out p u 0 hq W h
        have cF := lref_any u
        simp only [Option.getD_some] at cQ
        unfold T4 at cQ
        obtain ⟨K, hK⟩ : ∃ K, K = u.kind := ⟨_, rfl⟩
        obtain ⟨ya, hya⟩ : ∃ K, K = u.ta := ⟨_, rfl⟩
        obtain ⟨yb, hyb⟩ : ∃ K, K = u.tb := ⟨_, rfl⟩
        obtain ⟨yc, hyc⟩ : ∃ K, K = u.tc := ⟨_, rfl⟩
        obtain ⟨ty, wv, hv⟩ : ∃ ty x, u.val = .iface ty x := by cases u <;> first | exact ⟨_, _, rfl⟩ | (simp [Tm.kind] at hk3)
        rw [← hK, ← hya, ← hyb, ← hyc] at cQ cF
        rw [hv] at cR cF
        have hE := eqlT4
        clear hd hp hall x0 x1 hkl hq hK hya hyb hyc hv hk3
        go_enter Tryd.func4, Tryd.ntmps4
        go_wp2_with (first
          | (go_at_call 18; (with_reducible refine (cA (by assumption)).mono ?_); rintro e w1 ⟨rfl, hb1⟩)
          | (go_at_call 19; (with_reducible refine (sA _).mono ?_); rintro e w2 ⟨vI, rfl, hI2, hb2⟩; obtain ⟨aoI, capI, rfl⟩ := ints_shape hI2; have hb3 := hb1.trans (hb2.mono hb1.size); have hI3 := ints_mono hI2 hb1.size; clear hb2 hI2)
          | (go_at_call 20; (with_reducible refine (cN _).mono ?_); rintro e w6 ⟨b, v, rfl, hsc6, hb8⟩; have hTS : TS w b v (.slice aoI sl.length capI) sl 0 w6 := ⟨hsc6.mono hb3.size, ints_below hI3 hb8, hb3.trans (hb8.mono hb3.size)⟩; clear hsc6 hb8 hI3)
          | (go_at_call 21; (with_reducible refine (cK hTS).mono ?_); rintro e y1 ⟨rfl, hT1⟩)
          | (go_at_call 22; (with_reducible refine (cR hT1).mono ?_); rintro e y2 ⟨rfl, hT2⟩)
          | (go_at_call 23; (with_reducible refine (cQ hT2).mono ?_); rintro e y3 ⟨rfl, hT3⟩; have hT4 : Trd w b v (.slice aoI sl.length capI) sl p y3.heap.size #[.int .i64 K, .string ya, .string yb, .string yc] (y3.alloc (.cells #[.int .i64 K, .string ya, .string yb, .string yc] 23)) := ⟨hT3.alloc _, Fb.new _ _ _⟩))
        generalize (y3.alloc (.cells #[.int .i64 K, .string ya, .string yb, .string yc] 23)) = y4 at hT4 ⊢
        generalize y3.heap.size = g at hT4 ⊢
        go_region_held3 (fun W => W.cell? ⟨g, 0, none⟩ = some (.int .i64 K) ∧ W.cell? ⟨g, 1, none⟩ = some (.string ya) ∧ W.cell? ⟨g, 2, none⟩ = some (.string yb) ∧ W.cell? ⟨g, 3, none⟩ = some (.string yc) ∧ Trd w b v (.slice aoI sl.length capI) sl p g #[.int .i64 K, .string ya, .string yb, .string yc] W)
          (first | exact Trd.all (by assumption) | exact Trd.all (Trd.drew (by assumption)))
          (first
            | (go_at_call 25; (with_reducible refine (cF _).mono ?_); rintro e w8 ⟨rfl, hb8⟩; have hT5 := Trd.below (by first | assumption | exact Trd.drew (by assumption)) hb8; clear hb8)
            | (go_at_call 24; (with_reducible refine (trd_place (by first | assumption | exact Trd.drew (by assumption))).mono ?_); rintro e w9 ⟨rfl, hT6⟩))
        all_goals
          go_wp2
          go_ret
          exact ⟨ret_bool (by first | rfl | simp), by first | exact hT6.1.2.2 | exact hT5.1.2.2⟩
      | none =>
        have cR := fun {b v vI W} (h : TS w b v vI sl k W) => ts_nread_none (w := w) hkl (by omega) hall t fr HTAB.out p c hq W h
        have hcode := readP_code2 sl k p c hq
        simp only [Option.getD_none, T4, Tm.kind, Tm.ta, Tm.tb, Tm.tc] at cQ
        clear hd hp hall x0 x1 hkl hq
        rcases hcode with rfl | rfl
        all_goals
          go_enter Tryd.func4, Tryd.ntmps4
          go_wp2_with (first
            | (go_at_call 18; (with_reducible refine (cA (by assumption)).mono ?_); rintro e w1 ⟨rfl, hb1⟩)
            | (go_at_call 19; (with_reducible refine (sA _).mono ?_); rintro e w2 ⟨vI, rfl, hI2, hb2⟩; obtain ⟨aoI, capI, rfl⟩ := ints_shape hI2; have hb3 := hb1.trans (hb2.mono hb1.size); have hI3 := ints_mono hI2 hb1.size; clear hb2 hI2)
            | (go_at_call 20; (with_reducible refine (cN _).mono ?_); rintro e w6 ⟨b, v, rfl, hsc6, hb8⟩; have hTS : TS w b v (.slice aoI sl.length capI) sl 0 w6 := ⟨hsc6.mono hb3.size, ints_below hI3 hb8, hb3.trans (hb8.mono hb3.size)⟩; clear hsc6 hb8 hI3)
            | (go_at_call 21; (with_reducible refine (cK hTS).mono ?_); rintro e y1 ⟨rfl, hT1⟩)
            | (go_at_call 22; (with_reducible refine (cR hT1).mono ?_); rintro e y2 ⟨rfl, hT2⟩)
            | (go_at_call 23; (with_reducible refine (cQ hT2).mono ?_); rintro e y3 ⟨rfl, hT3⟩; have hT4 := hT3.alloc (.cells #[.int .i64 0, .string mt, .string mt, .string mt] 23))
            | (go_at_call 24; (with_reducible refine (cP (by assumption)).mono ?_); rintro e y5 ⟨rfl, hT5⟩))
          go_ret
          exact ⟨ret_bool (by first | rfl | simp), hT5.2.2⟩
    · have hd : decide (rest = []) = false := decide_eq_false hr
      rw [hd] at sA
      have cN : ∀ W, Calls Tryd.prog 20 #[.string s] W fun e w' => e = .returned (.tuple #[.pointer none, .int .i64 sl.length, .int .i64 1]) ∧ Below W.heap.size W w' := fun W => new_bad s sl rest hp hr (by omega) W
      clear hd hp hr
      go_enter Tryd.func4, Tryd.ntmps4
      go_wp2_with (first
        | (go_at_call 18; (with_reducible refine (cA (by assumption)).mono ?_); rintro e w1 ⟨rfl, hb1⟩)
        | (go_at_call 19; (with_reducible refine (sA _).mono ?_); rintro e w2 ⟨vI, rfl, hI2, hb2⟩; obtain ⟨aoI, capI, rfl⟩ := ints_shape hI2; have hb3 := hb1.trans (hb2.mono hb1.size); clear hI2)
        | (go_at_call 20; (with_reducible refine (cN _).mono ?_); rintro e w6 ⟨rfl, hb6⟩; have hb7 := hb3.trans (hb6.mono hb3.size)))
      all_goals (go_ret; exact ⟨ret_bool (by first | rfl | simp), by assumption⟩)

namespace NtReadsF
set_option maxRecDepth 100000 in
theorem contract (H : Type) (enc : TypeId × Value → H) (W : World) (base : Nat) (args : Array Value) (ds gs : List (DataW H)) (before : List MemPlace)
    (hval : ∀ (j : Nat) t v, Tryd.f4.params[j]? = some t → args[j]? = some v → Value.okWide Tryd.prog W .any base t v)
    (hW : DataW.Whole enc Tryd.prog Tryd.f4.params.toList Rows.ntReadsSpec.vars false W args.toList ds gs before) (hL : laidMetH Tryd.prog Rows.ntReadsRow.laid W) :
    Calls Tryd.prog 4 args W fun e W' => ∃ v, e = .returned v ∧ Rows.ntReadsSpec.post enc Tryd.prog Tryd.f4 false true false false W args v W' := by
  have hW' := hW
  obtain ⟨p, q, hA0, hV, rfl, hfz, hnd⟩ := hW
  have hA : DataW.TrodAll enc Tryd.prog W 0 (fun _ => true) true Tryd.f4.params.toList args.toList ds p := hA0
  rw [Tryd.params4] at hA hval
  obtain ⟨v0, vs0, d0, ds0, p0, q0, hargs, rfl, rfl, h0, r0⟩ := trodAll_cons hA
  obtain ⟨v1, vs1, d1, ds1, p1, q1, rfl, rfl, rfl, h1, r1⟩ := trodAll_cons r0
  obtain ⟨rfl, rfl, rfl⟩ := trodAll_nil r1
  obtain rfl : args = #[v0, v1] := by cases args; simp_all
  obtain ⟨rfl, rfl⟩ := trodVars_none hV
  obtain ⟨x0, rfl, rfl, rfl, w0⟩ := Go.ChangeMaps.open_string Tryd.underlying9 (hval 0 9 v0 rfl rfl) h0
  obtain ⟨x1, rfl, rfl, rfl, w1⟩ := open_int Tryd.underlying5 (hval 1 5 v1 rfl rfl) h1
  have bd1 := bounds_u8 w1
  clear hA0
  simp only [List.append_nil] at hW'
  obtain ⟨t, fr, htab⟩ := table hL
  refine (ntreads_walk x0 w0 x1 bd1.1 bd1.2 W t fr htab).mono fun e W' ⟨he, hb⟩ => ?_
  subst he
  exact ⟨_, rfl, _, _, _, [], [], [], hW', trodAll_mk1 (shut_bool Tryd.underlying4 _), trodAll_cons_mk (Go.ChangeMaps.shut_string Tryd.underlying9 w0) (trodAll_cons_mk (shut_int Tryd.underlying5 w1) (trodAll_mk0)), rfl, hb.frame _, fun h => by cases h⟩

noncomputable def laidWorld (os : Os) : World :=
  { World.holding Tryd.prog os ⟨#[], #[], []⟩ with heap := (World.holding Tryd.prog os ⟨#[], #[], []⟩).heap.modify 0 fun
      | .cells _ t frozen => .cells escCells t frozen
      | o => o }
theorem laid_met (os : Os) : laidMet Tryd.prog Rows.ntReadsRow.laid ((laidWorld os).forCall (fun _ _ => 0) ⟨#[], #[.string ⟨#[]⟩, .int .u8 0], []⟩).memory :=
  laidMet_of_run' 8 (by kernel_rfl) (by kernel_rfl)
theorem reads (os : Os) {H : Type} (enc : TypeId × Value → H) : ∃ places, DataW.whole enc Tryd.prog ((laidWorld os).forCall (fun _ _ => 0) ⟨#[], #[.string ⟨#[]⟩, .int .u8 0], []⟩).memory Tryd.f4.params.toList Rows.ntReadsSpec.vars false (#[.string ⟨#[]⟩, .int .u8 0] : Array Value).toList 8 = some ([.lit (.string []), .lit (.int .u8 0)], [], places) :=
  ⟨[], by kernel_rfl⟩

set_option maxRecDepth 100000 in
theorem lifted (os : Os) (started : os.Started) (H : Type) (enc : TypeId × Value → H) (F : Stop.Interp) :
    ReturnsInHanded {} Tryd.checked os 4 .any ((OpenSpec.ofChange Rows.ntReadsSpec).preRow enc Tryd.prog Tryd.f4 Rows.ntReadsRow.domain false Rows.ntReadsRow.laid) (((OpenSpec.ofChange Rows.ntReadsSpec).at F).post enc Tryd.prog Tryd.f4 false true false false) := by
  obtain ⟨places, hx⟩ := reads os enc
  refine returnsInHanded_of_row (C := Tryd.checked) (s := OpenSpec.ofChange Rows.ntReadsSpec) own started (by kernel_rfl) Tryd.func4
    (witness_row_at (enc := enc) (C := Tryd.checked) false (laidWorld os) #[.string ⟨#[]⟩, .int .u8 0] rfl (by kernel_rfl) (by kernel_rfl) (by kernel_rfl)
      (OpenSpec.preRow_of_cond 8 hx (by kernel_rfl) (fun k hk => by cases hk) (by kernel_rfl) (laid_met os))) ?_
  intro W base args ds gs before hval hW _ _ _ hL _ _
  exact contract H enc W base args ds gs before hval hW hL

theorem said : Rows.NtReadsSaid :=
  OpenClaim.holds_of_cond 4 Tryd.f4 rfl rfl rfl rfl rfl rfl rfl ⟨rfl, rfl, rfl, rfl, rfl⟩ rfl rfl rfl rfl rfl (by kernel_rfl) Tryd.func4 (by kernel_rfl)
    (of_decide_eq_true (by kernel_rfl)) (by unfold Func.isWrapper; first | (rw [if_pos (by decide +kernel)]; kernel_rfl) | (rw [if_neg (by decide +kernel)]; exact ⟨rfl, rfl⟩))
    (fun os started H enc _ F => by rw [OpenClaim.pre_eq_preRow]; exact lifted os started H enc F)

theorem plain (f : FuncId) (fn : Func) (hf : Tryd.pinned.checked.prog.funcNamed "beck/becklaw04.NtReads" = some f) (hfn : Tryd.pinned.checked.prog.funcs[f]? = some fn) :
    true = Tryd.pinned.checked.prog.looks [] ∧ ∀ (j : Nat) t, fn.params[j]? = some t → Tryd.pinned.checked.prog.wantsStandIn t = false := by
  obtain rfl : f = 4 := Option.some.inj ((show Tryd.prog.funcNamed "beck/becklaw04.NtReads" = some 4 by kernel_rfl).symm.trans hf) |>.symm
  obtain rfl : fn = Tryd.f4 := (Option.some.inj (Tryd.func4.symm.trans hfn)).symm
  refine ⟨by kernel_rfl, fun j t ht => ?_⟩
  rw [Tryd.params4] at ht
  have hm : t ∈ [9, 5] := by simpa using Array.mem_of_getElem? ht
  have hall : ([9, 5].all fun u => !Tryd.prog.wantsStandIn u) = true := by kernel_rfl
  exact (show Tryd.prog.wantsStandIn t = false by simpa using List.all_eq_true.1 hall t hm)
end NtReadsF
theorem ntReads_card : Rows.NtReadsCardSaid :=
  Claim7.holds_tied_plain_at .later [] _ _ _ _ NtReadsF.said (fun _ h => by cases h) (by kernel_rfl) (fun _ h => by cases h) ntReads_row_tie rfl ⟨rfl, rfl⟩ (by kernel_rfl) rfl NtReadsF.plain (by kernel_rfl)

end Go.Proofs.YtcllamipcgbfiaaDoor
