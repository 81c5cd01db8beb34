/-
  THE DOCUMENT's 'Text': a number's.
-/
import Derived.Test.YtfgjddljgpbgeaaDoorVOf
import Derived.Test.YtfgjddljgpbgeaaDoorVParse
namespace Go.Proofs.YtfgjddljgpbgeaaDoor
open Go.RowKit
set_option linter.unusedVariables false

abbrev ten : ByteArray := ⟨#[48, 49, 50, 51, 52, 53, 54, 55, 56, 57]⟩
theorem ten_at (d : Nat) (h : d ≤ 9) : ten.extract d (d + 1) = ⟨#[UInt8.ofNat (48 + d)]⟩ := by
  obtain rfl | rfl | rfl | rfl | rfl | rfl | rfl | rfl | rfl | rfl : d = 0 ∨ d = 1 ∨ d = 2 ∨ d = 3 ∨ d = 4 ∨ d = 5 ∨ d = 6 ∨ d = 7 ∨ d = 8 ∨ d = 9 := by omega
  all_goals decide
theorem chars_step {l : List Int} {j d : Nat} (h : l[j]? = some (d : Int)) : chars (l.drop j) = chars (l.drop (j + 1)) ++ [UInt8.ofNat (48 + d)] := by
  have hj := (List.getElem?_eq_some_iff.1 h).1
  rw [List.drop_eq_getElem_cons hj, (List.getElem?_eq_some_iff.1 h).2]
  simp only [chars, List.reverse_cons, List.map_append, List.map_cons, List.map_nil, Int.toNat_natCast]
def strOf (l : List UInt8) : ByteArray := ⟨l.toArray⟩
theorem strOf_app (a b : List UInt8) : strOf (a ++ b) = strOf a ++ strOf b := by
  have e : (strOf (a ++ b)).data.toList = (strOf a ++ strOf b).data.toList := by simp [strOf]
  generalize strOf (a ++ b) = x at e
  generalize strOf a ++ strOf b = y at e
  obtain ⟨⟨x⟩⟩ := x
  obtain ⟨⟨y⟩⟩ := y
  simp at e
  rw [e]
def TxI (w : World) (sg : List UInt8) (l : List Int) (u : Array Value) (g : Nat) (s3 s4 : Value) (wr : World) : Prop :=
  g ≤ l.length ∧ s4 = .int .i64 ((g : Int) - 1) ∧ s3 = .string (strOf (sg ++ chars (l.drop g))) ∧ Bk wr w.heap.size 50 u ∧ Below w.heap.size w wr
theorem text_zero (A : Option Addr) (c : Nat) (w : World) : Calls Tryd.prog 26 #[.agg #[.bool false, .slice A 0 c]] w fun e w' => e = .returned (.string ⟨#[48]⟩) ∧ Below w.heap.size w w' := by
  go_enter Tryd.func26, Tryd.ntmps26
  go_wp2
  go_ret
  exact ⟨rfl, (Below.refl _ _).alloc (Nat.le_refl _) _⟩
set_option maxHeartbeats 4000000 in
theorem text_loop (nb : Bool) (l : List Int) (hl : 0 < l.length) (hl2 : l.length ≤ 100) (hd : Dig l) (A : Option Addr) (c : Nat) (w : World) (hA : DAt w A l) :
    Calls Tryd.prog 26 #[.agg #[.bool nb, .slice A l.length c]] w fun e w' => e = .returned (.string (strOf ((if nb then [45] else []) ++ chars l))) ∧ Below w.heap.size w w' := by
  have HA := Lib.hid hA
  have HD := Lib.hid hd
  have hpos : ¬ (l.length : Int) = 0 := by omega
  have hposb : ((l.length : Int) == 0) = false := by simpa using hpos
  have hk0 : Bk (w.alloc (.cells #[.bool nb, .slice A l.length c] 50)) w.heap.size 50 #[.bool nb, .slice A l.length c] := Bk.new w _ _
  obtain ⟨u, hu⟩ : ∃ u : Array Value, u = #[.bool nb, .slice A l.length c] := ⟨_, rfl⟩
  have hu2 : (nb = true ∨ nb = false) ∧ u = #[.bool nb, .slice A l.length c] := ⟨by cases nb <;> simp, hu⟩
  have HU := Lib.hid hu
  rw [← hu] at hk0
  have HK := Lib.hid hk0
  clear hu2 hu
  obtain ⟨sg, hsg⟩ : ∃ sg : List UInt8, sg = (if nb then [45] else []) := ⟨_, rfl⟩
  rw [← hsg]
  have HS := Lib.hid hsg
  clear hA hd hk0 hsg
  have hlast : chars (l.drop l.length) = [] := by rw [List.drop_eq_nil_of_le (Nat.le_refl _)]; rfl
  have HL := Lib.hid hlast
  clear hlast
  cases nb
  all_goals
    go_enter Tryd.func26, Tryd.ntmps26
    go_wp2
    go_loopg [3, 4] l.length (fun g s3 s4 wr => TxI w sg l u g s3 s4 wr)
    case atStart => exact ⟨Nat.le_refl _, rfl, by rw [HL.out, HS.out]; rfl, by have h := HK.out; rw [HU.out] at h ⊢; exact h, (Below.refl _ _).alloc (Nat.le_refl _) _⟩
    case round =>
      obtain ⟨hg, hs4, rfl, hbk, hbw⟩ := hrel
      have HB := Lib.hid hbk
      rw [HU.out] at hbk
      have q0 := hbk.cell 0
      have q1 := hbk.cell 1
      simp at q0 q1
      clear hbk
      cases gk with
      | zero =>
        have e0 : (((0 : Nat) : Int) - 1) = -1 := by omega
        rw [e0] at hs4
        subst hs4
        go_wp2
        go_ret
        exact ⟨rfl, hbw⟩
      | succ j =>
        have e0 : (((j + 1 : Nat) : Int) - 1) = (j : Int) := by omega
        rw [e0] at hs4
        subst hs4
        obtain ⟨x, hx⟩ : ∃ x, l[j]? = some x := ⟨_, List.getElem?_eq_getElem (by omega)⟩
        have hx9 := HD.out.at hx
        obtain ⟨d, rfl⟩ : ∃ d : Nat, x = (d : Int) := ⟨x.toNat, by omega⟩
        have hd9 : d ≤ 9 := by omega
        obtain ⟨ga, oa, rfl, hga, hca⟩ := HA.out j _ hx
        have c1 : wr.cell? ⟨ga, oa + j, none⟩ = some (.int .i64 (d : Int)) := (hbw.cell (p := ⟨ga, oa + j, none⟩) hga).trans hca
        have hst := chars_step hx
        have hj1 : (j : Int) < (l.length : Int) := by omega
        have hj0 : (0 : Int) ≤ (j : Int) := by omega
        obtain ⟨y, hy⟩ : ∃ y : ByteArray, y = ⟨#[UInt8.ofNat (48 + d)]⟩ := ⟨_, rfl⟩
        have ht : ten.extract d (d + 1) = y := (ten_at d hd9).trans hy.symm
        have hys : y.size = 1 := by rw [hy]; rfl
        have hw1 : IntKind.i64.wrap ((d : Int) + 1) = (d : Int) + 1 := IntWalk.i64_in _ (by omega)
        have hn1 : ((d : Int) + 1).toNat = d + 1 := by omega
        have hn2 : (0 : Int) ≤ (d : Int) + 1 := by omega
        have hn3 : (d : Int) ≤ (d : Int) + 1 := by omega
        have hn4 : (d : Int) + 1 ≤ 10 := by omega
        have hfin : ∀ W, Bk W w.heap.size 50 u → Below w.heap.size w W → TxI w sg l u j (.string (strOf (sg ++ chars (l.drop (j + 1))) ++ y)) (.int .i64 ((j : Int) - 1)) W := fun W h1 h2 => by
          refine ⟨by omega, rfl, ?_, h1, h2⟩
          rw [hst, ← List.append_assoc, strOf_app (sg ++ chars (l.drop (j + 1))), hy]; rfl
        have HF := fun n => Lib.hid (hfin (wr.drewN n) (HB.out.drewN n) (below_dr hbw n))
        have hsz : (strOf (sg ++ chars (l.drop (j + 1)))).size + y.size ≤ 9223372036854775807 := by
          have e1 : (strOf (sg ++ chars (l.drop (j + 1)))).size = sg.length + (l.length - (j + 1)) := by
            simp [strOf, ByteArray.size, chars]
          have e2 : sg.length ≤ 1 := by rw [HS.out]; simp
          omega
        have HF := fun n => Lib.hid (hfin (wr.drewN n) (HB.out.drewN n) (below_dr hbw n))
        obtain ⟨X, hX⟩ : ∃ X, X = strOf (sg ++ chars (l.drop (j + 1))) := ⟨_, rfl⟩
        have hadd : ∀ W, (Op.stringOp .add X y).run Tryd.prog W = .ok (.string (X ++ y)) W := fun W => run_string_add_sum W _ _ (by rw [hX]; exact hsz)
        simp only [← hX] at HF ⊢
        clear hx hx9 hca hst hfin hsz hy hys hX
        go_wp2
        go_quiet (fail)
        have R := HF nq
        obtain ⟨W, hW⟩ : ∃ W, W = wr.drewN nq := ⟨_, rfl⟩
        rw [← hW] at R ⊢
        clear hW HF
        go_wp2
        go_roundg j
        case rel => exact R.out
        case measure => exact Nat.lt_succ_self j
/-- The document's text of a number. -/
theorem rtext_big (z : Int) (hz : (digs z.natAbs).length ≤ 100) (u : Value) (w : World) (hu : BigV w u z) :
    Calls Tryd.prog 26 #[u] w fun e w' => e = .returned (.string (strOf (textZ z))) ∧ Below w.heap.size w w' := by
  obtain ⟨A, c, rfl, hc, hA⟩ := hu
  by_cases h0 : z = 0
  · subst h0
    have e : (digs (0 : Int).natAbs) = [] := digs_zero
    rw [e]
    exact text_zero A c w
  · have hpos : 0 < (digs z.natAbs).length := List.length_pos_iff.2 (fun h => by have := digs_nil.1 h; omega)
    have e : textZ z = (if decide (z < 0) = true then [45] else []) ++ chars (digs z.natAbs) := by
      unfold textZ
      rw [if_neg h0]
      congr 1
      simp
    rw [e]
    exact text_loop (decide (z < 0)) _ hpos hz (digs_dig _) A c w hA
end Go.Proofs.YtfgjddljgpbgeaaDoor
