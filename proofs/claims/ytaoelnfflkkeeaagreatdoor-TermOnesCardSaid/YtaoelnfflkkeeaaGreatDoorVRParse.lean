/-
  THE DOCUMENT's 'Parse': a text as a number.
-/
import Derived.Test.YtaoelnfflkkeeaaGreatDoorVFits
import Derived.Test.YtaoelnfflkkeeaaGreatDoorVParse
import Derived.Deep.AppendLies
import Derived.Deep.RegionLaw
import Derived.Deep.DrawnRows
import Derived.Lib.Strings
namespace Go.Proofs.YtaoelnfflkkeeaaGreatDoor
open Go.RowKit
set_option linter.unusedVariables false

theorem digsOf_cons (c : UInt8) (l : List UInt8) : digsOf (c :: l) = digsOf l ++ [((c.toNat - 48 : Nat) : Int)] := by simp [digsOf]
theorem digsOf_len (l : List UInt8) : (digsOf l).length = l.length := by simp [digsOf]
theorem drop_at {l : List UInt8} {j : Nat} {c : UInt8} (h : l[j]? = some c) : l.drop j = c :: l.drop (j + 1) := by
  have hj := (List.getElem?_eq_some_iff.1 h).1
  rw [List.drop_eq_getElem_cons hj, (List.getElem?_eq_some_iff.1 h).2]
abbrev noBig (code : Int) : Value := .tuple #[.agg #[.bool false, .slice none 0 0], .int .i64 code]
theorem body_cons' (c : UInt8) (r : List UInt8) : body (c :: r) = if c.toNat = 43 ∨ c.toNat = 45 then r else c :: r := rfl
theorem neg_cons' (c : UInt8) (r : List UInt8) : neg (c :: r) = decide (c.toNat = 45) := by unfold neg; simp
theorem first_of {s : ByteArray} (h0 : 0 < s.size) : ∃ c r, s.data.toList = c :: r ∧ (s[0]'h0).toNat = c.toNat := by
  cases hl : s.data.toList with
  | nil => rw [Lib.size_eq, hl] at h0; simp at h0
  | cons c r =>
    refine ⟨c, r, rfl, ?_⟩
    have : s.data.toList[0]? = some c := by rw [hl]; rfl
    have e : s[0]'h0 = c := (List.getElem?_eq_some_iff.1 this).2
    rw [e]
theorem num_facts (L : List UInt8) (nb : Bool) (h : neg L = nb) : ((numZ L).natAbs : Int) = dval 0 (body L) ∧ (numZ L ≠ 0 → nb = decide (numZ L < 0)) := by
  unfold numZ
  rw [h]
  cases nb
  · refine ⟨by simp, fun _ => ?_⟩
    symm
    simp
    try omega
  · refine ⟨by simp, fun h => ?_⟩
    symm
    simp at h ⊢
    omega
theorem num_yes {L : List UInt8} {f : Nat} (hb : body L = L.drop f) (hf : f < L.length) (ha : (L.drop f).all isD = true) : isNum L = true := by
  unfold isNum
  rw [hb, ha]
  have : (L.drop f).isEmpty = false := by
    rw [List.isEmpty_eq_false_iff]
    intro e
    have := congrArg List.length e
    simp at this
    omega
  rw [this]; rfl
theorem num_no {L : List UInt8} {f k : Nat} {c : UInt8} (hb : body L = L.drop f) (hf : f ≤ k) (hc : L[k]? = some c) (hd : ¬ isD c = true) : isNum L = false := by
  unfold isNum
  rw [hb, Bool.and_eq_false_iff]
  right
  rw [List.all_eq_false]
  refine ⟨c, List.mem_of_getElem? (i := k - f) ?_, hd⟩
  rw [List.getElem?_drop, show f + (k - f) = k by omega]
  exact hc
/-- The trimmed number, laid open. -/
def TrP (w : World) (z : Int) (e : Ending) (w' : World) : Prop := ∃ (A : Option Addr) (c : Nat), e = .returned (.agg #[.bool (decide (z < 0)), .slice A (digs z.natAbs).length c]) ∧ ((digs z.natAbs).length ≤ c ∧ c ≤ maxLen) ∧ DAt w' A (digs z.natAbs) ∧ Below w.heap.size w w'
theorem trim_open {z : Int} {w : World} {v : Value} (h : Calls Tryz.prog 39 #[v] w (BgPost w z)) : Calls Tryz.prog 39 #[v] w (TrP w z) :=
  h.mono fun e w' ⟨v, he, ⟨A, c, hv, h1, h2⟩, hb⟩ => ⟨A, c, by rw [he, hv], h1, h2, hb⟩
theorem big_out2 {w' : World} {b : Bool} {A : Option Addr} {n c : Nat} {z : Int} (h : BigV w' (.agg #[.bool b, .slice A n c]) z) {g : Nat} {a : Bool} {v : Option Addr} {m k : Nat} (hk : Bk w' g 37 #[.bool a, .slice v m k]) :
    BigV ((w'.setCell ⟨g, 0, none⟩ (.bool b)).setCell ⟨g, 1, none⟩ (.slice A n c)) (.agg #[.bool b, .slice A n c]) z := by
  obtain ⟨A', c', e, h1, h2⟩ := h
  exact ⟨A', c', e, h1, (h2.out hk 0 (.bool b)).out (show Bk _ _ 37 #[.bool b, .slice v m k] from by simpa using hk.set 0 (.bool b)) 1 _⟩
def RpI (w : World) (L : List UInt8) (f : Nat) (nb : Bool) (g : Nat) (s6 : Value) (wr : World) : Prop :=
  ∃ (out : List Int) (A : Option Addr) (c : Nat), s6 = .int .i64 (((f + g : Nat) : Int) - 1) ∧ f + g ≤ L.length ∧ out = digsOf (L.drop (f + g)) ∧ (L.drop (f + g)).all isD = true ∧
    Bk wr (w.heap.size + 1) 37 #[.bool nb, .slice A out.length c] ∧ Own w.heap.size wr (.slice A out.length c) out ∧ Bk wr w.heap.size 37 #[.bool false, .slice none 0 0] ∧ Below w.heap.size w wr
/-- What the call answers. -/
def RpPost (w : World) (L : List UInt8) (e : Ending) (w' : World) : Prop :=
  if isNum L = false then e = .returned (noBig 1) ∧ Below w.heap.size w w'
  else if F64 (numZ L) then ∃ v, e = .returned (.tuple #[v, .int .i64 0]) ∧ BigV w' v (numZ L) ∧ Below w.heap.size w w'
  else e = .returned (noBig 9) ∧ Below w.heap.size w w'
theorem post_form {w w' : World} {L : List UInt8} (h : isNum L = false) (hb : Below w.heap.size w w') : RpPost w L (.returned (noBig 1)) w' := by
  unfold RpPost; rw [if_pos h]; exact ⟨rfl, hb⟩
theorem post_over {w w' : World} {L : List UInt8} (h : isNum L = true) (hf : ¬ F64 (numZ L)) (hb : Below w.heap.size w w') : RpPost w L (.returned (noBig 9)) w' := by
  unfold RpPost; rw [if_neg (by rw [h]; decide), if_neg hf]; exact ⟨rfl, hb⟩
theorem post_ok {w w' : World} {L : List UInt8} {v : Value} (h : isNum L = true) (hf : F64 (numZ L)) (hv : BigV w' v (numZ L)) (hb : Below w.heap.size w w') : RpPost w L (.returned (.tuple #[v, .int .i64 0])) w' := by
  unfold RpPost; rw [if_neg (by rw [h]; decide), if_pos hf]; exact ⟨v, rfl, hv, hb⟩

theorem rparse_nil (w : World) : Calls Tryz.prog 24 #[.string ⟨#[]⟩] w (RpPost w []) := by
  go_enter Tryz.func24, Tryz.ntmps24
  go_wp2
  refine bodyPost_ret (v := noBig 1) (by simp [results, Tryz.results24, go_sem]) rfl (post_form (by decide) ?_)
  exact ((Below.refl _ _).alloc (Nat.le_refl _) _).alloc (by simp) _

set_option maxRecDepth 100000 in
set_option maxHeartbeats 8000000 in
theorem rparse_plain (s : ByteArray) (hs : s.size ≤ 100000) (h0 : 0 < s.size) (x : Int) (hx : ((s[0]'h0).toNat : Int) = x) (h43 : x ≠ 43) (h45 : x ≠ 45) (w : World) : Calls Tryz.prog 24 #[.string s] w (RpPost w s.data.toList) := by
  obtain ⟨i0, hi, hz0, hz1, hz2⟩ := info_parts dInfo
  have g1 : (x == 43) = false := by simpa using h43
  have g2 : (x == 45) = false := by simpa using h45
  have hp : (0 : Int) < (s.size : Int) := by omega
  have hp2 : ((s.size : Int) == 0) = false := by
    rw [beq_eq_false_iff_ne]; omega
  have HI := Lib.hid hi
  have hat : RpI w s.data.toList 0 false (s.size - 0) (.int .i64 ((s.size : Int) - 1)) ((w.alloc (.cells #[.bool false, .slice none 0 0] 37)).alloc (.cells #[.bool false, .slice none 0 0] 37)) := by
    refine ⟨[], none, 0, by rw [Nat.zero_add, Nat.sub_zero], by rw [← Lib.size_eq]; omega, ?_, ?_, by simpa using Bk.new (w.alloc _) 37 #[.bool false, .slice none 0 0], Own.nil _ _, Bk.alloc (Bk.new w _ _) _, ((Below.refl _ _).alloc (Nat.le_refl _) _).alloc (by simp) _⟩
    · rw [List.drop_eq_nil_of_le (by rw [← Lib.size_eq]; omega)]; rfl
    · rw [List.drop_eq_nil_of_le (by rw [← Lib.size_eq]; omega)]; rfl
  have AT := Lib.hid hat
  have hb0 : body s.data.toList = s.data.toList.drop 0 := by
    rw [List.drop_zero]
    obtain ⟨ch, r, hl, hc⟩ := first_of h0
    rw [hl, body_cons', if_neg (by rw [← hc]; omega)]
  have hn0 : neg s.data.toList = false := by
    obtain ⟨ch, r, hl, hc⟩ := first_of h0
    rw [hl, neg_cons', decide_eq_false (by rw [← hc]; omega)]
  have HB := Lib.hid hb0
  have HN := Lib.hid hn0
  have HNE : Hid (0 < s.data.toList.length) := Lib.hid (by rw [← Lib.size_eq]; exact h0)
  clear hb0 hn0 h43 h45 hi hat
  go_enter Tryz.func24, Tryz.ntmps24
  go_wp2
  go_loopg [6] (s.size - 0) (fun g s6 wr => RpI w s.data.toList 0 false g s6 wr)
  case atStart => exact AT.out
  case round =>
    obtain ⟨out, A, c, rfl, hg, hout, hall, hb3, hown, hb2, hbw⟩ := hrel
    have hbs := hbw.size
    have c0 := hb3.cell 0
    have c1 := hb3.cell 1
    have d0 := hb2.cell 0
    have d1 := hb2.cell 1
    have f0 := hb3.free 0
    have f1 := hb3.free 1
    have e0 := hb2.free 0
    have e1 := hb2.free 1
    simp at c0 c1 d0 d1
    have H3 := Lib.hid hb3
    have H2 := Lib.hid hb2
    have HO := Lib.hid hown
    have HOUT := Lib.hid hout
    have HALL := Lib.hid hall
    have HG := Lib.hid hg
    clear hb3 hb2 hown hout hall hg
    cases gk with
    | zero =>
      have z0 : (((0 + 0 : Nat) : Int) - 1) = 0 - 1 := by omega
      rw [z0]
      clear z0
      have hall := HALL.out
      rw [Nat.add_zero] at hall
      have hnum := num_yes HB.out HNE.out hall
      obtain ⟨n1, n2⟩ := num_facts s.data.toList false HN.out
      obtain ⟨z, hz⟩ : ∃ z, z = numZ s.data.toList := ⟨_, rfl⟩
      rw [← hz] at n1 n2
      have hval : val out = (z.natAbs : Int) := by rw [HOUT.out, Nat.add_zero, ← HB.out, digsOf_val, n1]
      have hdig : Dig out := by rw [HOUT.out, Nat.add_zero]; exact digsOf_dig hall
      have hol : out.length ≤ 100000 := by rw [HOUT.out, digsOf_len, List.length_drop, ← Lib.size_eq]; omega
      obtain ⟨_, ho1, ho2, ho3⟩ := own_shape2 HO.out
      have cT : ∀ W, Below wr.heap.size wr W → Calls Tryz.prog 39 #[.agg #[.bool false, .slice A out.length c]] W (TrP W z) := fun W hW =>
        trim_open (trim_any false out hdig (by omega) A c ho1 ho2 z hval n2 W (ho3.below hW))
      have hdl : (digs z.natAbs).length ≤ 100000 := by
        have := (dig_val hdig).2
        refine Nat.le_trans (digs_len (k := out.length) ?_) hol
        have h3 : (z.natAbs : Int) < 10 ^ out.length := by rw [← hval]; exact this
        exact_mod_cast h3
      have cF : ∀ W u, BigV W u z → Calls Tryz.prog 40 #[u] W fun e w' => e = .returned (.bool (decide (F64 z))) ∧ Below W.heap.size W w' := fun W u hu => fits_big z (by omega) u W hu
      have HNUM := Lib.hid hnum
      have HZ := Lib.hid hz
      have hlt := Int.sub_lt_self (0 : Int) (show (0 : Int) < 1 by decide)
      clear hall hnum n1 n2 hz hval hdig hol ho1 ho2 ho3 hdl
      obtain ⟨q, hq⟩ : ∃ q, q = digs z.natAbs := ⟨_, rfl⟩
      by_cases hF : F64 z
      · rw [decide_eq_true hF] at cF
        go_wp2_with (first
          | (go_at_call 39; (with_reducible refine (cT _ (Below.refl _ _)).mono ?_); rintro e w1 ⟨A1, k1, rfl, hk1, hd1, hb1⟩; have j3 := H3.out.below hb1 H3.out.lt; have j2 := H2.out.below hb1 H2.out.lt; have a0 := j3.free 0; have a1 := j3.free 1; have a2 := j3.cell 0; have a3 := j3.cell 1; simp at a2 a3; have j4 : Bk ((w1.setCell ⟨w.heap.size + 1, 0, none⟩ (.bool (decide (z < 0)))).setCell ⟨w.heap.size + 1, 1, none⟩ (.slice A1 (digs z.natAbs).length k1)) (w.heap.size + 1) 37 #[.bool (decide (z < 0)), .slice A1 (digs z.natAbs).length k1] := (by simpa using (j3.set 0 (.bool (decide (z < 0)))).set 1 (.slice A1 (digs z.natAbs).length k1)); have j5 := (j2.far (p := ⟨w.heap.size + 1, 0, none⟩) (by simp) (.bool (decide (z < 0)))).far (p := ⟨w.heap.size + 1, 1, none⟩) (by simp) (.slice A1 (digs z.natAbs).length k1); have big : BigV ((w1.setCell ⟨w.heap.size + 1, 0, none⟩ (.bool (decide (z < 0)))).setCell ⟨w.heap.size + 1, 1, none⟩ (.slice A1 (digs z.natAbs).length k1)) (.agg #[.bool (decide (z < 0)), .slice A1 (digs z.natAbs).length k1]) z := ⟨A1, k1, rfl, hk1, (hd1.out j3 0 (.bool (decide (z < 0)))).out (show Bk _ _ 37 #[.bool (decide (z < 0)), .slice A out.length c] from by simpa using j3.set 0 (.bool (decide (z < 0)))) 1 _⟩; have BIG := Lib.hid big; have J4 := Lib.hid j4; have J5 := Lib.hid j5; have hbw1 := hbw.trans (hb1.mono hbs); have hbw3 := (hbw1.setCell (p := ⟨w.heap.size + 1, 0, none⟩) (by simp) (.bool (decide (z < 0)))).setCell (p := ⟨w.heap.size + 1, 1, none⟩) (by simp) (.slice A1 (digs z.natAbs).length k1); have HBW3 := Lib.hid hbw3; clear j3 j2 j4 j5 hk1 hd1 hb1 big hbw1 hbw3)
          | (go_at_call 40; (with_reducible refine (cF _ _ BIG.out).mono ?_); rintro e w2 ⟨rfl, hb2⟩; have j6 := J4.out.below hb2 J4.out.lt; have j7 := J5.out.below hb2 J5.out.lt; have b0 := j6.cell 0; have b1 := j6.cell 1; have b2 := j7.cell 0; have b3 := j7.cell 1; have b4 := j7.free 0; have b5 := j7.free 1; simp at b0 b1 b2 b3; have J6 := Lib.hid j6; have J7 := Lib.hid j7; have BIG2 := Lib.hid (BIG.out.below hb2); have HBW4 := Lib.hid (HBW3.out.trans (hb2.mono HBW3.out.size)); clear j6 j7 hb2))
        refine bodyPost_ret (v := .tuple #[.agg #[.bool (decide (z < 0)), .slice A1 (digs z.natAbs).length k1], .int .i64 0]) (by simp [results, Tryz.results24, go_sem, b2, b3]) rfl (post_ok HNUM.out (by rw [← HZ.out]; exact hF) ?_ ?_)
        · rw [← HZ.out]; exact big_out2 BIG2.out J7.out
        · exact (HBW4.out.setCell (by simp) _).setCell (by simp) _
      · rw [decide_eq_false hF] at cF
        go_wp2_with (first
          | (go_at_call 39; (with_reducible refine (cT _ (Below.refl _ _)).mono ?_); rintro e w1 ⟨A1, k1, rfl, hk1, hd1, hb1⟩; have j3 := H3.out.below hb1 H3.out.lt; have j2 := H2.out.below hb1 H2.out.lt; have a0 := j3.free 0; have a1 := j3.free 1; have a2 := j3.cell 0; have a3 := j3.cell 1; simp at a2 a3; have j4 : Bk ((w1.setCell ⟨w.heap.size + 1, 0, none⟩ (.bool (decide (z < 0)))).setCell ⟨w.heap.size + 1, 1, none⟩ (.slice A1 (digs z.natAbs).length k1)) (w.heap.size + 1) 37 #[.bool (decide (z < 0)), .slice A1 (digs z.natAbs).length k1] := (by simpa using (j3.set 0 (.bool (decide (z < 0)))).set 1 (.slice A1 (digs z.natAbs).length k1)); have j5 := (j2.far (p := ⟨w.heap.size + 1, 0, none⟩) (by simp) (.bool (decide (z < 0)))).far (p := ⟨w.heap.size + 1, 1, none⟩) (by simp) (.slice A1 (digs z.natAbs).length k1); have big : BigV ((w1.setCell ⟨w.heap.size + 1, 0, none⟩ (.bool (decide (z < 0)))).setCell ⟨w.heap.size + 1, 1, none⟩ (.slice A1 (digs z.natAbs).length k1)) (.agg #[.bool (decide (z < 0)), .slice A1 (digs z.natAbs).length k1]) z := ⟨A1, k1, rfl, hk1, (hd1.out j3 0 (.bool (decide (z < 0)))).out (show Bk _ _ 37 #[.bool (decide (z < 0)), .slice A out.length c] from by simpa using j3.set 0 (.bool (decide (z < 0)))) 1 _⟩; have BIG := Lib.hid big; have J4 := Lib.hid j4; have J5 := Lib.hid j5; have hbw1 := hbw.trans (hb1.mono hbs); have hbw3 := (hbw1.setCell (p := ⟨w.heap.size + 1, 0, none⟩) (by simp) (.bool (decide (z < 0)))).setCell (p := ⟨w.heap.size + 1, 1, none⟩) (by simp) (.slice A1 (digs z.natAbs).length k1); have HBW3 := Lib.hid hbw3; clear j3 j2 j4 j5 hk1 hd1 hb1 big hbw1 hbw3)
          | (go_at_call 40; (with_reducible refine (cF _ _ BIG.out).mono ?_); rintro e w2 ⟨rfl, hb2⟩; have j6 := J4.out.below hb2 J4.out.lt; have j7 := J5.out.below hb2 J5.out.lt; have b0 := j6.cell 0; have b1 := j6.cell 1; have b2 := j7.cell 0; have b3 := j7.cell 1; have b4 := j7.free 0; have b5 := j7.free 1; simp at b0 b1 b2 b3; have J6 := Lib.hid j6; have J7 := Lib.hid j7; have BIG2 := Lib.hid (BIG.out.below hb2); have HBW4 := Lib.hid (HBW3.out.trans (hb2.mono HBW3.out.size)); clear j6 j7 hb2))
        refine bodyPost_ret (v := noBig 9) (by simp [results, Tryz.results24, go_sem, b2, b3]) rfl (post_over HNUM.out (by rw [← HZ.out]; exact hF) ?_)
        exact (HBW4.out.setCell (by simp) _).setCell (by simp) _
    | succ j =>
      have z0 : (((0 + (j + 1) : Nat) : Int) - 1) = ((0 + j : Nat) : Int) := by omega
      rw [z0]
      clear z0
      obtain ⟨k, hk⟩ : ∃ k, k = 0 + j := ⟨_, rfl⟩
      rw [← hk]
      have hks : k < s.size := by have := HG.out; rw [← Lib.size_eq] at this; omega
      obtain ⟨ch, hc⟩ : ∃ ch, s.data.toList[k]? = some ch := ⟨_, List.getElem?_eq_getElem (by rw [← Lib.size_eq]; exact hks)⟩
      have hcg : s[k]'hks = ch := (List.getElem?_eq_some_iff.1 hc).2
      have hk0 : (0 : Int) ≤ (k : Int) := by omega
      have hk1 : (k : Int) < (s.size : Int) := by omega
      have hkf : (0 : Int) ≤ (k : Int) := by omega
      have hdr := drop_at hc
      by_cases hd : isD ch = true
      · have hcd : 48 ≤ ch.toNat ∧ ch.toNat ≤ 57 := of_decide_eq_true hd
        obtain ⟨y, hy⟩ : ∃ y : Int, y = (ch.toNat : Int) := ⟨_, rfl⟩
        have hcy : ((s[k]'hks).toNat : Int) = y := by rw [hcg, hy]
        have y1 : ¬ y < 48 := by omega
        have y2 : ¬ 57 < y := by omega
        obtain ⟨d, hdd⟩ : ∃ d : Int, d = y - 48 := ⟨_, rfl⟩
        have hw1 : IntKind.u8.wrap (y - 48) = d := by
          rw [hdd]
          show (y - 48) % 256 = y - 48
          omega
        have hw2 : IntKind.i64.wrap d = d := IntWalk.i64_in _ (by omega)
        have hfin : ∀ v' wx, Own w.heap.size wx v' (out ++ [d]) → Bk wx (w.heap.size + 1) 37 #[.bool false, v'] → Bk wx w.heap.size 37 #[.bool false, .slice none 0 0] → Below w.heap.size w wx → RpI w s.data.toList 0 false j (.int .i64 ((k : Int) - 1)) wx := by
          intro v' wx ho h3 h2 hb
          obtain ⟨A', c', e, _⟩ := own_shape ho
          refine ⟨out ++ [d], A', c', by rw [hk], by have := HG.out; omega, ?_, ?_, by rw [← e]; exact h3, by rw [← e]; exact ho, h2, hb⟩
          · rw [← hk, hdr, digsOf_cons, HOUT.out, hk, show 0 + j + 1 = 0 + (j + 1) by omega]
            congr 2
            omega
          · rw [← hk, hdr, List.all_cons, hd, hk, show 0 + j + 1 = 0 + (j + 1) by omega, HALL.out]; rfl
        have HF := Lib.hid hfin
        have hlen : out.length + 1 ≤ 100001 := by
          rw [HOUT.out, digsOf_len, List.length_drop, ← Lib.size_eq]; omega
        have hne1 : (Value.slice A out.length c).ownBlock ≠ some (w.heap.size + 1) := own_ne HO.out H3.out
        have hne2 : (Value.slice A out.length c).ownBlock ≠ some w.heap.size := own_ne HO.out H2.out
        have HE1 := Lib.hid hne1
        have HE2 := Lib.hid hne2
        have HLEN := Lib.hid hlen
        have hn1 : ∀ j u, [Value.int .i64 d][j]? = some u → (wr.alloc (.cells #[Value.int .i64 d] 3)).drew.cell? ((⟨wr.heap.size, 0, none⟩ : Addr).add j) = some u := World.news_of_block (heap_alloc_new wr (.cells #[Value.int .i64 d] 3))
        have hn2 : ∀ u ∈ [Value.int .i64 d], u.oneCell' = true := by
          intro u hu
          simp at hu
          rcases hu with rfl; rfl
        have hown0 := (World.ownsRow.alloc HO.out (.cells #[Value.int .i64 d] 3)).drew
        have N0 := Lib.hid hown0
        have N1 := Lib.hid hn1
        have N2 := Lib.hid hn2
        have n1 : wr.heap.size ≠ w.heap.size + 1 := Nat.ne_of_gt H3.out.lt
        have n3 : (wr.alloc (.cells #[.int .i64 d] 3)).cell? ⟨w.heap.size + 1, 1, none⟩ = some (.slice A out.length c) := (H3.out.alloc _).cell 1
        have n4 : (wr.alloc (.cells #[.int .i64 d] 3)).drew.cell? ⟨w.heap.size + 1, 1, none⟩ = some (.slice A out.length c) := n3
        clear hfin hd hcd hcg hc hdr hne1 hne2 hn1 hn2 hown0 hlen hdd hy hk
        go_wp2
        go_region_law (refine step_append_lies _ rfl (.tmp 50) (.tmp 56) 35 rfl w.heap.size 3 i0 (.int .i64 0) 1 8 Tryz.underlying35 HI.out hz0 hz1 hz2 rfl (by decide) (.slice A out.length c) out.length (dRow out) (by simp [Act.eval]) N0.out ⟨wr.heap.size, 0, none⟩ 1 1 [.int .i64 d] (by simp [Act.eval]) rfl N1.out N2.out (by decide) (by have := HLEN.out; unfold maxLen; omega) (by have := HLEN.out; omega) (by simp; omega) (wr.heap.size + 1) (by simp) ?_; intro g5 cap5 w5 hown' hgrow' _ _; have hk3 := ((H3.out.alloc (.cells #[.int .i64 d] 3)).drewN 1).kept hgrow' HE1.out.symm; have f1' := hk3.free 1; have c1' := hk3.cell 1; simp at c1'; have K3 := Lib.hid hk3; clear hk3)
        all_goals
          have hk2 := ((H2.out.alloc (.cells #[.int .i64 d] 3)).drewN 1).kept hgrow' HE2.out.symm
          have hbw3 : Below w.heap.size w w5 := (hbw.alloc hbs _).drew.grown hgrow' (by simp; omega) (fun k hk => (World.ownsRow.lt HO.out k hk).1)
          have hO3 := own_snoc hown'
          have HFF := Lib.hid (HF.out _ _ (hO3.set K3.out 1 _) (by simpa using K3.out.set 1 _) (hk2.far (by simp) _) (hbw3.setCell (by simp) (.slice (some ⟨g5, 0, none⟩) (out.length + 1) cap5)))
          clear hown' hgrow' hk2 hO3
          go_wp2
          go_roundg j
          case measure => exact Nat.lt_succ_self j
          case rel => exact HFF.out
      · have hno := num_no (f := 0) HB.out (by rw [hk]; omega) hc hd
        have HNO := Lib.hid hno
        have hcn : ¬ (48 ≤ ch.toNat ∧ ch.toNat ≤ 57) := fun h => hd (decide_eq_true h)
        obtain ⟨y, hy⟩ : ∃ y : Int, y = (ch.toNat : Int) := ⟨_, rfl⟩
        have hcy : ((s[k]'hks).toNat : Int) = y := by rw [hcg, hy]
        have hy2 : y < 48 ∨ 57 < y := by omega
        clear hd hcn hcg hc hdr hy hk hno
        rcases hy2 with y1 | y2
        · go_wp2
          refine bodyPost_ret (v := noBig 1) (by simp [results, Tryz.results24, go_sem, d0, d1]) rfl (post_form HNO.out ?_)
          exact (hbw.setCell (by simp) _).setCell (by simp) _
        · have y1 : ¬ y < 48 := by omega
          go_wp2
          refine bodyPost_ret (v := noBig 1) (by simp [results, Tryz.results24, go_sem, d0, d1]) rfl (post_form HNO.out ?_)
          exact (hbw.setCell (by simp) _).setCell (by simp) _

set_option maxRecDepth 100000 in
set_option maxHeartbeats 8000000 in
theorem rparse_plus (s : ByteArray) (hs : s.size ≤ 100000) (h0 : 0 < s.size) (hx : ((s[0]'h0).toNat : Int) = 43) (w : World) : Calls Tryz.prog 24 #[.string s] w (RpPost w s.data.toList) := by
  obtain ⟨i0, hi, hz0, hz1, hz2⟩ := info_parts dInfo
  have hp : (0 : Int) < (s.size : Int) := by omega
  have hb0 : body s.data.toList = s.data.toList.drop 1 := by
    obtain ⟨ch, r, hl, hc⟩ := first_of h0
    rw [hl, body_cons', if_pos (by rw [← hc]; omega)]; rfl
  by_cases h1 : s.size = 1
  · have hp2 : ((s.size : Int) == 1) = true := by rw [beq_iff_eq]; omega
    have hno : isNum s.data.toList = false := by
      unfold isNum
      rw [hb0, List.drop_eq_nil_of_le (by rw [← Lib.size_eq]; omega)]; rfl
    have HNO := Lib.hid hno
    have hp3 : (s.size : Int) = 1 := by omega
    clear hb0 h1 hno
    go_enter Tryz.func24, Tryz.ntmps24
    go_wp2
    refine bodyPost_ret (v := noBig 1) (by simp [results, Tryz.results24, go_sem]) rfl (post_form HNO.out ?_)
    exact ((Below.refl _ _).alloc (Nat.le_refl _) _).alloc (by simp) _
  have hp2 : ((s.size : Int) == 1) = false := by
    rw [beq_eq_false_iff_ne]; omega
  have hp3 : ¬ (s.size : Int) = 1 := by omega
  have HI := Lib.hid hi
  have hat : RpI w s.data.toList 1 false (s.size - 1) (.int .i64 ((s.size : Int) - 1)) ((w.alloc (.cells #[.bool false, .slice none 0 0] 37)).alloc (.cells #[.bool false, .slice none 0 0] 37)) := by
    refine ⟨[], none, 0, by rw [show 1 + (s.size - 1) = s.size by omega], by rw [← Lib.size_eq]; omega, ?_, ?_, by simpa using Bk.new (w.alloc _) 37 #[.bool false, .slice none 0 0], Own.nil _ _, Bk.alloc (Bk.new w _ _) _, ((Below.refl _ _).alloc (Nat.le_refl _) _).alloc (by simp) _⟩
    · rw [List.drop_eq_nil_of_le (by rw [← Lib.size_eq]; omega)]; rfl
    · rw [List.drop_eq_nil_of_le (by rw [← Lib.size_eq]; omega)]; rfl
  have AT := Lib.hid hat
  have hn0 : neg s.data.toList = false := by
    obtain ⟨ch, r, hl, hc⟩ := first_of h0
    rw [hl, neg_cons']
    simp
    omega
  have HB := Lib.hid hb0
  have HN := Lib.hid hn0
  have HNE : Hid (1 < s.data.toList.length) := Lib.hid (by rw [← Lib.size_eq]; omega)
  clear hb0 hn0 hi hat h1
  go_enter Tryz.func24, Tryz.ntmps24
  go_wp2
  go_loopg [6] (s.size - 1) (fun g s6 wr => RpI w s.data.toList 1 false g s6 wr)
  case atStart => exact AT.out
  case round =>
    obtain ⟨out, A, c, rfl, hg, hout, hall, hb3, hown, hb2, hbw⟩ := hrel
    have hbs := hbw.size
    have c0 := hb3.cell 0
    have c1 := hb3.cell 1
    have d0 := hb2.cell 0
    have d1 := hb2.cell 1
    have f0 := hb3.free 0
    have f1 := hb3.free 1
    have e0 := hb2.free 0
    have e1 := hb2.free 1
    simp at c0 c1 d0 d1
    have H3 := Lib.hid hb3
    have H2 := Lib.hid hb2
    have HO := Lib.hid hown
    have HOUT := Lib.hid hout
    have HALL := Lib.hid hall
    have HG := Lib.hid hg
    clear hb3 hb2 hown hout hall hg
    cases gk with
    | zero =>
      have z0 : (((1 + 0 : Nat) : Int) - 1) = 1 - 1 := by omega
      rw [z0]
      clear z0
      have hall := HALL.out
      rw [Nat.add_zero] at hall
      have hnum := num_yes HB.out HNE.out hall
      obtain ⟨n1, n2⟩ := num_facts s.data.toList false HN.out
      obtain ⟨z, hz⟩ : ∃ z, z = numZ s.data.toList := ⟨_, rfl⟩
      rw [← hz] at n1 n2
      have hval : val out = (z.natAbs : Int) := by rw [HOUT.out, Nat.add_zero, ← HB.out, digsOf_val, n1]
      have hdig : Dig out := by rw [HOUT.out, Nat.add_zero]; exact digsOf_dig hall
      have hol : out.length ≤ 100000 := by rw [HOUT.out, digsOf_len, List.length_drop, ← Lib.size_eq]; omega
      obtain ⟨_, ho1, ho2, ho3⟩ := own_shape2 HO.out
      have cT : ∀ W, Below wr.heap.size wr W → Calls Tryz.prog 39 #[.agg #[.bool false, .slice A out.length c]] W (TrP W z) := fun W hW =>
        trim_open (trim_any false out hdig (by omega) A c ho1 ho2 z hval n2 W (ho3.below hW))
      have hdl : (digs z.natAbs).length ≤ 100000 := by
        have := (dig_val hdig).2
        refine Nat.le_trans (digs_len (k := out.length) ?_) hol
        have h3 : (z.natAbs : Int) < 10 ^ out.length := by rw [← hval]; exact this
        exact_mod_cast h3
      have cF : ∀ W u, BigV W u z → Calls Tryz.prog 40 #[u] W fun e w' => e = .returned (.bool (decide (F64 z))) ∧ Below W.heap.size W w' := fun W u hu => fits_big z (by omega) u W hu
      have HNUM := Lib.hid hnum
      have HZ := Lib.hid hz
      have hlt := Int.sub_lt_self (1 : Int) (show (0 : Int) < 1 by decide)
      clear hall hnum n1 n2 hz hval hdig hol ho1 ho2 ho3 hdl
      obtain ⟨q, hq⟩ : ∃ q, q = digs z.natAbs := ⟨_, rfl⟩
      by_cases hF : F64 z
      · rw [decide_eq_true hF] at cF
        go_wp2_with (first
          | (go_at_call 39; (with_reducible refine (cT _ (Below.refl _ _)).mono ?_); rintro e w1 ⟨A1, k1, rfl, hk1, hd1, hb1⟩; have j3 := H3.out.below hb1 H3.out.lt; have j2 := H2.out.below hb1 H2.out.lt; have a0 := j3.free 0; have a1 := j3.free 1; have a2 := j3.cell 0; have a3 := j3.cell 1; simp at a2 a3; have j4 : Bk ((w1.setCell ⟨w.heap.size + 1, 0, none⟩ (.bool (decide (z < 0)))).setCell ⟨w.heap.size + 1, 1, none⟩ (.slice A1 (digs z.natAbs).length k1)) (w.heap.size + 1) 37 #[.bool (decide (z < 0)), .slice A1 (digs z.natAbs).length k1] := (by simpa using (j3.set 0 (.bool (decide (z < 0)))).set 1 (.slice A1 (digs z.natAbs).length k1)); have j5 := (j2.far (p := ⟨w.heap.size + 1, 0, none⟩) (by simp) (.bool (decide (z < 0)))).far (p := ⟨w.heap.size + 1, 1, none⟩) (by simp) (.slice A1 (digs z.natAbs).length k1); have big : BigV ((w1.setCell ⟨w.heap.size + 1, 0, none⟩ (.bool (decide (z < 0)))).setCell ⟨w.heap.size + 1, 1, none⟩ (.slice A1 (digs z.natAbs).length k1)) (.agg #[.bool (decide (z < 0)), .slice A1 (digs z.natAbs).length k1]) z := ⟨A1, k1, rfl, hk1, (hd1.out j3 0 (.bool (decide (z < 0)))).out (show Bk _ _ 37 #[.bool (decide (z < 0)), .slice A out.length c] from by simpa using j3.set 0 (.bool (decide (z < 0)))) 1 _⟩; have BIG := Lib.hid big; have J4 := Lib.hid j4; have J5 := Lib.hid j5; have hbw1 := hbw.trans (hb1.mono hbs); have hbw3 := (hbw1.setCell (p := ⟨w.heap.size + 1, 0, none⟩) (by simp) (.bool (decide (z < 0)))).setCell (p := ⟨w.heap.size + 1, 1, none⟩) (by simp) (.slice A1 (digs z.natAbs).length k1); have HBW3 := Lib.hid hbw3; clear j3 j2 j4 j5 hk1 hd1 hb1 big hbw1 hbw3)
          | (go_at_call 40; (with_reducible refine (cF _ _ BIG.out).mono ?_); rintro e w2 ⟨rfl, hb2⟩; have j6 := J4.out.below hb2 J4.out.lt; have j7 := J5.out.below hb2 J5.out.lt; have b0 := j6.cell 0; have b1 := j6.cell 1; have b2 := j7.cell 0; have b3 := j7.cell 1; have b4 := j7.free 0; have b5 := j7.free 1; simp at b0 b1 b2 b3; have J6 := Lib.hid j6; have J7 := Lib.hid j7; have BIG2 := Lib.hid (BIG.out.below hb2); have HBW4 := Lib.hid (HBW3.out.trans (hb2.mono HBW3.out.size)); clear j6 j7 hb2))
        refine bodyPost_ret (v := .tuple #[.agg #[.bool (decide (z < 0)), .slice A1 (digs z.natAbs).length k1], .int .i64 0]) (by simp [results, Tryz.results24, go_sem, b2, b3]) rfl (post_ok HNUM.out (by rw [← HZ.out]; exact hF) ?_ ?_)
        · rw [← HZ.out]; exact big_out2 BIG2.out J7.out
        · exact (HBW4.out.setCell (by simp) _).setCell (by simp) _
      · rw [decide_eq_false hF] at cF
        go_wp2_with (first
          | (go_at_call 39; (with_reducible refine (cT _ (Below.refl _ _)).mono ?_); rintro e w1 ⟨A1, k1, rfl, hk1, hd1, hb1⟩; have j3 := H3.out.below hb1 H3.out.lt; have j2 := H2.out.below hb1 H2.out.lt; have a0 := j3.free 0; have a1 := j3.free 1; have a2 := j3.cell 0; have a3 := j3.cell 1; simp at a2 a3; have j4 : Bk ((w1.setCell ⟨w.heap.size + 1, 0, none⟩ (.bool (decide (z < 0)))).setCell ⟨w.heap.size + 1, 1, none⟩ (.slice A1 (digs z.natAbs).length k1)) (w.heap.size + 1) 37 #[.bool (decide (z < 0)), .slice A1 (digs z.natAbs).length k1] := (by simpa using (j3.set 0 (.bool (decide (z < 0)))).set 1 (.slice A1 (digs z.natAbs).length k1)); have j5 := (j2.far (p := ⟨w.heap.size + 1, 0, none⟩) (by simp) (.bool (decide (z < 0)))).far (p := ⟨w.heap.size + 1, 1, none⟩) (by simp) (.slice A1 (digs z.natAbs).length k1); have big : BigV ((w1.setCell ⟨w.heap.size + 1, 0, none⟩ (.bool (decide (z < 0)))).setCell ⟨w.heap.size + 1, 1, none⟩ (.slice A1 (digs z.natAbs).length k1)) (.agg #[.bool (decide (z < 0)), .slice A1 (digs z.natAbs).length k1]) z := ⟨A1, k1, rfl, hk1, (hd1.out j3 0 (.bool (decide (z < 0)))).out (show Bk _ _ 37 #[.bool (decide (z < 0)), .slice A out.length c] from by simpa using j3.set 0 (.bool (decide (z < 0)))) 1 _⟩; have BIG := Lib.hid big; have J4 := Lib.hid j4; have J5 := Lib.hid j5; have hbw1 := hbw.trans (hb1.mono hbs); have hbw3 := (hbw1.setCell (p := ⟨w.heap.size + 1, 0, none⟩) (by simp) (.bool (decide (z < 0)))).setCell (p := ⟨w.heap.size + 1, 1, none⟩) (by simp) (.slice A1 (digs z.natAbs).length k1); have HBW3 := Lib.hid hbw3; clear j3 j2 j4 j5 hk1 hd1 hb1 big hbw1 hbw3)
          | (go_at_call 40; (with_reducible refine (cF _ _ BIG.out).mono ?_); rintro e w2 ⟨rfl, hb2⟩; have j6 := J4.out.below hb2 J4.out.lt; have j7 := J5.out.below hb2 J5.out.lt; have b0 := j6.cell 0; have b1 := j6.cell 1; have b2 := j7.cell 0; have b3 := j7.cell 1; have b4 := j7.free 0; have b5 := j7.free 1; simp at b0 b1 b2 b3; have J6 := Lib.hid j6; have J7 := Lib.hid j7; have BIG2 := Lib.hid (BIG.out.below hb2); have HBW4 := Lib.hid (HBW3.out.trans (hb2.mono HBW3.out.size)); clear j6 j7 hb2))
        refine bodyPost_ret (v := noBig 9) (by simp [results, Tryz.results24, go_sem, b2, b3]) rfl (post_over HNUM.out (by rw [← HZ.out]; exact hF) ?_)
        exact (HBW4.out.setCell (by simp) _).setCell (by simp) _
    | succ j =>
      have z0 : (((1 + (j + 1) : Nat) : Int) - 1) = ((1 + j : Nat) : Int) := by omega
      rw [z0]
      clear z0
      obtain ⟨k, hk⟩ : ∃ k, k = 1 + j := ⟨_, rfl⟩
      rw [← hk]
      have hks : k < s.size := by have := HG.out; rw [← Lib.size_eq] at this; omega
      obtain ⟨ch, hc⟩ : ∃ ch, s.data.toList[k]? = some ch := ⟨_, List.getElem?_eq_getElem (by rw [← Lib.size_eq]; exact hks)⟩
      have hcg : s[k]'hks = ch := (List.getElem?_eq_some_iff.1 hc).2
      have hk0 : (0 : Int) ≤ (k : Int) := by omega
      have hk1 : (k : Int) < (s.size : Int) := by omega
      have hkf : (1 : Int) ≤ (k : Int) := by omega
      have hdr := drop_at hc
      by_cases hd : isD ch = true
      · have hcd : 48 ≤ ch.toNat ∧ ch.toNat ≤ 57 := of_decide_eq_true hd
        obtain ⟨y, hy⟩ : ∃ y : Int, y = (ch.toNat : Int) := ⟨_, rfl⟩
        have hcy : ((s[k]'hks).toNat : Int) = y := by rw [hcg, hy]
        have y1 : ¬ y < 48 := by omega
        have y2 : ¬ 57 < y := by omega
        obtain ⟨d, hdd⟩ : ∃ d : Int, d = y - 48 := ⟨_, rfl⟩
        have hw1 : IntKind.u8.wrap (y - 48) = d := by
          rw [hdd]
          show (y - 48) % 256 = y - 48
          omega
        have hw2 : IntKind.i64.wrap d = d := IntWalk.i64_in _ (by omega)
        have hfin : ∀ v' wx, Own w.heap.size wx v' (out ++ [d]) → Bk wx (w.heap.size + 1) 37 #[.bool false, v'] → Bk wx w.heap.size 37 #[.bool false, .slice none 0 0] → Below w.heap.size w wx → RpI w s.data.toList 1 false j (.int .i64 ((k : Int) - 1)) wx := by
          intro v' wx ho h3 h2 hb
          obtain ⟨A', c', e, _⟩ := own_shape ho
          refine ⟨out ++ [d], A', c', by rw [hk], by have := HG.out; omega, ?_, ?_, by rw [← e]; exact h3, by rw [← e]; exact ho, h2, hb⟩
          · rw [← hk, hdr, digsOf_cons, HOUT.out, hk, show 1 + j + 1 = 1 + (j + 1) by omega]
            congr 2
            omega
          · rw [← hk, hdr, List.all_cons, hd, hk, show 1 + j + 1 = 1 + (j + 1) by omega, HALL.out]; rfl
        have HF := Lib.hid hfin
        have hlen : out.length + 1 ≤ 100001 := by
          rw [HOUT.out, digsOf_len, List.length_drop, ← Lib.size_eq]; omega
        have hne1 : (Value.slice A out.length c).ownBlock ≠ some (w.heap.size + 1) := own_ne HO.out H3.out
        have hne2 : (Value.slice A out.length c).ownBlock ≠ some w.heap.size := own_ne HO.out H2.out
        have HE1 := Lib.hid hne1
        have HE2 := Lib.hid hne2
        have HLEN := Lib.hid hlen
        have hn1 : ∀ j u, [Value.int .i64 d][j]? = some u → (wr.alloc (.cells #[Value.int .i64 d] 3)).drew.cell? ((⟨wr.heap.size, 0, none⟩ : Addr).add j) = some u := World.news_of_block (heap_alloc_new wr (.cells #[Value.int .i64 d] 3))
        have hn2 : ∀ u ∈ [Value.int .i64 d], u.oneCell' = true := by
          intro u hu
          simp at hu
          rcases hu with rfl; rfl
        have hown0 := (World.ownsRow.alloc HO.out (.cells #[Value.int .i64 d] 3)).drew
        have N0 := Lib.hid hown0
        have N1 := Lib.hid hn1
        have N2 := Lib.hid hn2
        have n1 : wr.heap.size ≠ w.heap.size + 1 := Nat.ne_of_gt H3.out.lt
        have n3 : (wr.alloc (.cells #[.int .i64 d] 3)).cell? ⟨w.heap.size + 1, 1, none⟩ = some (.slice A out.length c) := (H3.out.alloc _).cell 1
        have n4 : (wr.alloc (.cells #[.int .i64 d] 3)).drew.cell? ⟨w.heap.size + 1, 1, none⟩ = some (.slice A out.length c) := n3
        clear hfin hd hcd hcg hc hdr hne1 hne2 hn1 hn2 hown0 hlen hdd hy hk
        go_wp2
        go_region_law (refine step_append_lies _ rfl (.tmp 50) (.tmp 56) 35 rfl w.heap.size 3 i0 (.int .i64 0) 1 8 Tryz.underlying35 HI.out hz0 hz1 hz2 rfl (by decide) (.slice A out.length c) out.length (dRow out) (by simp [Act.eval]) N0.out ⟨wr.heap.size, 0, none⟩ 1 1 [.int .i64 d] (by simp [Act.eval]) rfl N1.out N2.out (by decide) (by have := HLEN.out; unfold maxLen; omega) (by have := HLEN.out; omega) (by simp; omega) (wr.heap.size + 1) (by simp) ?_; intro g5 cap5 w5 hown' hgrow' _ _; have hk3 := ((H3.out.alloc (.cells #[.int .i64 d] 3)).drewN 1).kept hgrow' HE1.out.symm; have f1' := hk3.free 1; have c1' := hk3.cell 1; simp at c1'; have K3 := Lib.hid hk3; clear hk3)
        all_goals
          have hk2 := ((H2.out.alloc (.cells #[.int .i64 d] 3)).drewN 1).kept hgrow' HE2.out.symm
          have hbw3 : Below w.heap.size w w5 := (hbw.alloc hbs _).drew.grown hgrow' (by simp; omega) (fun k hk => (World.ownsRow.lt HO.out k hk).1)
          have hO3 := own_snoc hown'
          have HFF := Lib.hid (HF.out _ _ (hO3.set K3.out 1 _) (by simpa using K3.out.set 1 _) (hk2.far (by simp) _) (hbw3.setCell (by simp) (.slice (some ⟨g5, 0, none⟩) (out.length + 1) cap5)))
          clear hown' hgrow' hk2 hO3
          go_wp2
          go_roundg j
          case measure => exact Nat.lt_succ_self j
          case rel => exact HFF.out
      · have hno := num_no (f := 1) HB.out (by rw [hk]; omega) hc hd
        have HNO := Lib.hid hno
        have hcn : ¬ (48 ≤ ch.toNat ∧ ch.toNat ≤ 57) := fun h => hd (decide_eq_true h)
        obtain ⟨y, hy⟩ : ∃ y : Int, y = (ch.toNat : Int) := ⟨_, rfl⟩
        have hcy : ((s[k]'hks).toNat : Int) = y := by rw [hcg, hy]
        have hy2 : y < 48 ∨ 57 < y := by omega
        clear hd hcn hcg hc hdr hy hk hno
        rcases hy2 with y1 | y2
        · go_wp2
          refine bodyPost_ret (v := noBig 1) (by simp [results, Tryz.results24, go_sem, d0, d1]) rfl (post_form HNO.out ?_)
          exact (hbw.setCell (by simp) _).setCell (by simp) _
        · have y1 : ¬ y < 48 := by omega
          go_wp2
          refine bodyPost_ret (v := noBig 1) (by simp [results, Tryz.results24, go_sem, d0, d1]) rfl (post_form HNO.out ?_)
          exact (hbw.setCell (by simp) _).setCell (by simp) _

set_option maxRecDepth 100000 in
set_option maxHeartbeats 8000000 in
theorem rparse_minus (s : ByteArray) (hs : s.size ≤ 100000) (h0 : 0 < s.size) (hx : ((s[0]'h0).toNat : Int) = 45) (w : World) : Calls Tryz.prog 24 #[.string s] w (RpPost w s.data.toList) := by
  obtain ⟨i0, hi, hz0, hz1, hz2⟩ := info_parts dInfo
  have hp : (0 : Int) < (s.size : Int) := by omega
  have hb0 : body s.data.toList = s.data.toList.drop 1 := by
    obtain ⟨ch, r, hl, hc⟩ := first_of h0
    rw [hl, body_cons', if_pos (by rw [← hc]; omega)]; rfl
  by_cases h1 : s.size = 1
  · have hp2 : ((s.size : Int) == 1) = true := by rw [beq_iff_eq]; omega
    have hno : isNum s.data.toList = false := by
      unfold isNum
      rw [hb0, List.drop_eq_nil_of_le (by rw [← Lib.size_eq]; omega)]; rfl
    have HNO := Lib.hid hno
    have hp3 : (s.size : Int) = 1 := by omega
    clear hb0 h1 hno
    go_enter Tryz.func24, Tryz.ntmps24
    go_wp2
    refine bodyPost_ret (v := noBig 1) (by simp [results, Tryz.results24, go_sem]) rfl (post_form HNO.out ?_)
    exact ((Below.refl _ _).alloc (Nat.le_refl _) _).alloc (by simp) _
  have hp2 : ((s.size : Int) == 1) = false := by
    rw [beq_eq_false_iff_ne]; omega
  have hp3 : ¬ (s.size : Int) = 1 := by omega
  have HI := Lib.hid hi
  have hat : RpI w s.data.toList 1 true (s.size - 1) (.int .i64 ((s.size : Int) - 1)) ((w.alloc (.cells #[.bool false, .slice none 0 0] 37)).alloc (.cells #[.bool true, .slice none 0 0] 37)) := by
    refine ⟨[], none, 0, by rw [show 1 + (s.size - 1) = s.size by omega], by rw [← Lib.size_eq]; omega, ?_, ?_, by simpa using Bk.new (w.alloc _) 37 #[.bool true, .slice none 0 0], Own.nil _ _, Bk.alloc (Bk.new w _ _) _, ((Below.refl _ _).alloc (Nat.le_refl _) _).alloc (by simp) _⟩
    · rw [List.drop_eq_nil_of_le (by rw [← Lib.size_eq]; omega)]; rfl
    · rw [List.drop_eq_nil_of_le (by rw [← Lib.size_eq]; omega)]; rfl
  have AT := Lib.hid hat
  have hn0 : neg s.data.toList = true := by
    obtain ⟨ch, r, hl, hc⟩ := first_of h0
    rw [hl, neg_cons']
    simp
    omega
  have HB := Lib.hid hb0
  have HN := Lib.hid hn0
  have HNE : Hid (1 < s.data.toList.length) := Lib.hid (by rw [← Lib.size_eq]; omega)
  clear hb0 hn0 hi hat h1
  go_enter Tryz.func24, Tryz.ntmps24
  go_wp2
  go_loopg [6] (s.size - 1) (fun g s6 wr => RpI w s.data.toList 1 true g s6 wr)
  case atStart => exact AT.out
  case round =>
    obtain ⟨out, A, c, rfl, hg, hout, hall, hb3, hown, hb2, hbw⟩ := hrel
    have hbs := hbw.size
    have c0 := hb3.cell 0
    have c1 := hb3.cell 1
    have d0 := hb2.cell 0
    have d1 := hb2.cell 1
    have f0 := hb3.free 0
    have f1 := hb3.free 1
    have e0 := hb2.free 0
    have e1 := hb2.free 1
    simp at c0 c1 d0 d1
    have H3 := Lib.hid hb3
    have H2 := Lib.hid hb2
    have HO := Lib.hid hown
    have HOUT := Lib.hid hout
    have HALL := Lib.hid hall
    have HG := Lib.hid hg
    clear hb3 hb2 hown hout hall hg
    cases gk with
    | zero =>
      have z0 : (((1 + 0 : Nat) : Int) - 1) = 1 - 1 := by omega
      rw [z0]
      clear z0
      have hall := HALL.out
      rw [Nat.add_zero] at hall
      have hnum := num_yes HB.out HNE.out hall
      obtain ⟨n1, n2⟩ := num_facts s.data.toList true HN.out
      obtain ⟨z, hz⟩ : ∃ z, z = numZ s.data.toList := ⟨_, rfl⟩
      rw [← hz] at n1 n2
      have hval : val out = (z.natAbs : Int) := by rw [HOUT.out, Nat.add_zero, ← HB.out, digsOf_val, n1]
      have hdig : Dig out := by rw [HOUT.out, Nat.add_zero]; exact digsOf_dig hall
      have hol : out.length ≤ 100000 := by rw [HOUT.out, digsOf_len, List.length_drop, ← Lib.size_eq]; omega
      obtain ⟨_, ho1, ho2, ho3⟩ := own_shape2 HO.out
      have cT : ∀ W, Below wr.heap.size wr W → Calls Tryz.prog 39 #[.agg #[.bool true, .slice A out.length c]] W (TrP W z) := fun W hW =>
        trim_open (trim_any true out hdig (by omega) A c ho1 ho2 z hval n2 W (ho3.below hW))
      have hdl : (digs z.natAbs).length ≤ 100000 := by
        have := (dig_val hdig).2
        refine Nat.le_trans (digs_len (k := out.length) ?_) hol
        have h3 : (z.natAbs : Int) < 10 ^ out.length := by rw [← hval]; exact this
        exact_mod_cast h3
      have cF : ∀ W u, BigV W u z → Calls Tryz.prog 40 #[u] W fun e w' => e = .returned (.bool (decide (F64 z))) ∧ Below W.heap.size W w' := fun W u hu => fits_big z (by omega) u W hu
      have HNUM := Lib.hid hnum
      have HZ := Lib.hid hz
      have hlt := Int.sub_lt_self (1 : Int) (show (0 : Int) < 1 by decide)
      clear hall hnum n1 n2 hz hval hdig hol ho1 ho2 ho3 hdl
      obtain ⟨q, hq⟩ : ∃ q, q = digs z.natAbs := ⟨_, rfl⟩
      by_cases hF : F64 z
      · rw [decide_eq_true hF] at cF
        go_wp2_with (first
          | (go_at_call 39; (with_reducible refine (cT _ (Below.refl _ _)).mono ?_); rintro e w1 ⟨A1, k1, rfl, hk1, hd1, hb1⟩; have j3 := H3.out.below hb1 H3.out.lt; have j2 := H2.out.below hb1 H2.out.lt; have a0 := j3.free 0; have a1 := j3.free 1; have a2 := j3.cell 0; have a3 := j3.cell 1; simp at a2 a3; have j4 : Bk ((w1.setCell ⟨w.heap.size + 1, 0, none⟩ (.bool (decide (z < 0)))).setCell ⟨w.heap.size + 1, 1, none⟩ (.slice A1 (digs z.natAbs).length k1)) (w.heap.size + 1) 37 #[.bool (decide (z < 0)), .slice A1 (digs z.natAbs).length k1] := (by simpa using (j3.set 0 (.bool (decide (z < 0)))).set 1 (.slice A1 (digs z.natAbs).length k1)); have j5 := (j2.far (p := ⟨w.heap.size + 1, 0, none⟩) (by simp) (.bool (decide (z < 0)))).far (p := ⟨w.heap.size + 1, 1, none⟩) (by simp) (.slice A1 (digs z.natAbs).length k1); have big : BigV ((w1.setCell ⟨w.heap.size + 1, 0, none⟩ (.bool (decide (z < 0)))).setCell ⟨w.heap.size + 1, 1, none⟩ (.slice A1 (digs z.natAbs).length k1)) (.agg #[.bool (decide (z < 0)), .slice A1 (digs z.natAbs).length k1]) z := ⟨A1, k1, rfl, hk1, (hd1.out j3 0 (.bool (decide (z < 0)))).out (show Bk _ _ 37 #[.bool (decide (z < 0)), .slice A out.length c] from by simpa using j3.set 0 (.bool (decide (z < 0)))) 1 _⟩; have BIG := Lib.hid big; have J4 := Lib.hid j4; have J5 := Lib.hid j5; have hbw1 := hbw.trans (hb1.mono hbs); have hbw3 := (hbw1.setCell (p := ⟨w.heap.size + 1, 0, none⟩) (by simp) (.bool (decide (z < 0)))).setCell (p := ⟨w.heap.size + 1, 1, none⟩) (by simp) (.slice A1 (digs z.natAbs).length k1); have HBW3 := Lib.hid hbw3; clear j3 j2 j4 j5 hk1 hd1 hb1 big hbw1 hbw3)
          | (go_at_call 40; (with_reducible refine (cF _ _ BIG.out).mono ?_); rintro e w2 ⟨rfl, hb2⟩; have j6 := J4.out.below hb2 J4.out.lt; have j7 := J5.out.below hb2 J5.out.lt; have b0 := j6.cell 0; have b1 := j6.cell 1; have b2 := j7.cell 0; have b3 := j7.cell 1; have b4 := j7.free 0; have b5 := j7.free 1; simp at b0 b1 b2 b3; have J6 := Lib.hid j6; have J7 := Lib.hid j7; have BIG2 := Lib.hid (BIG.out.below hb2); have HBW4 := Lib.hid (HBW3.out.trans (hb2.mono HBW3.out.size)); clear j6 j7 hb2))
        refine bodyPost_ret (v := .tuple #[.agg #[.bool (decide (z < 0)), .slice A1 (digs z.natAbs).length k1], .int .i64 0]) (by simp [results, Tryz.results24, go_sem, b2, b3]) rfl (post_ok HNUM.out (by rw [← HZ.out]; exact hF) ?_ ?_)
        · rw [← HZ.out]; exact big_out2 BIG2.out J7.out
        · exact (HBW4.out.setCell (by simp) _).setCell (by simp) _
      · rw [decide_eq_false hF] at cF
        go_wp2_with (first
          | (go_at_call 39; (with_reducible refine (cT _ (Below.refl _ _)).mono ?_); rintro e w1 ⟨A1, k1, rfl, hk1, hd1, hb1⟩; have j3 := H3.out.below hb1 H3.out.lt; have j2 := H2.out.below hb1 H2.out.lt; have a0 := j3.free 0; have a1 := j3.free 1; have a2 := j3.cell 0; have a3 := j3.cell 1; simp at a2 a3; have j4 : Bk ((w1.setCell ⟨w.heap.size + 1, 0, none⟩ (.bool (decide (z < 0)))).setCell ⟨w.heap.size + 1, 1, none⟩ (.slice A1 (digs z.natAbs).length k1)) (w.heap.size + 1) 37 #[.bool (decide (z < 0)), .slice A1 (digs z.natAbs).length k1] := (by simpa using (j3.set 0 (.bool (decide (z < 0)))).set 1 (.slice A1 (digs z.natAbs).length k1)); have j5 := (j2.far (p := ⟨w.heap.size + 1, 0, none⟩) (by simp) (.bool (decide (z < 0)))).far (p := ⟨w.heap.size + 1, 1, none⟩) (by simp) (.slice A1 (digs z.natAbs).length k1); have big : BigV ((w1.setCell ⟨w.heap.size + 1, 0, none⟩ (.bool (decide (z < 0)))).setCell ⟨w.heap.size + 1, 1, none⟩ (.slice A1 (digs z.natAbs).length k1)) (.agg #[.bool (decide (z < 0)), .slice A1 (digs z.natAbs).length k1]) z := ⟨A1, k1, rfl, hk1, (hd1.out j3 0 (.bool (decide (z < 0)))).out (show Bk _ _ 37 #[.bool (decide (z < 0)), .slice A out.length c] from by simpa using j3.set 0 (.bool (decide (z < 0)))) 1 _⟩; have BIG := Lib.hid big; have J4 := Lib.hid j4; have J5 := Lib.hid j5; have hbw1 := hbw.trans (hb1.mono hbs); have hbw3 := (hbw1.setCell (p := ⟨w.heap.size + 1, 0, none⟩) (by simp) (.bool (decide (z < 0)))).setCell (p := ⟨w.heap.size + 1, 1, none⟩) (by simp) (.slice A1 (digs z.natAbs).length k1); have HBW3 := Lib.hid hbw3; clear j3 j2 j4 j5 hk1 hd1 hb1 big hbw1 hbw3)
          | (go_at_call 40; (with_reducible refine (cF _ _ BIG.out).mono ?_); rintro e w2 ⟨rfl, hb2⟩; have j6 := J4.out.below hb2 J4.out.lt; have j7 := J5.out.below hb2 J5.out.lt; have b0 := j6.cell 0; have b1 := j6.cell 1; have b2 := j7.cell 0; have b3 := j7.cell 1; have b4 := j7.free 0; have b5 := j7.free 1; simp at b0 b1 b2 b3; have J6 := Lib.hid j6; have J7 := Lib.hid j7; have BIG2 := Lib.hid (BIG.out.below hb2); have HBW4 := Lib.hid (HBW3.out.trans (hb2.mono HBW3.out.size)); clear j6 j7 hb2))
        refine bodyPost_ret (v := noBig 9) (by simp [results, Tryz.results24, go_sem, b2, b3]) rfl (post_over HNUM.out (by rw [← HZ.out]; exact hF) ?_)
        exact (HBW4.out.setCell (by simp) _).setCell (by simp) _
    | succ j =>
      have z0 : (((1 + (j + 1) : Nat) : Int) - 1) = ((1 + j : Nat) : Int) := by omega
      rw [z0]
      clear z0
      obtain ⟨k, hk⟩ : ∃ k, k = 1 + j := ⟨_, rfl⟩
      rw [← hk]
      have hks : k < s.size := by have := HG.out; rw [← Lib.size_eq] at this; omega
      obtain ⟨ch, hc⟩ : ∃ ch, s.data.toList[k]? = some ch := ⟨_, List.getElem?_eq_getElem (by rw [← Lib.size_eq]; exact hks)⟩
      have hcg : s[k]'hks = ch := (List.getElem?_eq_some_iff.1 hc).2
      have hk0 : (0 : Int) ≤ (k : Int) := by omega
      have hk1 : (k : Int) < (s.size : Int) := by omega
      have hkf : (1 : Int) ≤ (k : Int) := by omega
      have hdr := drop_at hc
      by_cases hd : isD ch = true
      · have hcd : 48 ≤ ch.toNat ∧ ch.toNat ≤ 57 := of_decide_eq_true hd
        obtain ⟨y, hy⟩ : ∃ y : Int, y = (ch.toNat : Int) := ⟨_, rfl⟩
        have hcy : ((s[k]'hks).toNat : Int) = y := by rw [hcg, hy]
        have y1 : ¬ y < 48 := by omega
        have y2 : ¬ 57 < y := by omega
        obtain ⟨d, hdd⟩ : ∃ d : Int, d = y - 48 := ⟨_, rfl⟩
        have hw1 : IntKind.u8.wrap (y - 48) = d := by
          rw [hdd]
          show (y - 48) % 256 = y - 48
          omega
        have hw2 : IntKind.i64.wrap d = d := IntWalk.i64_in _ (by omega)
        have hfin : ∀ v' wx, Own w.heap.size wx v' (out ++ [d]) → Bk wx (w.heap.size + 1) 37 #[.bool true, v'] → Bk wx w.heap.size 37 #[.bool false, .slice none 0 0] → Below w.heap.size w wx → RpI w s.data.toList 1 true j (.int .i64 ((k : Int) - 1)) wx := by
          intro v' wx ho h3 h2 hb
          obtain ⟨A', c', e, _⟩ := own_shape ho
          refine ⟨out ++ [d], A', c', by rw [hk], by have := HG.out; omega, ?_, ?_, by rw [← e]; exact h3, by rw [← e]; exact ho, h2, hb⟩
          · rw [← hk, hdr, digsOf_cons, HOUT.out, hk, show 1 + j + 1 = 1 + (j + 1) by omega]
            congr 2
            omega
          · rw [← hk, hdr, List.all_cons, hd, hk, show 1 + j + 1 = 1 + (j + 1) by omega, HALL.out]; rfl
        have HF := Lib.hid hfin
        have hlen : out.length + 1 ≤ 100001 := by
          rw [HOUT.out, digsOf_len, List.length_drop, ← Lib.size_eq]; omega
        have hne1 : (Value.slice A out.length c).ownBlock ≠ some (w.heap.size + 1) := own_ne HO.out H3.out
        have hne2 : (Value.slice A out.length c).ownBlock ≠ some w.heap.size := own_ne HO.out H2.out
        have HE1 := Lib.hid hne1
        have HE2 := Lib.hid hne2
        have HLEN := Lib.hid hlen
        have hn1 : ∀ j u, [Value.int .i64 d][j]? = some u → (wr.alloc (.cells #[Value.int .i64 d] 3)).drew.cell? ((⟨wr.heap.size, 0, none⟩ : Addr).add j) = some u := World.news_of_block (heap_alloc_new wr (.cells #[Value.int .i64 d] 3))
        have hn2 : ∀ u ∈ [Value.int .i64 d], u.oneCell' = true := by
          intro u hu
          simp at hu
          rcases hu with rfl; rfl
        have hown0 := (World.ownsRow.alloc HO.out (.cells #[Value.int .i64 d] 3)).drew
        have N0 := Lib.hid hown0
        have N1 := Lib.hid hn1
        have N2 := Lib.hid hn2
        have n1 : wr.heap.size ≠ w.heap.size + 1 := Nat.ne_of_gt H3.out.lt
        have n3 : (wr.alloc (.cells #[.int .i64 d] 3)).cell? ⟨w.heap.size + 1, 1, none⟩ = some (.slice A out.length c) := (H3.out.alloc _).cell 1
        have n4 : (wr.alloc (.cells #[.int .i64 d] 3)).drew.cell? ⟨w.heap.size + 1, 1, none⟩ = some (.slice A out.length c) := n3
        clear hfin hd hcd hcg hc hdr hne1 hne2 hn1 hn2 hown0 hlen hdd hy hk
        go_wp2
        go_region_law (refine step_append_lies _ rfl (.tmp 50) (.tmp 56) 35 rfl w.heap.size 3 i0 (.int .i64 0) 1 8 Tryz.underlying35 HI.out hz0 hz1 hz2 rfl (by decide) (.slice A out.length c) out.length (dRow out) (by simp [Act.eval]) N0.out ⟨wr.heap.size, 0, none⟩ 1 1 [.int .i64 d] (by simp [Act.eval]) rfl N1.out N2.out (by decide) (by have := HLEN.out; unfold maxLen; omega) (by have := HLEN.out; omega) (by simp; omega) (wr.heap.size + 1) (by simp) ?_; intro g5 cap5 w5 hown' hgrow' _ _; have hk3 := ((H3.out.alloc (.cells #[.int .i64 d] 3)).drewN 1).kept hgrow' HE1.out.symm; have f1' := hk3.free 1; have c1' := hk3.cell 1; simp at c1'; have K3 := Lib.hid hk3; clear hk3)
        all_goals
          have hk2 := ((H2.out.alloc (.cells #[.int .i64 d] 3)).drewN 1).kept hgrow' HE2.out.symm
          have hbw3 : Below w.heap.size w w5 := (hbw.alloc hbs _).drew.grown hgrow' (by simp; omega) (fun k hk => (World.ownsRow.lt HO.out k hk).1)
          have hO3 := own_snoc hown'
          have HFF := Lib.hid (HF.out _ _ (hO3.set K3.out 1 _) (by simpa using K3.out.set 1 _) (hk2.far (by simp) _) (hbw3.setCell (by simp) (.slice (some ⟨g5, 0, none⟩) (out.length + 1) cap5)))
          clear hown' hgrow' hk2 hO3
          go_wp2
          go_roundg j
          case measure => exact Nat.lt_succ_self j
          case rel => exact HFF.out
      · have hno := num_no (f := 1) HB.out (by rw [hk]; omega) hc hd
        have HNO := Lib.hid hno
        have hcn : ¬ (48 ≤ ch.toNat ∧ ch.toNat ≤ 57) := fun h => hd (decide_eq_true h)
        obtain ⟨y, hy⟩ : ∃ y : Int, y = (ch.toNat : Int) := ⟨_, rfl⟩
        have hcy : ((s[k]'hks).toNat : Int) = y := by rw [hcg, hy]
        have hy2 : y < 48 ∨ 57 < y := by omega
        clear hd hcn hcg hc hdr hy hk hno
        rcases hy2 with y1 | y2
        · go_wp2
          refine bodyPost_ret (v := noBig 1) (by simp [results, Tryz.results24, go_sem, d0, d1]) rfl (post_form HNO.out ?_)
          exact (hbw.setCell (by simp) _).setCell (by simp) _
        · have y1 : ¬ y < 48 := by omega
          go_wp2
          refine bodyPost_ret (v := noBig 1) (by simp [results, Tryz.results24, go_sem, d0, d1]) rfl (post_form HNO.out ?_)
          exact (hbw.setCell (by simp) _).setCell (by simp) _
end Go.Proofs.YtaoelnfflkkeeaaGreatDoor
