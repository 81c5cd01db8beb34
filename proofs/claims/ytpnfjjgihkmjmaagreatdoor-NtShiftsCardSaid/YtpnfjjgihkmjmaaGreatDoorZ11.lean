/-
  MERGED (a claim has at most 60 files): NIri, UntilA.
-/
import Derived.Test.YtpnfjjgihkmjmaaGreatDoorZ10
/-
  READING AN IRI (package nt): all ways.
-/
namespace Go.Proofs.YtpnfjjgihkmjmaaGreatDoor
open Go.RowKit
set_option linter.unusedVariables false

/-- An IRI's text from place p on, acc being read; at most f signs are to come. -/
def irf (sl : List Int) : Nat → Nat → List Int → Nat × Option (List Int)
  | 0, p, _ => (p, none)
  | f + 1, p, acc => match sl[p]? with
    | none => (p, none)
    | some c => if c = 62 then (p + 1, some acc) else if c = 10 then (p, none) else if c = 92 then
        (match (nef sl (p + 1)).2 with
          | none => ((nef sl (p + 1)).1, none)
          | some n => irf sl f (nef sl (p + 1)).1 (acc ++ [n]))
      else irf sl f (p + 1) (acc ++ [c])
/-- An IRI's text at place k. -/
def irP (sl : List Int) (k : Nat) : Nat × Option (List Int) := if sl[k]? = some 60 then irf sl (sl.length - (k + 1)) (k + 1) [] else (k, none)
theorem nef_le (sl : List Int) (p : Nat) (h : p ≤ sl.length) : (nef sl p).1 ≤ sl.length ∧ p ≤ (nef sl p).1 := by
  unfold nef
  have h4 := rd_le 4 0 (sl.drop (p + 1)) (p + 1)
  have h8 := rd_le 8 0 (sl.drop (p + 1)) (p + 1)
  rw [List.length_drop] at h4 h8
  split
  · rename_i hx
    have hp := (List.getElem?_eq_some_iff.1 hx).1
    omega
  split
  · rename_i hx
    have hp := (List.getElem?_eq_some_iff.1 hx).1
    omega
  · exact ⟨h, Nat.le_refl _⟩
theorem nef_sgn (sl : List Int) (p : Nat) (n : Int) (h : (nef sl p).2 = some n) : sgn n = true := by
  unfold nef at h
  split at h
  · exact (rd_sgn _ _ _ _ _ h).1
  split at h
  · exact (rd_sgn _ _ _ _ _ h).1
  · cases h
/-- The loop's relation. -/
def NA (w : World) (B b : Nat) (v : Value) (sl : List Int) (N : Nat) (r : Nat × Option (List Int)) (g : Nat) (wr : World) : Prop :=
  ∃ p acc, r = irf sl g p acc ∧ p ≤ sl.length ∧ sl.length - p ≤ g ∧ acc.length + g ≤ 100000 ∧ RS w B b v sl N p acc wr
section
variable {w : World} {B b : Nat} {v : Value} {sl : List Int} {N k : Nat} {acc : List Int}
theorem rs_peek {x : Int} (hx : sl[k]? = some x) (hl : sl.length ≤ 4294967296) : EverT (RS w B b v sl N k acc) 66 #[.pointer (some ⟨b, 0, none⟩)] (.returned (.int .i32 x)) (RS w B b v sl N k acc) :=
  fun _ h => (peek_sign h.1 hx hl).mono fun _ _ ⟨x, y⟩ => ⟨x, h.same y⟩
theorem rs_nescape (hk : k ≤ sl.length) (hl : sl.length ≤ 4294967296) (q : Nat) (o : Option Int) (he1 : (nef sl k).1 = q) (he2 : (nef sl k).2 = o) :
    EverT (RS w B b v sl N k acc) 111 #[.pointer (some ⟨b, 0, none⟩)] (.returned (.tuple #[.int .i32 (o.getD 0), .bool o.isSome])) (RS w B b v sl N q acc) := by
  subst he1 he2
  exact fun _ h => (nescape_any h.1 hk hl).mono fun _ _ ⟨x, y⟩ => ⟨x, h.grown y⟩
/-- A builder is made. -/
theorem rs_start {W : World} (h : Sc B W b v sl k) (hN : N = W.heap.size) : RS W B b v sl N k [] (W.alloc (.cells #[.pointer none, .slice none 0 0] 94)) := by
  subst hN
  exact ⟨h.below3 ((Below.refl _ _).alloc (Nat.le_refl _) _), Lib.IsBuilderF.of (Lib.fresh_isBuilder 94 5 W), below_grown ((Below.refl _ _).alloc (Nat.le_refl _) _) _, rfl, (Array.getElem?_eq_some_iff.1 h.blk).1, fun g hg => (World.ownsRow.lt h.row g hg).2⟩
end
set_option maxHeartbeats 8000000 in
set_option maxRecDepth 100000 in
theorem niri_yes {B : Nat} {w : World} {b : Nat} {v : Value} {sl : List Int} {k : Nat} (h : Sc B w b v sl k) (hl : sl.length ≤ 100000) (hall : AllS sl) (hx0 : sl[k]? = some 60) :
    Calls Tryz.prog 101 #[.pointer (some ⟨b, 0, none⟩)] w (QPost B w b v sl (irf sl (sl.length - (k + 1)) (k + 1) [])) := by
  have hkl : k < sl.length := (List.getElem?_eq_some_iff.1 hx0).1
  have c1 := is_one h (by omega) (by omega) 60 _ p60 (by decide)
  rw [if_pos hx0, decide_eq_true hx0] at c1
  have HA := Lib.hid hall
  obtain ⟨r, hr⟩ : ∃ r, r = irf sl (sl.length - (k + 1)) (k + 1) [] := ⟨_, rfl⟩
  have HR := Lib.hid hr
  rw [← hr]
  clear h hall hx0 hr
  go_enter Tryz.func101, Tryz.ntmps101
  go_wp2_with (go_at_call 68; (with_reducible refine c1.mono ?_); rintro e w3 ⟨rfl, h3, g3⟩)
  obtain ⟨N, hN⟩ : ∃ N, N = w3.heap.size := ⟨_, rfl⟩
  have HST := Lib.hid (rs_start h3 hN)
  have HG := Lib.hid g3
  clear c1 h3 g3
  rw [← hN]
  have HNN := Lib.hid hN
  clear hN
  go_loopg [] (sl.length - (k + 1)) (fun g wr => NA w3 B b v sl N r g wr)
  case atStart => exact ⟨k + 1, [], HR.out, by omega, by omega, by simp; omega, HST.out⟩
  case round =>
    clear HR HST
    obtain ⟨p, acc, hq, hpl, hpg, hag, hR⟩ := hrel
    have hacc : acc.length ≤ 1000000 := by omega
    by_cases hpe : p = sl.length
    · have hrr : r = (p, none) := by
        rw [hq]
        cases gk with
        | zero => rfl
        | succ g => unfold irf; rw [hpe, List.getElem?_eq_none (Nat.le_refl _)]
      have cE := rs_endy (w := w3) (B := B) (b := b) (v := v) (N := N) (acc := acc) hpe (by omega)
      have HRR := Lib.hid hrr
      clear hq hrr hpe
      go_wp2_with (go_at_call 35; (with_reducible refine (cE.at (by assumption)).mono ?_); rintro e x1 ⟨rfl, hR1⟩)
      go_ret2
      rw [HRR.out]
      exact ⟨by rw [show ((p, (none : Option (List Int))).2.getD []) = [] from rfl, text_nil]; rfl, hR1.1, grown_trans HG.out hR1.2.2.1⟩
    · have hpl2 : p < sl.length := by omega
      obtain ⟨g, rfl⟩ : ∃ g, gk = g + 1 := ⟨gk - 1, by omega⟩
      obtain ⟨c, hx⟩ : ∃ c, sl[p]? = some c := ⟨_, List.getElem?_eq_getElem hpl2⟩
      have hcs : sgn c = true := HA.out c (List.mem_of_getElem? hx)
      have cE := rs_end (w := w3) (B := B) (b := b) (v := v) (N := N) (acc := acc) hpl2 (by omega)
      have cP := rs_peek (w := w3) (B := B) (b := b) (v := v) (N := N) (acc := acc) hx (by omega)
      have cN := rs_next (w := w3) (B := B) (b := b) (v := v) (N := N) (acc := acc) hx (by omega)
      unfold irf at hq
      rw [hx] at hq
      dsimp only at hq
      clear hx hpe
      by_cases h34 : c = 62
      · rw [if_pos h34] at hq
        subst h34
        have cS := rs_string (w := w3) (B := B) (b := b) (v := v) (sl := sl) (N := N) (k := p + 1) (acc := acc)
        have HQ := Lib.hid hq
        clear hq hcs
        go_wp2_with (first
          | (go_at_call 35; (with_reducible refine (cE.at (by assumption)).mono ?_); rintro e x1 ⟨rfl, hR1⟩)
          | (go_at_call 66; (with_reducible refine (cP.at (by assumption)).mono ?_); rintro e x4 ⟨rfl, hR4⟩)
          | (go_at_call 67; (with_reducible refine (cN.at (by assumption)).mono ?_); rintro e x2 ⟨rfl, hR2⟩)
          | (go_at_call 47; (with_reducible refine (cS.at (by assumption)).mono ?_); rintro e x3 ⟨rfl, hR3⟩))
        go_ret2
        rw [HQ.out]
        exact ⟨rfl, hR3.1, grown_trans HG.out hR3.2.2.1⟩
      rw [if_neg h34] at hq
      have g34 : (c == 62) = false := by simpa using h34
      by_cases hnl : c = 10
      · rw [if_pos hnl] at hq
        have HQ := Lib.hid hq
        subst hnl
        clear hq hcs h34 g34
        go_wp2_with (first
          | (go_at_call 35; (with_reducible refine (cE.at (by assumption)).mono ?_); rintro e x1 ⟨rfl, hR1⟩)
          | (go_at_call 66; (with_reducible refine (cP.at (by assumption)).mono ?_); rintro e x4 ⟨rfl, hR4⟩))
        go_ret2
        rw [HQ.out]
        exact ⟨by rw [show ((p, (none : Option (List Int))).2.getD []) = [] from rfl, text_nil]; rfl, hR4.1, grown_trans HG.out hR4.2.2.1⟩
      rw [if_neg hnl] at hq
      have g10 : (c == 10) = false := by simpa using hnl
      have g10' : (c != 10) = true := by simpa using hnl
      by_cases h92 : c = 92
      · rw [if_pos h92] at hq
        subst h92
        obtain ⟨hle1, hle2⟩ := nef_le sl (p + 1) (by omega)
        obtain ⟨q, hq1⟩ : ∃ q, (nef sl (p + 1)).1 = q := ⟨_, rfl⟩
        rw [hq1] at hq hle1 hle2
        clear g34 g10 g10' h34 hnl hcs
        cases ho : (nef sl (p + 1)).2 with
        | none =>
          rw [ho] at hq
          dsimp only at hq
          have cL := rs_nescape (w := w3) (B := B) (b := b) (v := v) (N := N) (acc := acc) (k := p + 1) (by omega) (by omega) q none hq1 ho
          have HQ := Lib.hid hq
          clear hq ho hq1
          go_wp2_with (first
            | (go_at_call 35; (with_reducible refine (cE.at (by assumption)).mono ?_); rintro e x1 ⟨rfl, hR1⟩)
            | (go_at_call 66; (with_reducible refine (cP.at (by assumption)).mono ?_); rintro e x4 ⟨rfl, hR4⟩)
            | (go_at_call 67; (with_reducible refine (cN.at (by assumption)).mono ?_); rintro e x2 ⟨rfl, hR2⟩)
            | (go_at_call 111; (with_reducible refine (cL.at (by assumption)).mono ?_); rintro e x3 ⟨rfl, hR3⟩))
          go_ret2
          rw [HQ.out]
          exact ⟨by rw [show ((q, (none : Option (List Int))).2.getD []) = [] from rfl, text_nil]; rfl, hR3.1, grown_trans HG.out hR3.2.2.1⟩
        | some n =>
          rw [ho] at hq
          dsimp only at hq
          have hn := nef_sgn sl (p + 1) n ho
          have cL := rs_nescape (w := w3) (B := B) (b := b) (v := v) (N := N) (acc := acc) (k := p + 1) (by omega) (by omega) q (some n) hq1 ho
          have cW := rs_write (w := w3) (B := B) (b := b) (v := v) (sl := sl) (N := N) (k := q) (acc := acc) n hn hacc
          have hfin : ∀ W, RS w3 B b v sl N q (acc ++ [n]) W → NA w3 B b v sl N r g W := fun W x => ⟨q, acc ++ [n], hq, hle1, by omega, by simp; omega, x⟩
          have HF := Lib.hid hfin
          clear hq ho hq1 hfin hn
          go_wp2_with (first
            | (go_at_call 35; (with_reducible refine (cE.at (by assumption)).mono ?_); rintro e x1 ⟨rfl, hR1⟩)
            | (go_at_call 66; (with_reducible refine (cP.at (by assumption)).mono ?_); rintro e x4 ⟨rfl, hR4⟩)
            | (go_at_call 67; (with_reducible refine (cN.at (by assumption)).mono ?_); rintro e x2 ⟨rfl, hR2⟩)
            | (go_at_call 111; (with_reducible refine (cL.at (by assumption)).mono ?_); rintro e x3 ⟨rfl, hR3⟩)
            | (go_at_call 112; (with_reducible refine (cW.at (by assumption)).mono ?_); rintro e x5 ⟨rfl, hR5⟩))
          go_roundg g
          case measure => omega
          case rel => exact HF.out _ hR5
      · rw [if_neg h92] at hq
        have g92 : (c == 92) = false := by simpa using h92
        have cW := rs_write (w := w3) (B := B) (b := b) (v := v) (sl := sl) (N := N) (k := p + 1) (acc := acc) c hcs hacc
        have hfin : ∀ W, RS w3 B b v sl N (p + 1) (acc ++ [c]) W → NA w3 B b v sl N r g W := fun W x => ⟨p + 1, acc ++ [c], hq, by omega, by omega, by simp; omega, x⟩
        have HF := Lib.hid hfin
        clear hq hfin hcs h34 hnl h92
        go_wp2_with (first
          | (go_at_call 35; (with_reducible refine (cE.at (by assumption)).mono ?_); rintro e x1 ⟨rfl, hR1⟩)
          | (go_at_call 66; (with_reducible refine (cP.at (by assumption)).mono ?_); rintro e x4 ⟨rfl, hR4⟩)
          | (go_at_call 67; (with_reducible refine (cN.at (by assumption)).mono ?_); rintro e x2 ⟨rfl, hR2⟩)
          | (go_at_call 112; (with_reducible refine (cW.at (by assumption)).mono ?_); rintro e x3 ⟨rfl, hR3⟩))
        go_roundg g
        case measure => omega
        case rel => exact HF.out _ hR3
theorem niri_any {B : Nat} {w : World} {b : Nat} {v : Value} {sl : List Int} {k : Nat} (h : Sc B w b v sl k) (hk : k ≤ sl.length) (hl : sl.length ≤ 100000) (hall : AllS sl) :
    Calls Tryz.prog 101 #[.pointer (some ⟨b, 0, none⟩)] w (QPost B w b v sl (irP sl k)) := by
  unfold irP
  by_cases hx : sl[k]? = some 60
  · rw [if_pos hx]; exact niri_yes h hl hall hx
  · rw [if_neg hx]
    have c1 := is_one h hk (by omega) 60 _ p60 (by decide)
    rw [if_neg hx, decide_eq_false hx, Nat.add_zero] at c1
    clear h hx
    go_enter Tryz.func101, Tryz.ntmps101
    go_wp2_with (go_at_call 68; (with_reducible refine c1.mono ?_); rintro e w3 ⟨rfl, h3, g3⟩)
    go_ret2
    exact ⟨by rw [show ((k, (none : Option (List Int))).2.getD []) = [] from rfl, text_nil]; rfl, h3, g3⟩
end Go.Proofs.YtpnfjjgihkmjmaaGreatDoor

/-
  THE SCANNER's 'Until': the signs ahead of one.
-/
namespace Go.Proofs.YtpnfjjgihkmjmaaGreatDoor
open Go.RowKit
set_option linter.unusedVariables false

/-- The place of the first x, or -1. -/
def idxFrom (x : Int) : Nat → List Int → Int
  | _, [] => -1
  | i, n :: l => if n = x then i else idxFrom x (i + 1) l
def idx (x : Int) (l : List Int) : Int := idxFrom x 0 l
theorem idxFrom_drop (x : Int) (l : List Int) (i : Nat) (n : Int) (h : l[i]? = some n) : idxFrom x i (l.drop i) = if n = x then (i : Int) else idxFrom x (i + 1) (l.drop (i + 1)) := by
  rw [drop_cons l i n h]
  rfl

set_option maxHeartbeats 4000000 in
theorem index_any (l : List Int) (x : Int) (hl : l.length ≤ 4294967296) (ao : Option Addr) (g o c : Nat) (w : World) (hao : 0 < l.length → ao = some ⟨g, o, none⟩)
    (hc : ∀ (j : Nat) (n : Int), l[j]? = some n → w.cell? ⟨g, o + j, none⟩ = some (.int .i32 n)) :
    Calls Tryz.prog 126 #[.slice ao l.length c, .int .i32 x] w fun e w' => e = .returned (.int .i64 (idx x l)) ∧ w' = w := by
  have HC := Lib.hid hc
  have HO := Lib.hid hao
  clear hc hao
  go_enter Tryz.func126, Tryz.ntmps126
  go_wp2
  go_loop [8] (fun i => ∃ k : Nat, k ≤ l.length ∧ i = .int .i64 k ∧ Hid (idxFrom x k (l.drop k) = idx x l)) (fun i => l.length - (intOf i).toNat)
  case atStart => exact ⟨0, Nat.zero_le _, rfl, Lib.hid rfl⟩
  case round =>
    obtain ⟨k, hk, rfl, HI⟩ := hrel
    by_cases hlt : k < l.length
    · obtain ⟨n, hn⟩ : ∃ n, l[k]? = some n := ⟨_, List.getElem?_eq_getElem hlt⟩
      obtain rfl := HO.out (by omega)
      have hcell := HC.out k n hn
      have HN := Lib.hid hn
      clear hn
      by_cases he : x = n
      · have hB : (x == n) = true := by simpa using he
        have HE := Lib.hid he
        clear he
        go_wp2
        go_ret
        exact ⟨ret_int (by rw [← HI.out, idxFrom_drop x l k n HN.out, if_pos HE.out.symm]), rfl⟩
      · have hB : (x == n) = false := by simpa using he
        have HE := Lib.hid he
        clear he
        go_wp2
        go_round
        case rel => exact ⟨k + 1, by omega, by go_num, Lib.hid (by rw [← HI.out, idxFrom_drop x l k n HN.out, if_neg (fun e => HE.out e.symm)])⟩
        case measure => simp [intOf]; omega
    · have hk2 : k = l.length := by omega
      have HK := Lib.hid hk2
      clear hk2
      go_wp2
      go_ret
      exact ⟨ret_int (by rw [← HI.out, HK.out, List.drop_length]; rfl), rfl⟩
theorem idxFrom_range (x : Int) : ∀ (l : List Int) (i : Nat), idxFrom x i l = -1 ∨ ∃ m : Nat, m < l.length ∧ idxFrom x i l = (i + m : Nat) ∧ l[m]? = some x ∧ x ∉ l.take m
  | [], i => .inl rfl
  | n :: l, i => by
    unfold idxFrom
    by_cases h : n = x
    · rw [if_pos h]; exact .inr ⟨0, by simp, by simp, by simp [h], by simp⟩
    · rw [if_neg h]
      rcases idxFrom_range x l (i + 1) with h1 | ⟨m, h1, h2, h3, h4⟩
      · exact .inl h1
      · refine .inr ⟨m + 1, by simp; omega, by rw [h2]; congr 1; omega, by simpa using h3, ?_⟩
        simp only [List.take_succ_cons, List.mem_cons, not_or]
        exact ⟨fun e => h e.symm, h4⟩
theorem idx_range (x : Int) (l : List Int) : idx x l = -1 ∨ ∃ m : Nat, m < l.length ∧ idx x l = (m : Nat) ∧ l[m]? = some x ∧ x ∉ l.take m := by
  have := idxFrom_range x l 0
  simpa [idx] using this
end Go.Proofs.YtpnfjjgihkmjmaaGreatDoor
