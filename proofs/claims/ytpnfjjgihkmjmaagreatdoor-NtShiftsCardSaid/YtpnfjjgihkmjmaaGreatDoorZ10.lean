/-
  MERGED (a claim has at most 60 files): Kit2, PlayB, NRd.
-/
import Derived.Test.YtpnfjjgihkmjmaaGreatDoorZ07
import Derived.Test.YtpnfjjgihkmjmaaGreatDoorZ09
/-
  WHAT THE LAWS OVER A SCANNER SHARE: Run over all classes, the document's Text, a scanner made.
-/
namespace Go.Proofs.YtpnfjjgihkmjmaaGreatDoor
open Go.RowKit
set_option linter.unusedVariables false

theorem addr_add (g j : Nat) : (⟨g, 0, none⟩ : Addr).add j = ⟨g, j, none⟩ := by
  by_cases hj : j = 0
  · subst hj; simp [Addr.add]
  · simp [Addr.add, hj]
theorem Sc.mono {B B' : Nat} {w : World} {b : Nat} {v : Value} {sl : List Int} {k : Nat} (h : Sc B w b v sl k) (hB : B' ≤ B) : Sc B' w b v sl k := by
  refine ⟨h.blk, ⟨h.row.1, ?_⟩, Nat.le_trans hB h.ge⟩
  rcases h.row.2 with x | ⟨g, cap, cur, hv, hg, hh, rest⟩
  · exact .inl x
  · exact .inr ⟨g, cap, cur, hv, Nat.le_trans hB hg, hh, rest⟩
theorem Sc.below {B : Nat} {w w' : World} {b : Nat} {v : Value} {sl : List Int} {k : Nat} (h : Sc B w b v sl k) (hb : Below w.heap.size w w') : Sc B w' b v sl k := by
  refine ⟨(hb.block b (Array.getElem?_eq_some_iff.1 h.blk).1).trans h.blk, ⟨h.row.1, ?_⟩, h.ge⟩
  rcases h.row.2 with x | ⟨g, cap, cur, hv, hg, hh, rest⟩
  · exact .inl x
  · exact .inr ⟨g, cap, cur, hv, hg, (hb.block g (Array.getElem?_eq_some_iff.1 hh).1).trans hh, rest⟩
theorem TS.below {w : World} {b : Nat} {v vI : Value} {sl : List Int} {k : Nat} {W W' : World} (h : TS w b v vI sl k W) (hb : Below W.heap.size W W') : TS w b v vI sl k W' :=
  ⟨h.1.below hb, ints_below h.2.1 hb, h.2.2.trans (hb.mono h.2.2.size)⟩
theorem TS.alloc {w : World} {b : Nat} {v vI : Value} {sl : List Int} {k : Nat} {W : World} (h : TS w b v vI sl k W) (o : Obj) : TS w b v vI sl k (W.alloc o) := h.below ((Below.refl _ _).alloc (Nat.le_refl _) o)
theorem TS.drew {w : World} {b : Nat} {v vI : Value} {sl : List Int} {k : Nat} {W : World} (h : TS w b v vI sl k W) : TS w b v vI sl k W.drew := h.same ⟨rfl, rfl, rfl, rfl⟩
def six : List Int := [0, 1, 2, 3, 4, 5]
theorem cls_six (n : Int) (h : sgn n = true) : cls n ∈ six := by
  obtain ⟨h0, h1, h2⟩ := (sgn_iff n).1 h
  have : 0 ≤ cls n ∧ cls n ≤ 5 := by unfold cls; omega
  have h6 : cls n = 0 ∨ cls n = 1 ∨ cls n = 2 ∨ cls n = 3 ∨ cls n = 4 ∨ cls n = 5 := by omega
  unfold six
  rcases h6 with h | h | h | h | h | h <;> rw [h] <;> simp
theorem runN_six : ∀ l : List Int, AllS l → runN six l = l.length
  | [], _ => rfl
  | n :: l, h => by simp only [runN, if_pos (cls_six n h.head), runN_six l h.tail, List.length_cons]
abbrev sixObj : Obj := .cells #[.int .i64 0, .int .i64 1, .int .i64 2, .int .i64 3, .int .i64 4, .int .i64 5] 3 (0, 0)
section
variable {w : World} {b : Nat} {v vI : Value} {sl : List Int} {k : Nat}
theorem ts_run_at {W : World} (h : TS w b v vI sl k W) (hk : k ≤ sl.length) (hl : sl.length ≤ 4294967296) (hall : AllS sl) (g : Nat) (hg : W.heap[g]? = some sixObj) :
    Calls Tryz.prog 114 #[.pointer (some ⟨b, 0, none⟩), .slice (some ⟨g, 0, none⟩) 6 6] W fun e w' => e = .returned (.string (textOf (sl.drop k))) ∧ TS w b v vI sl sl.length w' := by
  have hgb : g ≠ b := by
    intro e
    rw [e, h.1.blk] at hg
    cases hg
  have hcs : ClsAt W g 0 six := by
    intro j x hx
    rw [Lib.cell_of_heap hg]
    unfold six at hx
    match j, hx with
    | 0, hx => simp at hx; subst hx; rfl
    | 1, hx => simp at hx; subst hx; rfl
    | 2, hx => simp at hx; subst hx; rfl
    | 3, hx => simp at hx; subst hx; rfl
    | 4, hx => simp at hx; subst hx; rfl
    | 5, hx => simp at hx; subst hx; rfl
    | j + 6, hx => simp at hx
  refine (run_any h.1 hk hl hall g 0 6 (Array.getElem?_eq_some_iff.1 hg).1 hgb hcs (by decide)).mono fun e w' ⟨h1, h2⟩ => ?_
  rw [runN_six _ (fun n hn => hall n (List.mem_of_mem_drop hn))] at h1 h2
  rw [List.take_length] at h1
  rw [List.length_drop, show k + (sl.length - k) = sl.length by omega] at h2
  exact ⟨h1, h.moves h2⟩
theorem ts_run (hk : k ≤ sl.length) (hl : sl.length ≤ 4294967296) (hall : AllS sl) (W : World) (h : TS w b v vI sl k W) :
    Calls Tryz.prog 114 #[.pointer (some ⟨b, 0, none⟩), .slice (some ⟨W.heap.size, 0, none⟩) 6 6] (W.alloc sixObj) fun e w' => e = .returned (.string (textOf (sl.drop k))) ∧ TS w b v vI sl sl.length w' :=
  ts_run_at (h.alloc _) hk hl hall W.heap.size (heap_alloc_new _ _)
theorem ts_run_drew (hk : k ≤ sl.length) (hl : sl.length ≤ 4294967296) (hall : AllS sl) (W : World) (h : TS w b v vI sl k W) :
    Calls Tryz.prog 114 #[.pointer (some ⟨b, 0, none⟩), .slice (some ⟨W.heap.size, 0, none⟩) 6 6] (W.alloc sixObj).drew fun e w' => e = .returned (.string (textOf (sl.drop k))) ∧ TS w b v vI sl sl.length w' :=
  ts_run_at (h.alloc _).drew hk hl hall W.heap.size (heap_alloc_new W sixObj)
/-- The document's Text of the signs from a place on. -/
theorem ts_text {g cap n : Nat} (hall : AllS sl) (hl : sl.length ≤ 1000000) (q : Nat) (ao : Option Addr) (c : Nat) (hao : q < sl.length → ao = some ⟨g, q, none⟩) (W : World) (h : TS w b v (.slice (some ⟨g, 0, none⟩) n cap) sl k W) :
    Calls Tryz.prog 73 #[.slice ao (sl.length - q) c] W fun e w' => e = .returned (.string (textOf (sl.drop q))) ∧ TS w b v (.slice (some ⟨g, 0, none⟩) n cap) sl k w' := by
  have hlt : g < W.heap.size := (World.ownsRow.lt h.2.1 g rfl).2
  have hcl : ∀ (j : Nat) (x : Int), (sl.drop q)[j]? = some x → W.cell? ⟨g, q + j, none⟩ = some (.int .i64 x) := by
    intro j x hx
    rw [List.getElem?_drop] at hx
    have := World.ownsRow.cells h.2.1 (g := g) rfl (q + j) (.int .i64 x) (by simp [intRow, hx])
    rw [addr_add] at this
    exact this
  have := text_any (sl.drop q) (fun n hn => hall n (List.mem_of_mem_drop hn)) (by simp; omega) ao g q c W (fun h0 => ⟨hao (by simp at h0; omega), hlt⟩) hcl
  rw [List.length_drop] at this
  exact this.mono fun e w' ⟨x, y⟩ => ⟨x, h.below y⟩
end
end Go.Proofs.YtpnfjjgihkmjmaaGreatDoor

/-
  THE SCANNER's 'Is', asked for a text of signs.
-/
namespace Go.Proofs.YtpnfjjgihkmjmaaGreatDoor
open Go.RowKit
set_option linter.unusedVariables false

/-- How far 'Is' goes. -/
def isN (tl sl : List Int) (k : Nat) : Nat := if tl.isPrefixOf (sl.drop k) then tl.length else 0
def IsPost (B : Nat) (w : World) (b : Nat) (v : Value) (sl tl : List Int) (k : Nat) (e : Ending) (w' : World) : Prop :=
  e = .returned (.bool (tl.isPrefixOf (sl.drop k))) ∧ Moves B w b v sl (k + isN tl sl k) w'
/-- a is through, b is to come: the signs from k on begin with a. -/
def II (w2 : World) (s : ByteArray) (sl tl : List Int) (k : Nat) (g : Nat) (c : Value) (wr : World) : Prop :=
  ∃ a b p, tl = a ++ b ∧ b.length = g ∧ p = k + a.length ∧ c = .int .i64 (p : Nat) ∧ sl.drop k = a ++ sl.drop p ∧ p ≤ sl.length ∧ wr.heap[w2.heap.size]? = some (.stringIter s (encL a).length) ∧ Below w2.heap.size w2 wr
theorem below_grow {w w' : World} (h : Below w.heap.size w w') (row : Option Nat) : w.grownBy w' row := ⟨h.os, h.tape, h.output, h.size, fun k hk _ => h.block k hk⟩
theorem pre_app (a b r : List Int) : (a ++ b).isPrefixOf (a ++ r) = b.isPrefixOf r := by
  induction a with
  | nil => rfl
  | cons x a ih => simp [ih]
set_option maxHeartbeats 4000000 in
set_option maxRecDepth 100000 in
theorem is_any {B : Nat} {w : World} {b : Nat} {v : Value} {sl : List Int} {k : Nat} (h : Sc B w b v sl k) (hk : k ≤ sl.length) (hl : sl.length ≤ 4294967296)
    (s : ByteArray) (tl : List Int) (hp : Parts s.data.toList tl []) (hsz : s.size ≤ 4294967296) :
    Calls Tryz.prog 68 #[.pointer (some ⟨b, 0, none⟩), .string s] w (IsPost B w b v sl tl k) := by
  have hg := good_any s tl [] hp hsz
  have HS := Lib.hid h
  have HP := Lib.hid hp
  clear h hp
  go_enter Tryz.func68, Tryz.ntmps68
  go_wp2_with (go_at_call 90; (with_reducible refine (hg _).mono ?_); rintro e w2 ⟨rfl, hb2⟩; have hs2 := HS.out.below hb2; have c1 := hs2.c1)
  have HS2 := Lib.hid hs2
  clear hs2 hg
  go_loopg [5] tl.length (fun g c wr => II w2 s sl tl k g c wr)
  case atStart => exact ⟨[], tl, k, rfl, rfl, rfl, rfl, rfl, hk, World.iter_heap _ _ _, (Below.refl _ _).alloc (Nat.le_refl _) _⟩
  case round =>
    clear c1
    obtain ⟨a, bb, p, hab, hbl, hpk, rfl, hdr, hps, hit, hbw⟩ := hrel
    have hdat : s.data.toList = encL a ++ encL bb := by rw [HP.out.eq, List.append_nil, hab, encL_append]
    have HAB := Lib.hid hab
    have HBL := Lib.hid hbl
    have HDR := Lib.hid hdr
    have HPK := Lib.hid hpk
    have hsr := HS2.out.below hbw
    cases gk with
    | zero =>
      obtain rfl : bb = [] := List.length_eq_zero_iff.1 hbl
      have hnx : ∀ ty, (Instr.next (.pointer (some ⟨w2.heap.size, 0, none⟩)) true ty).run Tryz.prog wr = _ := fun ty => next_done wr w2.heap.size s a (by rw [hdat]; simp [encL]) hit ty
      have hta : tl = a := by rw [hab, List.append_nil]
      have hpre : tl.isPrefixOf (sl.drop k) = true := by rw [hdr, hta]; have := pre_app a [] (sl.drop p); rw [List.append_nil] at this; rw [this]; rfl
      have hfin : IsPost B w b v sl tl k (.returned (.bool true)) (wr.setCell ⟨b, 1, none⟩ (.int .i64 p)) := by
        refine ⟨by rw [hpre], ?_⟩
        have : k + isN tl sl k = p := by unfold isN; rw [hpre, if_pos rfl, hta, hpk]
        rw [this]
        exact ⟨hsr.place p, grown_trans (below_grow hb2 _) (grown_trans (below_grow hbw _) (grown_set wr b 1 _))⟩
      have HF := Lib.hid hfin
      have c1 := hsr.c1
      have f1 := hsr.f1
      clear hfin hab hbl hdat hit hdr hpk hsr hpre hta
      go_wp2
      (try rw [Exit.noGoto_ret])
      go_ret
      exact HF.out
    | succ g =>
      obtain ⟨n, b', rfl⟩ : ∃ n b', bb = n :: b' := by
        match bb, hbl with
        | n :: b', _ => exact ⟨n, b', rfl⟩
      have hn : sgn n = true := HP.out.all n (by rw [hab]; simp)
      have hnx : ∀ ty, (Instr.next (.pointer (some ⟨w2.heap.size, 0, none⟩)) true ty).run Tryz.prog wr = _ := fun ty => next_sign wr w2.heap.size s a n (encL b') (by rw [hdat, encL_cons]) hn hit ty
      obtain ⟨W, hW⟩ : ∃ W, W = wr.iterAt w2.heap.size s (encL (a ++ [n])).length := ⟨_, rfl⟩
      rw [← hW] at hnx
      have hitW : W.heap[w2.heap.size]? = some (.stringIter s (encL (a ++ [n])).length) := by rw [hW]; exact Lib.iterAt_heap _ _ _ _ _ hit
      have hbW : Below w2.heap.size w2 W := by rw [hW]; exact Lib.below_iterAt hbw (by omega) _ _
      have hsW := HS2.out.below hbW
      have HSW := Lib.hid hsW
      have HIT := Lib.hid hitW
      have HBW := Lib.hid hbW
      have hno : tl.isPrefixOf (sl.drop k) = false → IsPost B w b v sl tl k (.returned (.bool false)) W := by
        intro hpre
        refine ⟨by rw [hpre], ?_⟩
        have : k + isN tl sl k = k := by unfold isN; rw [hpre]; rfl
        rw [this]
        exact ⟨hsW, grown_trans (below_grow hb2 _) (below_grow hbW _)⟩
      have HNO := Lib.hid hno
      have c0 := hsW.c0
      by_cases he : p = sl.length
      · have hB : ((p : Int) == (sl.length : Int)) = true := by simp [he]
        have hpre : tl.isPrefixOf (sl.drop k) = false := by
          rw [hdr, hab, pre_app, he, List.drop_length]; rfl
        have HF := Lib.hid (HNO.out hpre)
        obtain ⟨ao, cap, rfl⟩ := hsW.shape
        clear hab hbl hdat hit hdr hpk hsr hpre hno hW hsW hitW hbW hn he
        go_wp2
        (try rw [Exit.noGoto_ret])
        go_ret
        exact HF.out
      · have hB : ((p : Int) == (sl.length : Int)) = false := by simp; omega
        have hlt : p < sl.length := by omega
        obtain ⟨m, hm⟩ : ∃ m, sl[p]? = some m := ⟨_, List.getElem?_eq_getElem hlt⟩
        obtain ⟨g', cap, rfl, hcap⟩ := hsW.shape1 (by omega)
        have cc := hsW.cell p m hm
        have HM := Lib.hid hm
        have k1 : (0 : Int) ≤ (p : Int) := by omega
        have k2 : (p : Int) < (sl.length : Int) := by omega
        by_cases hmn : m = n
        · have hB2 : (m == n) = true := by simpa using hmn
          have hfin : II w2 s sl tl k g (.int .i64 ((p : Int) + 1)) W := by
            refine ⟨a ++ [n], b', p + 1, by rw [hab]; simp, by simpa using hbl, by rw [hpk]; simp; omega, by go_num, ?_, by omega, hitW, hbW⟩
            rw [hdr, drop_cons sl p m hm, hmn]; simp
          have HF := Lib.hid hfin
          clear hab hbl hdat hit hdr hpk hsr hno hW hsW hitW hbW hn he hm hmn hfin
          go_wp2
          go_roundg g
          case measure => omega
          case rel => exact HF.out
        · have hB2 : (m == n) = false := by simpa using hmn
          have hpre : tl.isPrefixOf (sl.drop k) = false := by
            rw [hdr, hab, pre_app, drop_cons sl p m hm]
            simp [List.isPrefixOf, Ne.symm hmn]
          have HF := Lib.hid (HNO.out hpre)
          clear hab hbl hdat hit hdr hpk hsr hpre hno hW hsW hitW hbW hn he hm hmn
          go_wp2
          (try rw [Exit.noGoto_ret])
          go_ret
          exact HF.out
end Go.Proofs.YtpnfjjgihkmjmaaGreatDoor

/-
  READING A SIGN'S NUMBER, an escape, an IRI (package nt): all ways.
-/
namespace Go.Proofs.YtpnfjjgihkmjmaaGreatDoor
open Go.RowKit
set_option linter.unusedVariables false

theorem parts_one (c : Int) (h0 : 0 ≤ c) (h1 : c ≤ 127) : Parts (⟨#[c.toNat.toUInt8]⟩ : ByteArray).data.toList [c] [] := by
  refine ⟨?_, fun n hn => ?_, .inl rfl⟩
  · rw [List.append_nil, encL_cons, encL_nil, List.append_nil]
    unfold Lib.encodeRune
    rw [Lib.encodeRuneZ_one h0 h1]
    rfl
  · simp at hn
    subst hn
    rw [sgn_iff]; omega
set_option maxHeartbeats 4000000 in
set_option maxRecDepth 100000 in
theorem nnumber_any {B : Nat} {w : World} {b : Nat} {v : Value} {sl : List Int} {k : Nat} (h : Sc B w b v sl k) (hk : k ≤ sl.length) (hl : sl.length ≤ 4294967296) (m : Nat) (hm0 : 0 < m) (hm : m ≤ 8) :
    Calls Tryz.prog 123 #[.pointer (some ⟨b, 0, none⟩), .int .i64 m] w (RdPost B w b v sl (rd m 0 (sl.drop k) k)) := by
  have HS := Lib.hid h
  clear h
  go_enter Tryz.func123, Tryz.ntmps123
  go_wp2
  go_loopg [6, 9] m (fun g s6 s9 wr => NumA B w b v sl m k g s6 s9 wr)
  case atStart => exact ⟨0, 0, by omega, by omega, by omega, by omega, rfl, rfl, rfl, HS.out, same_grown (Same.refl _) _⟩
  case round =>
    obtain ⟨i, S, hig, hki, hS0, hS1, rfl, rfl, hrd, hM⟩ := hrel
    have HRD := Lib.hid hrd
    have HM := Lib.hid hM
    obtain ⟨R, hR⟩ : ∃ R, R = w32 S := ⟨_, rfl⟩
    have HR := Lib.hid hR
    cases gk with
    | zero =>
      have him : i = m := by omega
      have hge : ¬ ((i : Int) < (m : Int)) := by omega
      have c1 := hM.1.c1
      have f1 := hM.1.f1
      have hS2 : S < 4294967296 := by
        have : (16 : Int) ^ i ≤ 16 ^ 8 := by
          have := Nat.pow_le_pow_right (show 0 < 16 by decide) (show i ≤ 8 by omega)
          exact_mod_cast this
        omega
      have hcl : cls R = 6 ↔ ¬ sgn S = true := by
        rw [sgn_iff, hR]; unfold cls w32; split <;> omega
      rw [← hR]
      by_cases hs : sgn S = true
      · have hnot : (cls R == 6) = false := by
          have : cls R ≠ 6 := fun x => (hcl.1 x) hs
          simpa using this
        have hRS : R = S := by
          have := (sgn_iff _).1 hs
          rw [hR]; unfold w32; rw [if_pos (by omega)]
        have hfin : RdPost B w b v sl (rd m 0 (sl.drop k) k) (.returned (.tuple #[.int .i32 R, .bool true])) wr := by
          rw [hrd, rd_zero, if_pos hs]; exact ⟨by rw [hRS]; rfl, hM⟩
        have HF := Lib.hid hfin
        clear hM hrd hR hcl hs hRS hfin hS0 hS1 hS2
        go_wp2_with (go_at_call 116; (with_reducible refine (class_any R _).mono ?_); rintro e w' ⟨rfl, rfl⟩)
        go_ret2
        exact HF.out
      · have hyes : (cls R == 6) = true := by simpa using hcl.2 hs
        have hPl : ∀ W, Same wr W → Calls Tryz.prog 38 #[.pointer (some ⟨b, 0, none⟩)] W fun e w' => e = .returned (.int .i64 ((k : Int) + (i : Int))) ∧ Same wr w' := fun W s => (place_any (s.sc hM.1)).mono fun _ _ ⟨x, y⟩ => ⟨by rw [x, Int.natCast_add], s.trans y⟩
        have hBk : ∀ W, Same wr W → Calls Tryz.prog 92 #[.pointer (some ⟨b, 0, none⟩), .int .i64 ((k : Int) + (i : Int) - 1)] W fun e w' => e = .returned (.bool true) ∧ Sc B w' b v sl (k + i - 1) ∧ wr.grownBy w' (some b) := fun W s => by
          have := back_yes (s.sc hM.1) (k + i - 1) (by omega) hl
          rw [show ((k + i - 1 : Nat) : Int) = (k : Int) + (i : Int) - 1 by omega] at this
          exact this.mono fun _ _ ⟨x, y, z⟩ => ⟨x, y, grown_trans (same_grown s _) z⟩
        have hfin : ∀ w3, Sc B w3 b v sl (k + i - 1) ∧ wr.grownBy w3 (some b) → RdPost B w b v sl (rd m 0 (sl.drop k) k) (.returned (.tuple #[.int .i32 0, .bool false])) w3 := fun w3 h3 => by
          rw [hrd, rd_zero, if_neg hs]
          exact ⟨rfl, h3.1, grown_trans hM.2 h3.2⟩
        have HF := Lib.hid hfin
        have hs0 : Same wr wr := Same.refl wr
        clear hM hrd hR hcl hs hfin hS0 hS1 hS2 him c1 f1
        go_wp2_with (first
          | (go_at_call 116; (with_reducible refine (class_any R _).mono ?_); rintro e w' ⟨rfl, rfl⟩)
          | (go_at_call 38; (with_reducible refine (hPl _ (by assumption)).mono ?_); rintro e w3 ⟨rfl, hs3⟩)
          | (go_at_call 92; (with_reducible refine (hBk _ (by assumption)).mono ?_); rintro e w4 ⟨rfl, hs4⟩))
        go_ret2
        exact HF.out _ hs4
    | succ g =>
      have hi2 : (i : Int) < (m : Int) := by omega
      have hS2 : S < 268435456 := by
        have : (16 : Int) ^ i ≤ 16 ^ 7 := by
          have := Nat.pow_le_pow_right (show 0 < 16 by decide) (show i ≤ 7 by omega)
          exact_mod_cast this
        omega
      have hRS : R = S := by rw [hR]; unfold w32; rw [if_pos (by omega)]
      rw [← hR]
      by_cases he : k + i = sl.length
      · have hP := peek_end hM.1 he hl
        have hH : ∀ W, Calls Tryz.prog 129 #[.int .i32 (-1)] W fun e w' => e = .returned (.int .i64 (-1)) ∧ W = w' := fun W => hex_any (-1) W
        have hfin : ∀ w3, Same wr w3 → RdPost B w b v sl (rd m 0 (sl.drop k) k) (.returned (.tuple #[.int .i32 0, .bool false])) w3 := fun w3 s3 => by
          rw [hrd, he, List.drop_length, rd_end, ← he]; exact ⟨rfl, s3.sc hM.1, grown_trans hM.2 (same_grown s3 _)⟩
        have HF := Lib.hid hfin
        clear hM hrd hR hfin hS0 hS1 hS2 hRS he
        go_wp2_with (first
          | (go_at_call 66; (with_reducible refine hP.mono ?_); rintro e w3 ⟨rfl, hs3⟩)
          | (go_at_call 129; (with_reducible refine (hH _).mono ?_); rintro e w' ⟨rfl, rfl⟩))
        go_ret2
        exact HF.out _ hs3
      · have hx0 : k + i < sl.length := by omega
        obtain ⟨d, hx⟩ : ∃ d, sl[k + i]? = some d := ⟨_, List.getElem?_eq_getElem hx0⟩
        have hP := peek_sign hM.1 hx hl
        have hdr := drop_cons sl (k + i) d hx
        obtain ⟨D, hD⟩ : ∃ D, D = hexv d := ⟨_, rfl⟩
        have hh1 : D ≤ 15 := by rw [hD]; unfold hexv; omega
        have hHx : ∀ W, Calls Tryz.prog 129 #[.int .i32 d] W fun e w' => e = .returned (.int .i64 D) ∧ W = w' := fun W => by have := hex_any d W; rwa [← hD] at this
        by_cases hneg : D < 0
        · have hfin : ∀ w3, Same wr w3 → RdPost B w b v sl (rd m 0 (sl.drop k) k) (.returned (.tuple #[.int .i32 0, .bool false])) w3 := fun w3 s3 => by
            rw [hrd, hdr, rd_cons, if_pos (by omega)]; exact ⟨rfl, s3.sc hM.1, grown_trans hM.2 (same_grown s3 _)⟩
          have HF := Lib.hid hfin
          clear hM hrd hR hfin hS0 hS1 hS2 hRS he hdr hx hD
          go_wp2_with (first
            | (go_at_call 66; (with_reducible refine hP.mono ?_); rintro e w3 ⟨rfl, hs3⟩)
            | (go_at_call 129; (with_reducible refine (hHx _).mono ?_); rintro e w' ⟨rfl, rfl⟩))
          go_ret2
          exact HF.out _ hs3
        · have hD0 : 0 ≤ D := by omega
          have hstep : ∀ w3, Sc B w3 b v sl (k + i + 1) ∧ wr.grownBy w3 (some b) → NumA B w b v sl m k g (.int .i32 (w32 (S * 16 + D))) (.int .i64 ((i : Int) + 1)) w3 := fun w3 h3 => by
            refine ⟨i + 1, S * 16 + D, by omega, by omega, by omega, ?_, rfl, by rfl, ?_, ?_, grown_trans hM.2 h3.2⟩
            · rw [Int.pow_succ]; omega
            · rw [hrd, hdr, rd_cons, if_neg (by omega), ← hD, Nat.add_assoc]
            · exact h3.1
          have hNx : ∀ W, Same wr W → Calls Tryz.prog 67 #[.pointer (some ⟨b, 0, none⟩)] W fun e w' => e = .returned (.int .i32 d) ∧ Sc B w' b v sl (k + i + 1) ∧ wr.grownBy w' (some b) := fun W s => (next_sign' (s.sc hM.1) hx hl).mono fun _ _ ⟨x, y, z⟩ => ⟨x, y, grown_trans (same_grown s _) z⟩
          have HST := Lib.hid hstep
          rw [hRS]
          by_cases hbig : S * 16 + D < 2147483648
          · have hor : bits .or .i32 (S * 16) D = S * 16 + D := bits_join .i32 31 (by decide) wraps_i32 4 (S * 16) D (by omega) (by omega) (by omega) (by omega) (by omega) (by omega)
            have hw : w32 (S * 16 + D) = S * 16 + D := by unfold w32; rw [if_pos hbig]
            rw [hw] at HST
            clear hM hrd hR hRS he hdr hx hD hstep hw hS1
            go_wp2_with (first
              | (go_at_call 66; (with_reducible refine hP.mono ?_); rintro e w3 ⟨rfl, hs3⟩)
              | (go_at_call 129; (with_reducible refine (hHx _).mono ?_); rintro e w' ⟨rfl, rfl⟩)
              | (go_at_call 67; (with_reducible refine (hNx _ (by assumption)).mono ?_); rintro e w4 ⟨rfl, hs4⟩))
            have HF := Lib.hid (HST.out _ hs4)
            go_roundg g
            case measure => omega
            case rel => exact HF.out
          · have hor : bits .or .i32 (S * 16 - 4294967296) D = S * 16 - 4294967296 + D := bits_high (S * 16) D (by omega) (by omega) (by omega) (by omega) (by omega)
            have hw : w32 (S * 16 + D) = S * 16 - 4294967296 + D := by unfold w32; rw [if_neg hbig]; omega
            rw [hw] at HST
            have hshift : IntKind.i32.wrap (S * 16) = S * 16 - 4294967296 := by rw [IntKind.wrap_i32]; omega
            clear hM hrd hR hRS he hdr hx hD hstep hw hS1
            go_wp2_with (first
              | (go_at_call 66; (with_reducible refine hP.mono ?_); rintro e w3 ⟨rfl, hs3⟩)
              | (go_at_call 129; (with_reducible refine (hHx _).mono ?_); rintro e w' ⟨rfl, rfl⟩)
              | (go_at_call 67; (with_reducible refine (hNx _ (by assumption)).mono ?_); rintro e w4 ⟨rfl, hs4⟩))
            have HF := Lib.hid (HST.out _ hs4)
            go_roundg g
            case measure => omega
            case rel => exact HF.out
theorem p9 : Parts (⟨#[9]⟩ : ByteArray).data.toList [9] [] := parts_one 9 (by decide) (by decide)
theorem p10 : Parts (⟨#[10]⟩ : ByteArray).data.toList [10] [] := parts_one 10 (by decide) (by decide)
theorem p32 : Parts (⟨#[32]⟩ : ByteArray).data.toList [32] [] := parts_one 32 (by decide) (by decide)
theorem p46 : Parts (⟨#[46]⟩ : ByteArray).data.toList [46] [] := parts_one 46 (by decide) (by decide)
theorem p58 : Parts (⟨#[58]⟩ : ByteArray).data.toList [58] [] := parts_one 58 (by decide) (by decide)
theorem p60 : Parts (⟨#[60]⟩ : ByteArray).data.toList [60] [] := parts_one 60 (by decide) (by decide)
theorem p64 : Parts (⟨#[64]⟩ : ByteArray).data.toList [64] [] := parts_one 64 (by decide) (by decide)
theorem p85 : Parts (⟨#[85]⟩ : ByteArray).data.toList [85] [] := parts_one 85 (by decide) (by decide)
theorem p117 : Parts (⟨#[117]⟩ : ByteArray).data.toList [117] [] := parts_one 117 (by decide) (by decide)
/-- What stands behind an IRI's backslash. -/
def nef (sl : List Int) (p : Nat) : Nat × Option Int :=
  if sl[p]? = some 117 then rd 4 0 (sl.drop (p + 1)) (p + 1) else if sl[p]? = some 85 then rd 8 0 (sl.drop (p + 1)) (p + 1) else (p, none)
theorem pre_one (c : Int) (sl : List Int) (p : Nat) : [c].isPrefixOf (sl.drop p) = decide (sl[p]? = some c) := by
  cases hx : sl[p]? with
  | none => rw [List.drop_eq_nil_of_le (List.getElem?_eq_none_iff.1 hx)]; rfl
  | some d =>
    rw [drop_cons sl p d hx, Bool.eq_iff_iff]
    show ((c == d) && true) = true ↔ _
    rw [Bool.and_true, beq_iff_eq, decide_eq_true_eq, Option.some.injEq]
    exact eq_comm
/-- 'Is', asked for one sign. -/
theorem is_one {B : Nat} {w : World} {b : Nat} {v : Value} {sl : List Int} {k : Nat} (h : Sc B w b v sl k) (hk : k ≤ sl.length) (hl : sl.length ≤ 4294967296) (c : Int) (s : ByteArray) (hp : Parts s.data.toList [c] []) (hsz : s.size ≤ 4294967296) :
    Calls Tryz.prog 68 #[.pointer (some ⟨b, 0, none⟩), .string s] w fun e w' => e = .returned (.bool (decide (sl[k]? = some c))) ∧ Moves B w b v sl (k + if sl[k]? = some c then 1 else 0) w' :=
  (is_any h hk hl s [c] hp hsz).mono fun e w' ⟨x, y⟩ => by
    unfold isN at y
    rw [pre_one] at x y
    refine ⟨x, ?_⟩
    by_cases hc : sl[k]? = some c
    · rw [if_pos hc]; rw [decide_eq_true hc, if_pos rfl] at y; exact y
    · rw [if_neg hc]; rw [decide_eq_false hc, if_neg (by decide)] at y; exact y
set_option maxHeartbeats 4000000 in
set_option maxRecDepth 100000 in
theorem nescape_any {B : Nat} {w : World} {b : Nat} {v : Value} {sl : List Int} {k : Nat} (h : Sc B w b v sl k) (hk : k ≤ sl.length) (hl : sl.length ≤ 4294967296) :
    Calls Tryz.prog 111 #[.pointer (some ⟨b, 0, none⟩)] w (RdPost B w b v sl (nef sl k)) := by
  have hu : Parts (⟨#[117]⟩ : ByteArray).data.toList [117] [] := parts_one 117 (by decide) (by decide)
  have hU : Parts (⟨#[85]⟩ : ByteArray).data.toList [85] [] := parts_one 85 (by decide) (by decide)
  obtain ⟨r, hr⟩ : ∃ r, r = nef sl k := ⟨_, rfl⟩
  rw [← hr]
  unfold nef at hr
  have c1 := is_one h hk hl 117 _ hu (by decide)
  by_cases h1 : sl[k]? = some 117
  · rw [if_pos h1] at hr
    have hki : k < sl.length := (List.getElem?_eq_some_iff.1 h1).1
    rw [if_pos h1, decide_eq_true h1] at c1
    have hN : ∀ W, Sc B W b v sl (k + 1) → Calls Tryz.prog 123 #[.pointer (some ⟨b, 0, none⟩), .int .i64 4] W (RdPost B W b v sl r) := fun W s => by
      rw [hr]; exact nnumber_any s (by omega) hl 4 (by omega) (by omega)
    clear h h1 hr hu hU
    go_enter Tryz.func111, Tryz.ntmps111
    go_wp2_with (first
      | (go_at_call 68; (with_reducible refine c1.mono ?_); rintro e w3 ⟨rfl, h3, g3⟩)
      | (go_at_call 123; (with_reducible refine (hN _ (by assumption)).mono ?_); rintro e w4 ⟨rfl, hM4⟩))
    go_ret2
    exact ⟨rfl, hM4.1, grown_trans g3 hM4.2⟩
  · rw [if_neg h1] at hr
    rw [if_neg h1, decide_eq_false h1, Nat.add_zero] at c1
    have c2 : ∀ W, Sc B W b v sl k → _ := fun W s => is_one s hk hl 85 _ hU (by decide)
    by_cases h2 : sl[k]? = some 85
    · rw [if_pos h2] at hr
      have hki : k < sl.length := (List.getElem?_eq_some_iff.1 h2).1
      rw [if_pos h2, decide_eq_true h2] at c2
      have hN : ∀ W, Sc B W b v sl (k + 1) → Calls Tryz.prog 123 #[.pointer (some ⟨b, 0, none⟩), .int .i64 8] W (RdPost B W b v sl r) := fun W s => by
        rw [hr]; exact nnumber_any s (by omega) hl 8 (by omega) (by omega)
      clear h h1 h2 hr hu hU
      go_enter Tryz.func111, Tryz.ntmps111
      go_wp2_with (first
        | (go_at_call 68; (with_reducible refine c1.mono ?_); rintro e w3 ⟨rfl, h3, g3⟩)
        | (go_at_call 68; (with_reducible refine (c2 _ (by assumption)).mono ?_); rintro e w5 ⟨rfl, h5, g5⟩)
        | (go_at_call 123; (with_reducible refine (hN _ (by assumption)).mono ?_); rintro e w4 ⟨rfl, hM4⟩))
      go_ret2
      exact ⟨rfl, hM4.1, grown_trans g3 (grown_trans g5 hM4.2)⟩
    · rw [if_neg h2] at hr
      rw [if_neg h2, decide_eq_false h2, Nat.add_zero] at c2
      have HR := Lib.hid hr
      clear h h1 h2 hr hu hU
      go_enter Tryz.func111, Tryz.ntmps111
      go_wp2_with (first
        | (go_at_call 68; (with_reducible refine c1.mono ?_); rintro e w3 ⟨rfl, h3, g3⟩)
        | (go_at_call 68; (with_reducible refine (c2 _ (by assumption)).mono ?_); rintro e w5 ⟨rfl, h5, g5⟩))
      go_ret2
      rw [HR.out]
      exact ⟨rfl, h5, grown_trans g3 g5⟩
end Go.Proofs.YtpnfjjgihkmjmaaGreatDoor
