/-
  MERGED (a claim has at most 60 files): ReadG, Text.
-/
import Derived.Test.YtpnfjjgihkmjmaaGreatDoorZ08
import Derived.Test.YtpnfjjgihkmjmaaGreatDoorZ05
import Derived.Laws.IdiomStrings
import Derived.Laws.BytesString
/-
  'Quoted': all ways.
-/
namespace Go.Proofs.YtpnfjjgihkmjmaaGreatDoor
open Go.RowKit
set_option linter.unusedVariables false

/-- What stands quoted at place k. -/
def qd (sl : List Int) (k : Nat) : Nat × Option (List Int) := if sl[k]? = some 34 then qf sl (sl.length - (k + 1)) (k + 1) [] else (k, none)
set_option maxHeartbeats 4000000 in
theorem readq_none {B : Nat} {w : World} {b : Nat} {v : Value} {sl : List Int} {k : Nat} {c : Int} (h : Sc B w b v sl k)
    (hP : Calls Tryz.prog 66 #[.pointer (some ⟨b, 0, none⟩)] w fun e w' => e = .returned (.int .i32 c) ∧ Same w w') (hc : c ≠ 34) :
    Calls Tryz.prog 125 #[.pointer (some ⟨b, 0, none⟩)] w (QPost B w b v sl (k, none)) := by
  have hB : (c == 34) = false := by simpa using hc
  have HS := Lib.hid h
  clear h hc
  go_enter Tryz.func125, Tryz.ntmps125
  go_wp2_with (go_at_call 66; (with_reducible refine hP.mono ?_); rintro e w3 ⟨rfl, hs3⟩)
  go_ret2
  exact ⟨by rw [show ((k, (none : Option (List Int))).2.getD []) = [] from rfl, text_nil]; rfl, hs3.sc HS.out, same_grown hs3 _⟩
theorem readq_all {B : Nat} {w : World} {b : Nat} {v : Value} {sl : List Int} {k : Nat} (h : Sc B w b v sl k) (hk : k ≤ sl.length) (hl : sl.length ≤ 100000) (hall : AllS sl)
    (t : TypeId) (fr : Nat × Nat) (htab : w.heap[0]? = some (.cells escCells t fr)) :
    Calls Tryz.prog 125 #[.pointer (some ⟨b, 0, none⟩)] w (QPost B w b v sl (qd sl k)) := by
  unfold qd
  by_cases hx : sl[k]? = some 34
  · rw [if_pos hx]; exact readq_any h hl hall hx t fr htab
  · rw [if_neg hx]
    cases hy : sl[k]? with
    | none =>
      have hke : k = sl.length := by have := List.getElem?_eq_none_iff.1 hy; omega
      exact readq_none h (peek_end h hke (by omega)) (by decide)
    | some c => exact readq_none h (peek_sign h hy (by omega)) (fun e => hx (by rw [hy, e]))
def QdPost (B : Nat) (w : World) (b : Nat) (v : Value) (sl : List Int) (k : Nat) (r : Nat × Option (List Int)) (e : Ending) (w' : World) : Prop :=
  match r.2 with
  | some l => e = .returned (.tuple #[.string (textOf l), .int .i64 r.1, .int .i64 0]) ∧ Moves B w b v sl r.1 w'
  | none => e = .returned (.tuple #[.string ⟨#[]⟩, .int .i64 r.1, .int .i64 1]) ∧ Moves B w b v sl k w'
set_option maxHeartbeats 4000000 in
set_option maxRecDepth 100000 in
theorem quoted_any {B : Nat} {w : World} {b : Nat} {v : Value} {sl : List Int} {k : Nat} (h : Sc B w b v sl k) (hk : k ≤ sl.length) (hl : sl.length ≤ 100000) (hall : AllS sl)
    (t : TypeId) (fr : Nat × Nat) (htab : w.heap[0]? = some (.cells escCells t fr)) :
    Calls Tryz.prog 113 #[.pointer (some ⟨b, 0, none⟩)] w (QdPost B w b v sl k (qd sl k)) := by
  have hR := readq_all h hk hl hall t fr htab
  have c1 := h.c1
  obtain ⟨p, o, hr⟩ : ∃ p o, qd sl k = (p, o) := ⟨_, _, rfl⟩
  rw [hr] at hR ⊢
  clear h hall htab hr
  cases o with
  | some l =>
    go_enter Tryz.func113, Tryz.ntmps113
    go_wp2_with (go_at_call 125; (with_reducible refine hR.mono ?_); rintro e w2 ⟨rfl, hM⟩; have c12 := hM.1.c1)
    have HM := Lib.hid hM
    clear hM hR c1
    go_quiet (fail)
    go_wp2
    go_ret3
    refine ⟨rfl, Same.sc HM.out.1 ⟨rfl, rfl, rfl, rfl⟩, grown_trans HM.out.2 ?_⟩
    exact same_grown (same_drewN _ _) _
  | none =>
    go_enter Tryz.func113, Tryz.ntmps113
    go_wp2_with (go_at_call 125; (with_reducible refine hR.mono ?_); rintro e w2 ⟨rfl, hM⟩; have c12 := hM.1.c1; have f12 := hM.1.f1)
    have HM := Lib.hid hM
    clear hM hR c1
    go_ret3
    exact ⟨rfl, by exact HM.out.1.place k, grown_trans HM.out.2 (grown_set w2 b 1 _)⟩
end Go.Proofs.YtpnfjjgihkmjmaaGreatDoor

/-
  THE DOCUMENT's 'Text': the bytes of signs, one behind the other, are the text.
-/
namespace Go.Proofs.YtpnfjjgihkmjmaaGreatDoor
open Go.RowKit
set_option linter.unusedVariables false

def U8s (B : Nat) (w : World) (v : Value) (l : List UInt8) : Prop := w.ownsRow B 5 1 v l.length (Lib.byteCells l)
theorem u8s_shape {B : Nat} {w : World} {v : Value} {l : List UInt8} (h : U8s B w v l) : ∃ ao cap, v = .slice ao l.length cap := by
  rcases h.2 with ⟨hv, hl⟩ | ⟨g, cap, cur, hv, _⟩
  · exact ⟨none, 0, by rw [hv, hl]⟩
  · exact ⟨_, cap, hv⟩
theorem bytes_text {B : Nat} {w : World} {v : Value} {l : List UInt8} (h : U8s B w v l) : (convert 92 9 v).run Tryz.prog w = .ok (.string ⟨l.toArray⟩) w := by
  rcases h.2 with ⟨rfl, hl⟩ | ⟨g, cap, cur, rfl, _⟩
  · obtain rfl : l = [] := List.length_eq_zero_iff.1 hl
    rw [run_convert_bytes_string w 92 9 5 _ _ _ Tryz.underlying92 Tryz.underlying5 Tryz.underlying9]
    rfl
  · refine run_convert_bytes_back w 92 9 5 ⟨g, 0, none⟩ cap l Tryz.underlying92 Tryz.underlying5 Tryz.underlying9 ?_
    intro j hj
    exact World.ownsRow.cells h (g := g) rfl j _ (by simp [Lib.byteCells, List.getElem?_eq_getElem hj])
def XIt (B : Nat) (w : World) (l : List Int) (g : Nat) (v i : Value) (wr : World) : Prop :=
  ∃ a b, l = a ++ b ∧ b.length = g ∧ i = .int .i64 a.length ∧ U8s B wr v (encL a) ∧ Below B w wr

set_option maxHeartbeats 4000000 in
set_option maxRecDepth 100000 in
theorem text_any (l : List Int) (hall : AllS l) (hl : l.length ≤ 1000000) (ao : Option Addr) (gc oc cap : Nat) (w : World) (hao : 0 < l.length → ao = some ⟨gc, oc, none⟩ ∧ gc < w.heap.size)
    (hc : ∀ (j : Nat) (x : Int), l[j]? = some x → w.cell? ⟨gc, oc + j, none⟩ = some (.int .i64 x)) :
    Calls Tryz.prog 73 #[.slice ao l.length cap] w fun e w' => e = .returned (.string (textOf l)) ∧ Below w.heap.size w w' := by
  have HC := Lib.hid hc
  have HA := Lib.hid hall
  have HO := Lib.hid hao
  obtain ⟨i0, hi, hz0, hz1, hz2⟩ := info_parts byteInfo
  clear hc hall hao
  go_enter Tryz.func73, Tryz.ntmps73
  go_wp2
  go_loopg [3, 7] l.length (fun g v i wr => XIt w.heap.size w l g v i wr)
  case atStart => exact ⟨[], l, rfl, rfl, rfl, World.ownsRow_nil _ _ _ _, Below.refl _ _⟩
  case round =>
    obtain ⟨a, b, hab, hbl, rfl, hU, hbw⟩ := hrel
    obtain ⟨av, cv, rfl⟩ := u8s_shape hU
    have hla : a.length + b.length = l.length := by rw [hab]; simp
    have hen := (encL_len a).2
    have HAB := Lib.hid hab
    have hbs := hbw.size
    cases gk with
    | zero =>
      obtain rfl : b = [] := List.length_eq_zero_iff.1 hbl
      have hal : a.length = l.length := by simp at hla; omega
      have hge : ¬ ((a.length : Int) < (l.length : Int)) := by omega
      have hcv := bytes_text hU
      have hres : (⟨(encL a).toArray⟩ : ByteArray) = textOf l := by rw [hab, List.append_nil]; rfl
      rw [hres] at hcv
      clear hab hbl hla hal hU hres
      go_wp2
      go_ret
      exact ⟨rfl, hbw⟩
    | succ g =>
      obtain ⟨n, b', rfl⟩ : ∃ n b', b = n :: b' := by
        match b, hbl with
        | n :: b', _ => exact ⟨n, b', rfl⟩
      have hlt : (a.length : Int) < (l.length : Int) := by simp at hla; omega
      have hn : l[a.length]? = some n := by rw [hab]; simp
      obtain ⟨rfl, hgc⟩ := HO.out (by simp at hla; omega)
      have hcell : wr.cell? ⟨gc, oc + a.length, none⟩ = some (.int .i64 n) := (hbw.cell (p := ⟨gc, oc + a.length, none⟩) hgc).trans (HC.out _ _ hn)
      have hsg := HA.out n (List.mem_of_getElem? hn)
      have hB := bytes_any n hsg wr
      have hk := enc_len n
      have HBL := Lib.hid hbl
      have HU := Lib.hid hU
      clear hab hbl hla hn hsg
      go_wp2_with (first
        | (go_at_call 78; (with_reducible refine hB.mono ?_); rintro e w2 ⟨rfl, rfl⟩)
        | (at_builtin; refine wpList_append_own _ rfl _ _ 92 rfl w.heap.size 5 i0 (.int .u8 0) 1 1 Tryz.underlying92 hi hz0 hz1 hz2 rfl (by decide) _ _ _ rfl (hU.alloc _) ⟨wr.heap.size, 0, none⟩ (Lib.encodeRune n).length (Lib.encodeRune n).length (Lib.runeCells n) rfl ?c0 ?c1 ?c2 ?c3 ?c4 ?c5 ?_))
      case c0 => rw [Lib.runeCells_length, Nat.mul_one]
      case c1 =>
        intro j u hj
        have hh : (wr.alloc (.cells (rowOf n) 5)).heap[wr.heap.size]? = some (.cells (rowOf n) 5 (0, 0)) := heap_alloc_new _ _
        have ha : (⟨wr.heap.size, 0, none⟩ : Addr).add j = ⟨wr.heap.size, j, none⟩ := by
          by_cases hj0 : j = 0
          · subst hj0; simp [Addr.add]
          · simp [Addr.add, hj0]
        rw [ha, Lib.cell_of_heap hh]
        simpa [rowOf] using hj
      case c2 =>
        intro u hu
        simp only [Lib.runeCells, List.mem_map] at hu
        obtain ⟨x, _, rfl⟩ := hu
        rfl
      case c3 => unfold maxLen; omega
      case c4 => omega
      case c5 => simp; omega
      intro v' w5 hown' hgrow' _
      have hfin : XIt w.heap.size w l g v' (.int .i64 ((a.length : Int) + 1)) w5 := by
        refine ⟨a ++ [n], b', by rw [HAB.out]; simp, by simpa using HBL.out, by simp, ?_, ?_⟩
        · unfold U8s
          rw [encL_append, Lib.byteCells_append, List.length_append, show encL [n] = Lib.encodeRune n by simp [encL], Lib.byteCells_encodeRune]
          exact hown'
        · exact (hbw.alloc hbs _).grown hgrow' (by simp; omega) (fun k hk => (World.ownsRow.lt HU.out k hk).1)
      have HF := Lib.hid hfin
      clear hfin hown' hgrow' hU
      go_wp2
      go_roundg g
      case measure => omega
      case rel => exact HF.out
end Go.Proofs.YtpnfjjgihkmjmaaGreatDoor
