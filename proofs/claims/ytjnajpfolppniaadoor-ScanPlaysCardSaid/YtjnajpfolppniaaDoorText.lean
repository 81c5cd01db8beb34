/-
  THE DOCUMENT's 'Text': the bytes of signs, one behind the other, are the text.
-/
import Derived.Test.YtjnajpfolppniaaDoorMeth
import Derived.Laws.IdiomStrings
import Derived.Laws.BytesString
namespace Go.Proofs.YtjnajpfolppniaaDoor
open Go.RowKit
set_option linter.unusedVariables false

def U8s (B : Nat) (w : World) (v : Value) (l : List UInt8) : Prop := w.ownsRow B 5 1 v l.length (Lib.byteCells l)
theorem u8s_shape {B : Nat} {w : World} {v : Value} {l : List UInt8} (h : U8s B w v l) : ∃ ao cap, v = .slice ao l.length cap := by
  rcases h.2 with ⟨hv, hl⟩ | ⟨g, cap, cur, hv, _⟩
  · exact ⟨none, 0, by rw [hv, hl]⟩
  · exact ⟨_, cap, hv⟩
theorem bytes_text {B : Nat} {w : World} {v : Value} {l : List UInt8} (h : U8s B w v l) : (convert 50 9 v).run Tryd.prog w = .ok (.string ⟨l.toArray⟩) w := by
  rcases h.2 with ⟨rfl, hl⟩ | ⟨g, cap, cur, rfl, _⟩
  · obtain rfl : l = [] := List.length_eq_zero_iff.1 hl
    rw [run_convert_bytes_string w 50 9 5 _ _ _ Tryd.underlying50 Tryd.underlying5 Tryd.underlying9]
    rfl
  · refine run_convert_bytes_back w 50 9 5 ⟨g, 0, none⟩ cap l Tryd.underlying50 Tryd.underlying5 Tryd.underlying9 ?_
    intro j hj
    exact World.ownsRow.cells h (g := g) rfl j _ (by simp [Lib.byteCells, List.getElem?_eq_getElem hj])
def XI (B : Nat) (w : World) (l : List Int) (g : Nat) (v i : Value) (wr : World) : Prop :=
  ∃ a b, l = a ++ b ∧ b.length = g ∧ i = .int .i64 a.length ∧ U8s B wr v (encL a) ∧ Below B w wr

set_option maxHeartbeats 4000000 in
set_option maxRecDepth 100000 in
theorem text_any (l : List Int) (hall : AllS l) (hl : l.length ≤ 1000000) (ao : Option Addr) (gc oc cap : Nat) (w : World) (hao : 0 < l.length → ao = some ⟨gc, oc, none⟩ ∧ gc < w.heap.size)
    (hc : ∀ (j : Nat) (x : Int), l[j]? = some x → w.cell? ⟨gc, oc + j, none⟩ = some (.int .i64 x)) :
    Calls Tryd.prog 8 #[.slice ao l.length cap] w fun e w' => e = .returned (.string (textOf l)) ∧ Below w.heap.size w w' := by
  have HC := Lib.hid hc
  have HA := Lib.hid hall
  have HO := Lib.hid hao
  obtain ⟨i0, hi, hz0, hz1, hz2⟩ := info_parts byteInfo
  clear hc hall hao
  go_enter Tryd.func8, Tryd.ntmps8
  go_wp2
  go_loopg [3, 7] l.length (fun g v i wr => XI w.heap.size w l g v i wr)
  case atStart => exact ⟨[], l, rfl, rfl, rfl, World.ownsRow_nil _ _ _ _, Below.refl _ _⟩
  case round =>
    obtain ⟨a, b, hab, hbl, rfl, hU, hbw⟩ := hrel
    obtain ⟨av, cv, rfl⟩ := u8s_shape hU
    have hla : a.length + b.length = l.length := by rw [hab]; simp
    have hen := (encL_len a).2
    have HAB := Lib.hid hab
    have hbs := hbw.size
    cases gk with
    | zero =>
      obtain rfl : b = [] := List.length_eq_zero_iff.1 hbl
      have hal : a.length = l.length := by simp at hla; omega
      have hge : ¬ ((a.length : Int) < (l.length : Int)) := by omega
      have hcv := bytes_text hU
      have hres : (⟨(encL a).toArray⟩ : ByteArray) = textOf l := by rw [hab, List.append_nil]; rfl
      rw [hres] at hcv
      clear hab hbl hla hal hU hres
      go_wp2
      go_ret
      exact ⟨rfl, hbw⟩
    | succ g =>
      obtain ⟨n, b', rfl⟩ : ∃ n b', b = n :: b' := by
        match b, hbl with
        | n :: b', _ => exact ⟨n, b', rfl⟩
      have hlt : (a.length : Int) < (l.length : Int) := by simp at hla; omega
      have hn : l[a.length]? = some n := by rw [hab]; simp
      obtain ⟨rfl, hgc⟩ := HO.out (by simp at hla; omega)
      have hcell : wr.cell? ⟨gc, oc + a.length, none⟩ = some (.int .i64 n) := (hbw.cell (p := ⟨gc, oc + a.length, none⟩) hgc).trans (HC.out _ _ hn)
      have hsg := HA.out n (List.mem_of_getElem? hn)
      have hB := bytes_any n hsg wr
      have hk := enc_len n
      have HBL := Lib.hid hbl
      have HU := Lib.hid hU
      clear hab hbl hla hn hsg
      go_wp2_with (first
        | (go_at_call 22; (with_reducible refine hB.mono ?_); rintro e w2 ⟨rfl, rfl⟩)
        | (at_builtin; refine wpList_append_own _ rfl _ _ 50 rfl w.heap.size 5 i0 (.int .u8 0) 1 1 Tryd.underlying50 hi hz0 hz1 hz2 rfl (by decide) _ _ _ rfl (hU.alloc _) ⟨wr.heap.size, 0, none⟩ (Lib.encodeRune n).length (Lib.encodeRune n).length (Lib.runeCells n) rfl ?c0 ?c1 ?c2 ?c3 ?c4 ?c5 ?_))
      case c0 => rw [Lib.runeCells_length, Nat.mul_one]
      case c1 =>
        intro j u hj
        have hh : (wr.alloc (.cells (rowOf n) 5)).heap[wr.heap.size]? = some (.cells (rowOf n) 5 (0, 0)) := heap_alloc_new _ _
        have ha : (⟨wr.heap.size, 0, none⟩ : Addr).add j = ⟨wr.heap.size, j, none⟩ := by
          by_cases hj0 : j = 0
          · subst hj0; simp [Addr.add]
          · simp [Addr.add, hj0]
        rw [ha, Lib.cell_of_heap hh]
        simpa [rowOf] using hj
      case c2 =>
        intro u hu
        simp only [Lib.runeCells, List.mem_map] at hu
        obtain ⟨x, _, rfl⟩ := hu
        rfl
      case c3 => unfold maxLen; omega
      case c4 => omega
      case c5 => simp; omega
      intro v' w5 hown' hgrow' _
      have hfin : XI w.heap.size w l g v' (.int .i64 ((a.length : Int) + 1)) w5 := by
        refine ⟨a ++ [n], b', by rw [HAB.out]; simp, by simpa using HBL.out, by simp, ?_, ?_⟩
        · unfold U8s
          rw [encL_append, Lib.byteCells_append, List.length_append, show encL [n] = Lib.encodeRune n by simp [encL], Lib.byteCells_encodeRune]
          exact hown'
        · exact (hbw.alloc hbs _).grown hgrow' (by simp; omega) (fun k hk => (World.ownsRow.lt HU.out k hk).1)
      have HF := Lib.hid hfin
      clear hfin hown' hgrow' hU
      go_wp2
      go_roundg g
      case measure => omega
      case rel => exact HF.out
end Go.Proofs.YtjnajpfolppniaaDoor
