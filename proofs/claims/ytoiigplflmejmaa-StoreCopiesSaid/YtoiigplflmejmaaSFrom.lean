/-
  list.from's closure as an iterator: the keys from the first one that isn't ahead on, for whatever loop body turns one block alone.
-/
import Derived.Test.YtoiigplflmejmaaSPlain
import Derived.RangeFuncNested
import Derived.RangeFuncBound
import Derived.RangeFuncCalls
import Derived.RangeFuncLeaves
import Derived.Shelf.Abstract
import Derived.Shelf.RegionOpen
import Derived.WalkKit
import Derived.OwnWalkIn
import Derived.TacticsInMore
import Derived.LoopNIn
import Derived.LoopIn
namespace Go.Proofs.Ytoiigplflmejmaa
open Go.RowKit Go.Shelf
set_option linter.unusedVariables false
set_option linter.unusedSimpArgs false
set_option maxRecDepth 100000
attribute [local go_sem] Oper.semAt_some

/-- All blocks below n0 but gn lie as they lay. -/
structure But (n0 gn : Nat) (W W' : World) : Prop where
  os : W'.os = W.os
  tape : W'.tape = W.tape
  output : W'.output = W.output
  size : W.heap.size ≤ W'.heap.size
  block : ∀ q, q < n0 → q ≠ gn → W'.heap[q]? = W.heap[q]?
theorem But.refl (n0 gn : Nat) (W : World) : But n0 gn W W := ⟨rfl, rfl, rfl, Nat.le_refl _, fun _ _ _ => rfl⟩
theorem But.trans {n0 gn : Nat} {A B C : World} (h : But n0 gn A B) (k : But n0 gn B C) : But n0 gn A C := ⟨k.os.trans h.os, k.tape.trans h.tape, k.output.trans h.output, Nat.le_trans h.size k.size, fun q hq hn => (k.block q hq hn).trans (h.block q hq hn)⟩
theorem But.of {n0 gn : Nat} {A B : World} {b : Nat} (h : Below b A B) (hb : n0 ≤ b) : But n0 gn A B := ⟨h.os, h.tape, h.output, h.size, fun q hq _ => h.block q (Nat.lt_of_lt_of_le hq hb)⟩
theorem But.cell {n0 gn : Nat} {A B : World} (h : But n0 gn A B) {p : Addr} (h1 : p.block < n0) (h2 : p.block ≠ gn) : B.cell? p = A.cell? p := World.cell?_of_block (w := A) (h.block p.block h1 h2)
theorem but_b {n0 gn : Nat} {w : World} (hn : n0 ≤ w.heap.size) : ∀ (W : World) (l : Nat) (o o' : Obj), w.heap.size ≤ l → W.heap[l]? = some o → o.isCells = false → o.isWalk = false → But n0 gn W (W.putObj l o') := fun W l o o' h1 h2 h3 h4 =>
  But.of (belowK_b (w := w) (n₀ := n0) hn W l o o' h1 h2 h3 h4) (Nat.le_refl _)
theorem below_grown {W W' : World} (h : Below W.heap.size W W') : W.grownBy W' none := ⟨h.os, h.tape, h.output, h.size, fun k hk _ => h.block k hk⟩
theorem abides_below {β : Type} {B : Nat} {J : β → World → Prop} (hJ : AbidesFrom B J) {s : β} {W W' : World} (h : J s W) (hb : Below W.heap.size W W') : J s W' := hJ s W W' none h (below_grown hb) (fun r e => by cases e)
/-- What the iterator's rounds read. -/
structure Fr (W : World) (bl d o gb cb g c : Nat) (l : List Kt) : Prop where
  x1 : W.cell? ⟨bl, 0, none⟩ = some (.pointer (some ⟨d, o, none⟩))
  x2 : W.cell? ⟨d, o + 1, none⟩ = some (.slice (some ⟨gb, 0, none⟩) 1 cb)
  x3 : W.cell? ⟨gb, 0, none⟩ = some (.slice (some ⟨g, 0, none⟩) l.length c)
  xs : ∀ (t : Nat) (x : Kt), l[t]? = some x → W.cell? ⟨g, t * 3, none⟩ = some (.int .i64 x.a) ∧ W.cell? ⟨g, t * 3 + 1, none⟩ = some (.int .i64 x.b) ∧ W.cell? ⟨g, t * 3 + 2, none⟩ = some (.int .i64 x.c)
def Frq (n0 gn bl d gb g : Nat) : Prop := (bl < n0 ∧ bl ≠ gn) ∧ (d < n0 ∧ d ≠ gn) ∧ (gb < n0 ∧ gb ≠ gn) ∧ (g < n0 ∧ g ≠ gn)
theorem Fr.but {n0 gn : Nat} {A B : World} {bl d o gb cb g c : Nat} {l : List Kt} (h : Fr A bl d o gb cb g c l) (q : Frq n0 gn bl d gb g) (hb : But n0 gn A B) : Fr B bl d o gb cb g c l :=
  ⟨(hb.cell (p := ⟨bl, 0, none⟩) q.1.1 q.1.2).trans h.x1, (hb.cell (p := ⟨d, o + 1, none⟩) q.2.1.1 q.2.1.2).trans h.x2, (hb.cell (p := ⟨gb, 0, none⟩) q.2.2.1.1 q.2.2.1.2).trans h.x3, fun t x hx =>
    ⟨(hb.cell (p := ⟨g, t * 3, none⟩) q.2.2.2.1 q.2.2.2.2).trans (h.xs t x hx).1, (hb.cell (p := ⟨g, t * 3 + 1, none⟩) q.2.2.2.1 q.2.2.2.2).trans (h.xs t x hx).2.1, (hb.cell (p := ⟨g, t * 3 + 2, none⟩) q.2.2.2.1 q.2.2.2.2).trans (h.xs t x hx).2.2⟩⟩
theorem fr_meas {m t : Nat} {z : Int} (h : t < m) (hz : z = (t : Int) + 1) : m - (intOf (.int .i64 z)).toNat < m - (intOf (.int .i64 (t : Int))).toNat := by
  subst hz
  simp only [intOf]
  omega
abbrev encK (x : Kt) : Array Value := #[.agg #[.int .i64 x.a, .int .i64 x.b, .int .i64 x.c]]
def FromS (n : Int) (l : List Kt) (k : Kt) (ys : List Kt) : Prop := ∃ i, SeaAt (notA n l k) l.length i ∧ ys = l.drop i
def FromP (n : Int) (l : List Kt) (k : Kt) (ys : List Kt) : Prop := ∃ i, SeaAt (notA n l k) l.length i ∧ ys <+: l.drop i
set_option maxHeartbeats 16000000 in
theorem sfromF_one {n0 gn : Nat} {w : World} (hw : n0 ≤ w.heap.size) {B d o gb cb g c : Nat} {n : Int} {l : List Kt} {k : Kt} {bl bk : Nat}
    (hL : Lm B w d o n gb cb (.slice (some ⟨g, 0, none⟩) l.length c) l) (hl : l.length ≤ 1000) (hp : 0 < l.length) (hs : Rs n l) (hlc : l.length ≤ c)
    (hbl : Fb w bl 67 #[.pointer (some ⟨d, o, none⟩)]) (hbk : Fb w bk 37 #[.int .i64 k.a, .int .i64 k.b, .int .i64 k.c]) (hq : Frq n0 gn bl d gb g) :
    SeqStopsK Fence.wide 4 Try.prog 42 #[.pointer (some ⟨bl, 0, none⟩), .pointer (some ⟨bk, 0, none⟩)] encK (But n0 gn) (FromS n l k) (FromP n l k) l.length w := fun lr J Jx W hW hJ hJx hY h0 => by
  have hLW := hL.below hW
  have b1 := (hbl.below hW).cell 0
  have b2 := (hbk.below hW).cell 0
  have b3 := (hbk.below hW).cell 1
  have b4 := (hbk.below hW).cell 2
  have hfr : Fr W bl d o gb cb g c l := ⟨(hbl.below hW).cell 0, hLW.h1, hLW.hb.cell 0, fun t x hx => by
    obtain ⟨g', c', e, h1, h2, h3⟩ := hLW.hr.at hx
    injection e with e1 e2 e3
    injection e1 with e1
    injection e1 with e1
    subst e1
    exact ⟨h1, h2, h3⟩⟩
  have cF := sfind_any hLW hl hp hs k
  have HJ := Lib.hid hJ
  have HJ0 := Lib.hid h0
  have HFR := Lib.hid hfr
  have HN := Lib.hid (show n0 ≤ W.heap.size from Nat.le_trans hw hW.size)
  have HL := Lib.hid (And.intro hl hlc)
  have HY := Lib.hid hY
  clear hJ hJx h0 hfr hL hLW hbl hbk hW hw hl hlc hs hY
  refine callsIn_of_wp Try.func42 rfl trivial ?_ rfl
  simp only [Try.ntmps42, List.size_toArray, List.length_cons, List.length_nil, Nat.reduceAdd, Nat.reduceSub, Array.replicate_succ, Array.replicate_zero, List.push_toArray, List.append_toArray, List.nil_append, List.cons_append]
  gi_wp2_with (refine ⟨trivial, ?_⟩; gi_at_call 35; refine (callsIn_wide.2 cF).mono ?_; rintro e W2 ⟨⟨fb, fj, rfl, hfi⟩, hb2⟩)
  have HW2 := Lib.hid (show But n0 gn W W2 from But.of hb2 HN.out)
  have HJ2 := Lib.hid (abides_below HJ.out HJ0.out hb2)
  have HI : Hid (∃ i : Nat, SeaAt (notA n l k) l.length i ∧ ((fb = 0 ∧ fj = (i : Int) ∧ i < l.length) ∨ (fb = 1 ∧ i = l.length))) := Lib.hid (by
    rcases hfi with ⟨e1, e2, h3⟩ | ⟨e1, i, e2, h3, h4⟩
    · exact ⟨l.length, ⟨Nat.le_refl _, fun t ht => h3 t ht, fun t h1 h2 => by omega⟩, .inr ⟨e1, rfl⟩⟩
    · exact ⟨i, h4, .inl ⟨e1, e2, h3⟩⟩)
  clear hfi hb2 cF b1 b2 b3 b4
  obtain ⟨i, hsi, hi2⟩ := HI.out
  have HSI := Lib.hid hsi
  have hst : (∃ (s4 s5 : Value), s4 = .int .i64 fb ∧ s5 = .int .i64 fj) := ⟨_, _, rfl, rfl⟩
  clear hst hsi
  have HI2 := Lib.hid hi2
  clear hi2
  gi_loopw [4, 5] (fun s4 s5 wr => (s4 = .int .i64 0 ∧ s5 = .int .i64 i ∧ i < l.length ∧ J [] wr ∧ But n0 gn W wr) ∨ (s4 = .int .i64 1 ∧ J (l.drop i) wr ∧ But n0 gn W wr)) (fun s4 _ _ => 1 - (intOf s4).toNat)
  case atStart =>
    rcases HI2.out with ⟨rfl, rfl, h⟩ | ⟨rfl, h⟩
    · exact .inl ⟨rfl, rfl, h, HJ2.out, HW2.out⟩
    · exact .inr ⟨rfl, by rw [h, List.drop_length]; exact HJ2.out, HW2.out⟩
  case round =>
    rcases hrel with ⟨rfl, rfl, hi, hj, hbw⟩ | ⟨rfl, hj, hbw⟩
    · have hF := HFR.out.but hq hbw
      have x1 := hF.x1
      have x2 := hF.x2
      have x3 := hF.x3
      have hiI : (0 : Int) ≤ (i : Int) := by omega
      have hil : (i : Int) ≤ (l.length : Int) := by omega
      have hlcI : (l.length : Int) ≤ (c : Int) := by have := HL.out.2; omega
      gi_wp2
      gi_loopw [33] (fun s33 wq => ∃ t : Nat, t ≤ l.length - i ∧ s33 = .int .i64 t ∧ J ((l.drop i).take t) wq ∧ But n0 gn W wq) (fun s33 _ => l.length - i - (intOf s33).toNat)
      case atStart => exact ⟨0, Nat.zero_le _, rfl, by rw [List.take_zero]; exact hj, hbw⟩
      case round =>
        clear x1 x2 x3 hF hj hbw
        obtain ⟨t, htm, rfl, hJt, hbt⟩ := hrel
        have hF3 := HFR.out.but hq hbt
        by_cases hlt : t < l.length - i
        · obtain ⟨x, hx⟩ : ∃ x, l[i + t]? = some x := ⟨_, List.getElem?_eq_getElem (by omega)⟩
          obtain ⟨y0, y1, y2⟩ := hF3.xs _ _ hx
          rw [show (i + t) * 3 = i * 3 + t * 3 from Nat.add_mul _ _ _] at y0 y1 y2
          have hal : Below wr.heap.size wr (wr.alloc (.cells #[.int .i64 x.a, .int .i64 x.b, .int .i64 x.c] 37)) := (Below.refl _ _).alloc (Nat.le_refl _) _
          obtain ⟨fn, tmps, assign, body, hy, hR⟩ := HY.out ((l.drop i).take t) x (wr.alloc (.cells #[.int .i64 x.a, .int .i64 x.b, .int .i64 x.c] 37)) (abides_below HJ.out hJt hal) (by rw [List.length_take, List.length_drop]; omega)
          dsimp only [encK] at hy
          have hti : (t : Int) < ((l.length - i : Nat) : Int) := by omega
          have HX := Lib.hid hx
          have HWR := Lib.hid (show wrap64 ((t : Int) + 1) = (t : Int) + 1 from IntWalk.wrap64_in _ ⟨by omega, by have := HL.out.1; omega⟩)
          have HB := Lib.hid (show n0 ≤ wr.heap.size → But n0 gn W (wr.alloc (.cells #[.int .i64 x.a, .int .i64 x.b, .int .i64 x.c] 37)) from fun h => hbt.trans (But.of hal h))
          have HW := Lib.hid (show n0 ≤ wr.heap.size from Nat.le_trans HN.out hbt.size)
          have HTK : Hid ((l.drop i).take (t + 1) = (l.drop i).take t ++ [x]) := Lib.hid (by
            rw [List.take_add_one, List.getElem?_drop, hx]; rfl)
          generalize x.a = xa at *
          generalize x.b = xb at *
          generalize x.c = xc at *
          clear hJt hbt hF3 hx
          gi_wp2
          refine hR.mono ?_
          rintro e W3 (⟨rfl, hJ3, hk3⟩ | ⟨rfl, hJx3⟩)
          · gi_wp2
            go_roundw
            case rel => exact ⟨t + 1, hlt, by rw [HWR.out, Int.natCast_succ], by rw [HTK.out]; exact hJ3, (HB.out HW.out).trans hk3⟩
            case measure => exact fr_meas hlt HWR.out
          · gi_wp2
            refine bodyPost_ret (results_none rfl _ _ _) rfl ?_
            exact ⟨⟨_, rfl⟩, .inr ⟨_, ⟨i, HSI.out, by rw [← HTK.out]; exact List.take_prefix _ _⟩, hJx3⟩⟩
        · obtain rfl : t = l.length - i := by omega
          have HE := Lib.hid (show J (l.drop i) wr from by
            have : (l.drop i).take (l.length - i) = l.drop i := List.take_of_length_le (by rw [List.length_drop]; exact Nat.le_refl _)
            rw [this] at hJt; exact hJt)
          have HB := Lib.hid hbt
          clear hJt hbt hF3
          gi_wp2
          go_roundw
          case rel => exact .inr ⟨rfl, HE.out, HB.out⟩
          case measure => simp [intOf]
    · have hF := HFR.out.but hq hbw
      have x1 := hF.x1
      have x2 := hF.x2
      gi_wp2
      go_end0
      exact ⟨⟨_, rfl⟩, .inl ⟨_, ⟨i, HSI.out, rfl⟩, hj⟩⟩
end Go.Proofs.Ytoiigplflmejmaa
