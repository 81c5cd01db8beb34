/-
  MERGED (a claim has at most 60 files): Laid, Quote, QuoteB.
-/
import Derived.Test.YtjalhcbomjgkoaaDoorRows
import Derived.WalkKit
import Derived.ProofKit
import Derived.OpenShut
import Derived.Deep.DeepHandedRow
import Derived.Lib.LaidTab
import Derived.MakeChecks
import Derived.Test.YtjalhcbomjgkoaaDoorZ02
import Derived.Test.YtjalhcbomjgkoaaDoorZ05
import Derived.Deep.LoopGhost
import Derived.BigCall
import Derived.Laws.Rows
/-
  WHAT THE ROWS' LIST GIVES: the cells of the table 'escapes'; and what every law's frame shares.
-/
namespace Go.Proofs.YtjalhcbomjgkoaaDoor
open Go.ChangeShapes Go.RowKit

theorem own : ownKnob Tryd.prog.godebug = none := by kernel_rfl
set_option maxRecDepth 100000 in
theorem gEsc : Tryd.prog.globalNamed "beck/scan.escapes" = some 0 := by kernel_rfl
set_option maxRecDepth 100000 in
theorem gEscType : (Tryd.prog.globals[0]?).map (·.type) = some 138 := by kernel_rfl
set_option maxRecDepth 100000 in
theorem cellsEsc : Tryd.prog.cellsOf 137 = 2 := by kernel_rfl
set_option maxRecDepth 100000 in
theorem cellsEscs : Tryd.prog.cellsOf 138 = 14 := by kernel_rfl
set_option maxRecDepth 100000 in
theorem cellsRune : Tryd.prog.cellsOf 21 = 1 := by kernel_rfl

def escCells : Array Value := #[.int .i32 116, .int .i32 9, .int .i32 110, .int .i32 10, .int .i32 114, .int .i32 13, .int .i32 98, .int .i32 8, .int .i32 102, .int .i32 12, .int .i32 34, .int .i32 34, .int .i32 92, .int .i32 92]

set_option maxRecDepth 100000 in
theorem two_of {H : Type} {enc : TypeId × Value → H} {W : World} {sp : Nat → Bool} {f : Nat} {cs : List Value} {x : DataW H × List MemPlace} {a b : Int}
    (h : DataW.trod enc Tryd.prog W 0 sp false f 137 cs = some x) (hx : x.1 = .agg [.lit (.int .i32 a), .lit (.int .i32 b)]) : cs = [.int .i32 a, .int .i32 b] := by
  obtain ⟨y0, y1, n, rfl, hl, h0, h1⟩ := trod_struct2 Tryd.underlying137 h
  rw [cellsEsc] at hl
  match cs, hl with
  | [c0, c1], _ =>
    obtain ⟨p, e0, e1, _⟩ := DataW.trod_int Tryd.underlying21 h0
    obtain ⟨q, f0, f1, _⟩ := DataW.trod_int Tryd.underlying21 h1
    simp only [DataW.agg.injEq, List.cons.injEq, and_true] at hx
    rw [e1, f1] at hx
    simp only [DataW.lit.injEq, Lit.int.injEq, true_and] at hx
    obtain ⟨rfl, rfl⟩ := hx
    simp [cellsRune] at e0 f0
    subst e0 f0
    rfl

set_option maxRecDepth 100000 in
/-- THE TABLE's CELLS. -/
theorem table {W : World} (h : laidMetH Tryd.prog [("beck/scan.escapes", Rows.laid_beck_scan_escapes)] W) : ∃ t fr, W.heap[0]? = some (.cells escCells t fr) := by
  rw [MakeChecks.laidMetH_plain _ _ _ (by kernel_rfl)] at h
  obtain ⟨ps, ⟨g0, t0, cs0, f0, p0, q0, hg0, ht0, hv0, hd0, _, _⟩, _⟩ := h
  obtain rfl := Option.some.inj (gEsc.symm.trans hg0)
  obtain rfl := Option.some.inj (gEscType.symm.trans ht0)
  obtain ⟨xs, m, rfl, hx, hlen, hn, hel⟩ := DataW.trod_array Tryd.underlying138 hd0
  rw [cellsEscs] at hlen
  simp only [cellsEsc] at hel
  unfold World.var? at hv0
  rw [gEsc] at hv0
  simp only [Option.bind_some] at hv0
  match hh : W.heap[0]?, hv0 with
  | some (.cells cs t fr), hv0 =>
    simp only [Option.some.injEq] at hv0
    subst hv0
    refine ⟨t, fr, ?_⟩
    simp only [Prod.mk.injEq, Rows.laid_beck_scan_escapes, DataW.agg.injEq] at hx
    have hx := hx.1
    match xs, hn, hx, hel with
    | [x0, x1, x2, x3, x4, x5, x6], _, hx, hel =>
      simp only [List.map_cons, List.map_nil, List.cons.injEq, and_true] at hx
      obtain ⟨e0, e1, e2, e3, e4, e5, e6⟩ := hx
      have a0 := two_of (hel 0 (by decide)) e0.symm
      have a1 := two_of (hel 1 (by decide)) e1.symm
      have a2 := two_of (hel 2 (by decide)) e2.symm
      have a3 := two_of (hel 3 (by decide)) e3.symm
      have a4 := two_of (hel 4 (by decide)) e4.symm
      have a5 := two_of (hel 5 (by decide)) e5.symm
      have a6 := two_of (hel 6 (by decide)) e6.symm
      obtain ⟨l⟩ := cs
      congr 2
      match l, hlen with
      | [c0, c1, c2, c3, c4, c5, c6, c7, c8, c9, c10, c11, c12, c13], _ =>
        simp at a0 a1 a2 a3 a4 a5 a6
        obtain ⟨rfl, rfl⟩ := a0
        obtain ⟨rfl, rfl⟩ := a1
        obtain ⟨rfl, rfl⟩ := a2
        obtain ⟨rfl, rfl⟩ := a3
        obtain ⟨rfl, rfl⟩ := a4
        obtain ⟨rfl, rfl⟩ := a5
        obtain ⟨rfl, rfl⟩ := a6
        rfl
end Go.Proofs.YtjalhcbomjgkoaaDoor

namespace Go.Proofs.YtjalhcbomjgkoaaDoor
open Go.RowKit

set_option maxRecDepth 100000 in
theorem and15n : ∀ x : Fin 160, bits .and .i32 ((x.val : Nat) : Int) 15 = ((x.val % 16 : Nat) : Int) := by decide
theorem and15 (x : Int) (h0 : 0 ≤ x) (h1 : x < 160) : bits .and .i32 x 15 = x % 16 := by
  have := and15n ⟨x.toNat, by omega⟩
  simp only [] at this
  rw [show ((x.toNat : Nat) : Int) = x by omega] at this
  rw [this]; omega
/-- A digit's byte. -/
def hexd (x : Int) : UInt8 := (if x < 10 then 48 + x else 55 + x).toNat.toUInt8
theorem hexd_at (k : Nat) (h : k < 16) : ∀ h', (⟨#[48, 49, 50, 51, 52, 53, 54, 55, 56, 57, 65, 66, 67, 68, 69, 70]⟩ : ByteArray)[k]'h' = hexd k := by
  intro h'
  match k, h with
  | 0, _ => rfl
  | 1, _ => rfl
  | 2, _ => rfl
  | 3, _ => rfl
  | 4, _ => rfl
  | 5, _ => rfl
  | 6, _ => rfl
  | 7, _ => rfl
  | 8, _ => rfl
  | 9, _ => rfl
  | 10, _ => rfl
  | 11, _ => rfl
  | 12, _ => rfl
  | 13, _ => rfl
  | 14, _ => rfl
  | 15, _ => rfl
  | k + 16, h => exact absurd h (by omega)
theorem hexd_atZ (x : Int) (h0 : 0 ≤ x) (h : x < 16) : ∀ h', (⟨#[48, 49, 50, 51, 52, 53, 54, 55, 56, 57, 65, 66, 67, 68, 69, 70]⟩ : ByteArray)[x.toNat]'h' = hexd x := by
  intro h'
  rw [hexd_at x.toNat (by omega) h']
  rw [show ((x.toNat : Nat) : Int) = x by omega]
/-- What writeNumber writes. -/
def numL (r : Int) : List UInt8 := [92, 117, 48, 48, hexd (r / 16), hexd (r % 16)]
def numPart (r : Int) (j : Int) : List Value := Lib.byteCells ((numL r).take (2 + j.toNat))

set_option maxHeartbeats 1000000 in
theorem wnum_any (B b : Nat) (bs : List Value) (r : Int) (h0 : 0 ≤ r) (h1 : r < 160) (w : World) (h : Lib.IsBuilderF 128 5 B b bs w) (hlen : bs.length + 100 ≤ 140737488355328) (hBw : B ≤ w.heap.size) :
    Calls Tryd.prog 77 #[.pointer (some ⟨b, 0, none⟩), .int .i32 r] w fun e w' => e = .returned (.tuple #[]) ∧ Lib.IsBuilderF 128 5 B b (bs ++ Lib.byteCells (numL r)) w' ∧ Below B w w' ∧ Lib.OthersKept 5 (some b) w w' := by
  have e2 := and15 (r / 16) (by omega) (by omega)
  rw [show r / 16 % 16 = r / 16 by omega] at e2
  have e3 := and15 r (by omega) (by omega)
  have d2 := hexd_atZ (r / 16) (by omega) (by omega)
  have d3 := hexd_atZ (r % 16) (by omega) (by omega)
  have q0 : r / 4096 = 0 := by omega
  have q1 : r / 256 = 0 := by omega
  have z0 : bits .and .i32 0 15 = 0 := by decide
  have f0 : ((⟨#[48, 49, 50, 51, 52, 53, 54, 55, 56, 57, 65, 66, 67, 68, 69, 70]⟩ : ByteArray)[0]'(by decide)).toNat = 48 := rfl
  have g2 : 0 ≤ r / 16 ∧ r / 16 < 16 := by omega
  have g3 : 0 ≤ r % 16 ∧ r % 16 < 16 := by omega
  have cs : ∀ (j : Int) (c : UInt8), (numL r).take (2 + j.toNat) ++ [c] = (numL r).take (2 + (j + 1).toNat) → bs ++ numPart r j ++ [Value.int .u8 c.toNat] = bs ++ numPart r (j + 1) := by
    intro j c hc
    unfold numPart
    rw [← hc, Lib.byteCells_append, List.append_assoc]
    rfl
  have C := Lib.hid cs
  have hl : ∀ j, (numPart r j).length ≤ 6 := by
    intro j
    unfold numPart
    rw [Lib.byteCells_length]
    simp [numL]
    omega
  have HL := Lib.hid hl
  clear cs hl
  go_enter Tryd.func77, Tryd.ntmps77
  go_wp2_with (go_at_call 70; refine (Tryd.Builder_WriteString_k B b bs _ _ h (by show _ + 2 ≤ _; omega) hBw).mono ?_; rintro e w1 ⟨rfl, h1, b1, k1⟩)
  go_loopg [7] 4 (fun g i wx => ∃ j : Int, 0 ≤ j ∧ j + g = 4 ∧ i = .int .i64 j ∧ Lib.IsBuilderF 128 5 B b (bs ++ numPart r j) wx ∧ Below B w wx ∧ Lib.OthersKept 5 (some b) w wx)
  case atStart => exact ⟨0, by omega, by omega, rfl, .inr h1, b1, k1⟩
  case round =>
    obtain ⟨j, hj0, hj, rfl, hI, hb, hk⟩ := hrel
    have hlj := HL.out j
    obtain rfl | rfl | rfl | rfl | rfl : j = 0 ∨ j = 1 ∨ j = 2 ∨ j = 3 ∨ j = 4 := by omega
    · go_wp2_with (go_at_call 72; refine (Tryd.Builder_WriteByte_k B b _ _ _ hI (by simp; omega) (by have := hb.size; omega)).mono ?_; rintro e w2 ⟨rfl, h2, b2, k2⟩)
      go_roundg (gk - 1)
      case measure => omega
      case rel => exact ⟨1, by omega, by omega, rfl, .inr (by have := C.out 0 48 rfl; simp only [Int.reduceAdd] at this; rw [← this]; exact h2), hb.trans b2, hk.trans k2⟩
    · go_wp2_with (go_at_call 72; refine (Tryd.Builder_WriteByte_k B b _ _ _ hI (by simp; omega) (by have := hb.size; omega)).mono ?_; rintro e w2 ⟨rfl, h2, b2, k2⟩)
      go_roundg (gk - 1)
      case measure => omega
      case rel => exact ⟨2, by omega, by omega, rfl, .inr (by have := C.out 1 48 rfl; simp only [Int.reduceAdd] at this; rw [← this]; exact h2), hb.trans b2, hk.trans k2⟩
    · go_wp2_with (go_at_call 72; refine (Tryd.Builder_WriteByte_k B b _ _ _ hI (by simp; omega) (by have := hb.size; omega)).mono ?_; rintro e w2 ⟨rfl, h2, b2, k2⟩)
      go_roundg (gk - 1)
      case measure => omega
      case rel => exact ⟨3, by omega, by omega, rfl, .inr (by have := C.out 2 (hexd (r / 16)) rfl; simp only [Int.reduceAdd] at this; rw [← this]; exact h2), hb.trans b2, hk.trans k2⟩
    · go_wp2_with (go_at_call 72; refine (Tryd.Builder_WriteByte_k B b _ _ _ hI (by simp; omega) (by have := hb.size; omega)).mono ?_; rintro e w2 ⟨rfl, h2, b2, k2⟩)
      go_roundg (gk - 1)
      case measure => omega
      case rel => exact ⟨4, by omega, by omega, rfl, .inr (by have := C.out 3 (hexd (r % 16)) rfl; simp only [Int.reduceAdd] at this; rw [← this]; exact h2), hb.trans b2, hk.trans k2⟩
    · go_wp2
      go_end0
      exact ⟨rfl, hI, hb, hk⟩
end Go.Proofs.YtjalhcbomjgkoaaDoor

namespace Go.Proofs.YtjalhcbomjgkoaaDoor
open Go.RowKit

/-- What Quote writes of a sign. -/
def esc (n : Int) : List UInt8 := if lett n ≠ 0 then [92, (lett n).toNat.toUInt8] else if cls n = 4 then numL n else Lib.encodeRune n
def escL (l : List Int) : List UInt8 := l.flatMap esc
def quoteL (l : List Int) : List UInt8 := 34 :: escL l ++ [34]
theorem escL_append (a b : List Int) : escL (a ++ b) = escL a ++ escL b := by simp [escL]
theorem escL_one (n : Int) : escL [n] = esc n := by simp [escL]
theorem esc_len (n : Int) : 1 ≤ (esc n).length ∧ (esc n).length ≤ 6 := by
  have := enc_len n
  unfold esc numL
  split
  · simp
  · split
    · simp
    · omega
theorem escL_len (l : List Int) : (escL l).length ≤ 6 * l.length := by
  induction l with
  | nil => simp [escL]
  | cons n t ih => have := esc_len n; simp [escL] at *; omega
def tabNot (n k : Int) : Prop := (1 ≤ k → n ≠ 9) ∧ (2 ≤ k → n ≠ 10) ∧ (3 ≤ k → n ≠ 13) ∧ (4 ≤ k → n ≠ 8) ∧ (5 ≤ k → n ≠ 12) ∧ (6 ≤ k → n ≠ 34) ∧ (7 ≤ k → n ≠ 92)

theorem tabNot_lett (n : Int) (h : tabNot n 7) : lett n = 0 := by unfold tabNot at h; unfold lett; omega
/-- The outer relation: the signs a are through. -/
def QI (B K : Nat) (s : ByteArray) (w : World) (sl : List Int) (g : Nat) (wr : World) : Prop :=
  ∃ a b, sl = a ++ b ∧ b.length = g ∧ Lib.IsBuilderF 128 5 B B (Lib.byteCells (34 :: escL a)) wr ∧ wr.heap[K]? = some (.stringIter s (encL a).length) ∧ Below B w wr
/-- Inside a round. -/
def QW (B K : Nat) (s : ByteArray) (w : World) (a : List Int) (n : Int) (wx : World) : Prop :=
  Lib.IsBuilderF 128 5 B B (Lib.byteCells (34 :: escL a)) wx ∧ wx.heap[K]? = some (.stringIter s (encL (a ++ [n])).length) ∧ Below B w wx
theorem QW.alloc {B K : Nat} {s : ByteArray} {w : World} {a : List Int} {n : Int} {wx : World} (h : QW B K s w a n wx) (hB : B ≤ w.heap.size) (o : Obj) : QW B K s w a n (wx.alloc o) :=
  ⟨h.1.alloc o, (Lib.alloc_old wx o K (Array.getElem?_eq_some_iff.1 h.2.1).1).trans h.2.1, h.2.2.alloc (Nat.le_trans hB h.2.2.size) o⟩
/-- The round's end. -/
theorem QI_step {B K : Nat} {s : ByteArray} {w wx w2 : World} {sl a b : List Int} {n : Int} {x : List UInt8} (h : QW B K s w a n wx) (hsl : sl = a ++ n :: b) (hx : esc n = x)
    (hI : Lib.IsBuilderF 128 5 B B (Lib.byteCells (34 :: escL a) ++ Lib.byteCells x) w2) (hb : Below B wx w2) (hk : Lib.OthersKept 5 (some B) wx w2) (hKB : K ≠ B) {g : Nat} (hg : (n :: b).length = g + 1) : QI B K s w sl g w2 := by
  refine ⟨a ++ [n], b, by rw [hsl]; simp, by simpa using hg, ?_, hk.iter h.2.1 hKB, h.2.2.trans hb⟩
  rw [escL_append, escL_one, hx, ← List.cons_append, Lib.byteCells_append]
  exact hI
/-- A block that is no row of bytes' stands behind a writer's call. -/
theorem kept_new {wr w2 : World} {B : Nat} {cs : Array Value} {T : TypeId} {fz : Nat × Nat} (k : Lib.OthersKept 5 (some B) (wr.alloc (.cells cs T fz)) w2) (hT : T ≠ 5) (hB : wr.heap.size ≠ B) : w2.heap[wr.heap.size]? = some (.cells cs T fz) :=
  k wr.heap.size _ (heap_alloc_new wr _) (fun e => hB (Option.some.inj e)) (fun c f e => by cases e; exact hT rfl)
theorem tab_below {B : Nat} {w wx : World} {t : TypeId} {fr : Nat × Nat} (h : w.heap[0]? = some (.cells escCells t fr)) (hb : Below B w wx) (hB : 0 < B) : wx.heap[0]? = some (.cells escCells t fr) := (hb.block 0 hB).trans h

set_option maxHeartbeats 4000000 in
set_option maxRecDepth 1000000 in
theorem quote_any (s : ByteArray) (sl : List Int) (w : World) (hs : s.data.toList = encL sl) (ha : AllS sl) (hsz : s.size ≤ 4294967296) (t : TypeId) (fr : Nat × Nat) (htab : w.heap[0]? = some (.cells escCells t fr)) :
    Calls Tryd.prog 41 #[.string s] w fun e w' => e = .returned (.string ⟨(quoteL sl).toArray⟩) ∧ Below w.heap.size w w' := by
  have hsl : sl.length ≤ 4294967296 := by have := encL_len sl; rw [len_of s _ hs] at hsz; omega
  have HS := Lib.hid hs
  have HA := Lib.hid ha
  have HT := Lib.hid htab
  have hlt0 : 0 < w.heap.size := (Array.getElem?_eq_some_iff.1 htab).1
  clear hs ha htab
  go_enter Tryd.func41, Tryd.ntmps41
  go_wp2
  go_step3
  go_wp2_with (go_at_call 72; refine (Tryd.Builder_WriteByte_k w.heap.size w.heap.size [] 34 _ (Lib.IsBuilderF.of (Lib.fresh_isBuilder 128 5 w)) (by simp) (by simp)).mono ?_; rintro e w1 ⟨rfl, h1, b1, k1⟩)
  go_step3
  go_wp2
  have hK : w.heap.size < w1.heap.size := by have := b1.size; simp at this; omega
  go_loopg [] sl.length (fun g wr => QI w.heap.size w1.heap.size s w sl g wr)
  case atStart =>
    refine ⟨[], sl, rfl, rfl, (Lib.IsBuilderF.alloc (.inr h1) _), World.iter_heap _ _ _, ?_⟩
    exact (((Below.refl _ w).alloc (Nat.le_refl _) _).trans b1).alloc (by omega) _
  case round =>
    clear h1 b1 k1
    obtain ⟨a, b, hab, hbl, hI, hit, hbw⟩ := hrel
    have hea : (escL a).length ≤ 6 * 4294967296 := by have := escL_len a; have := congrArg List.length hab; simp at this; omega
    cases gk with
    | zero =>
      obtain rfl : b = [] := List.length_eq_zero_iff.1 hbl
      rw [List.append_nil] at hab
      have hnx : ∀ ty, (Instr.next (.pointer (some ⟨w1.heap.size, 0, none⟩)) true ty).run Tryd.prog wr = _ := fun ty => next_done wr w1.heap.size s a (by rw [HS.out, hab]) hit ty
      have HAB := Lib.hid hab
      clear hab hit
      go_wp2_with (first
        | (go_at_call 72; refine (Tryd.Builder_WriteByte_k w.heap.size w.heap.size _ 34 _ hI (by rw [Lib.byteCells_length]; simp; omega) hbw.size).mono ?_; rintro e w2 ⟨rfl, h2, b2, k2⟩)
        | (go_at_call 73; refine (Tryd.Builder_String_any_k w.heap.size w.heap.size (quoteL a) _ (.inr (by have := h2; rw [show Lib.byteCells (quoteL a) = Lib.byteCells (34 :: escL a) ++ [Value.int .u8 34] by unfold quoteL; rw [Lib.byteCells_append]; rfl]; exact this)) (by have := b2.size; have := hbw.size; omega)).mono ?_; rintro e w3 ⟨rfl, h3, b3, k3⟩))
      rw [Exit.noGoto_ret]
      go_ret
      exact ⟨by rw [HAB.out]; rfl, (hbw.trans b2).trans b3⟩
    | succ g =>
      obtain ⟨n, b', rfl⟩ : ∃ n b', b = n :: b' := by
        match b, hbl with
        | n :: b', _ => exact ⟨n, b', rfl⟩
      have hn : sgn n = true := HA.out n (by rw [hab]; simp)
      have hnx : ∀ ty, (Instr.next (.pointer (some ⟨w1.heap.size, 0, none⟩)) true ty).run Tryd.prog wr = _ := fun ty => next_sign wr w1.heap.size s a n (encL b') (by rw [HS.out, hab, encL_append, encL_cons]) hn hit ty
      obtain ⟨W, hW⟩ : ∃ W, W = wr.iterAt w1.heap.size s (encL (a ++ [n])).length := ⟨_, rfl⟩
      rw [← hW] at hnx
      have hQW : QW w.heap.size w1.heap.size s w a n W := by
        rw [hW]
        exact ⟨hI.iterAt hit _, Lib.iterAt_heap _ _ _ _ _ hit, Lib.below_iterAt hbw (by omega) _ _⟩
      have HAB := Lib.hid hab
      have HN := Lib.hid ((sgn_iff n).1 hn)
      have HBL := Lib.hid hbl
      clear hW hI hit hbw hab hn hbl
      have htW : W.heap[0]? = some (.cells escCells t fr) := tab_below HT.out hQW.2.2 hlt0
      go_wp2_with (with_reducible refine wpList_load_row rfl 138 (.global 0) rfl 0 rfl t escCells fr _ htW Tryd.underlying138 rfl (by kernel_rfl) ?_)
      have HQ := Lib.hid hQW
      clear hnx hQW htW
      go_loopg [15] 7 (fun g2 i wx => ∃ j : Int, 0 ≤ j ∧ j + g2 = 7 ∧ i = .int .i64 j ∧ Hid (tabNot n j) ∧ QW w.heap.size w1.heap.size s w a n wx)
      case atStart => exact ⟨0, by omega, by omega, rfl, Lib.hid (by unfold tabNot; omega), HQ.out⟩
      case round =>
        obtain ⟨j, hj0, hj, rfl, HTN, hqw⟩ := hrel
        have hlen : (Lib.byteCells (34 :: escL a)).length ≤ 6 * 4294967296 + 1 := by rw [Lib.byteCells_length]; simp; omega
        have hwr : w1.heap.size < wr.heap.size := (Array.getElem?_eq_some_iff.1 hqw.2.1).1
        obtain rfl | rfl | rfl | rfl | rfl | rfl | rfl | rfl : j = 0 ∨ j = 1 ∨ j = 2 ∨ j = 3 ∨ j = 4 ∨ j = 5 ∨ j = 6 ∨ j = 7 := by omega
        · have hix : ∀ w', (Instr.index 138 (.agg escCells) (.int .i64 0)).run Tryd.prog w' = .ok (.agg #[.int .i32 116, .int .i32 9]) w' := fun _ => by kernel_rfl
          by_cases hc : n = 9
          · have hcB : (n == 9) = true := by simpa using hc
            have HC := Lib.hid hc
            clear hc
            go_wp2_with (first
              | (go_at_call 72; refine (Tryd.Builder_WriteByte_k w.heap.size w.heap.size _ 92 _ (hqw.alloc (Nat.le_refl _) _).1 (by omega) (hqw.alloc (Nat.le_refl _) _).2.2.size).mono ?_; rintro e w2 ⟨rfl, h2, b2, k2⟩; have c2 : w2.cell? ⟨wr.heap.size, 0, none⟩ = some (.int .i32 116) := by rw [Lib.cell_of_heap (kept_new k2 (by decide) (by omega))]; rfl)
              | (go_at_call 76; refine (Tryd.Builder_WriteRune_k w.heap.size w.heap.size _ 116 (by omega) (by omega) _ (.inr h2) (by simp; omega) (by have := b2.size; simp at this; omega)).mono ?_; rintro e w3 ⟨rfl, h3, b3, k3⟩))
            go_roundg g
            case measure => omega
            case rel => exact QI_step (x := [92, 116]) (hqw.alloc (Nat.le_refl _) _) HAB.out (by rw [HC.out]; rfl) (.inr (by rw [show Lib.byteCells [92, 116] = [Value.int .u8 92] ++ Lib.runeCells 116 from rfl, ← List.append_assoc]; exact h3)) (b2.trans b3) (k2.trans k3) (by omega) HBL.out
          · have hcB : (n == 9) = false := by simpa using hc
            have HC := Lib.hid hc
            clear hc
            go_wp2
            go_roundg (gk - 1)
            case measure => omega
            case rel => exact ⟨1, by omega, by omega, rfl, Lib.hid (by have := HTN.out; have := HC.out; unfold tabNot at *; omega), hqw.alloc (Nat.le_refl _) _⟩
        · have hix : ∀ w', (Instr.index 138 (.agg escCells) (.int .i64 1)).run Tryd.prog w' = .ok (.agg #[.int .i32 110, .int .i32 10]) w' := fun _ => by kernel_rfl
          by_cases hc : n = 10
          · have hcB : (n == 10) = true := by simpa using hc
            have HC := Lib.hid hc
            clear hc
            go_wp2_with (first
              | (go_at_call 72; refine (Tryd.Builder_WriteByte_k w.heap.size w.heap.size _ 92 _ (hqw.alloc (Nat.le_refl _) _).1 (by omega) (hqw.alloc (Nat.le_refl _) _).2.2.size).mono ?_; rintro e w2 ⟨rfl, h2, b2, k2⟩; have c2 : w2.cell? ⟨wr.heap.size, 0, none⟩ = some (.int .i32 110) := by rw [Lib.cell_of_heap (kept_new k2 (by decide) (by omega))]; rfl)
              | (go_at_call 76; refine (Tryd.Builder_WriteRune_k w.heap.size w.heap.size _ 110 (by omega) (by omega) _ (.inr h2) (by simp; omega) (by have := b2.size; simp at this; omega)).mono ?_; rintro e w3 ⟨rfl, h3, b3, k3⟩))
            go_roundg g
            case measure => omega
            case rel => exact QI_step (x := [92, 110]) (hqw.alloc (Nat.le_refl _) _) HAB.out (by rw [HC.out]; rfl) (.inr (by rw [show Lib.byteCells [92, 110] = [Value.int .u8 92] ++ Lib.runeCells 110 from rfl, ← List.append_assoc]; exact h3)) (b2.trans b3) (k2.trans k3) (by omega) HBL.out
          · have hcB : (n == 10) = false := by simpa using hc
            have HC := Lib.hid hc
            clear hc
            go_wp2
            go_roundg (gk - 1)
            case measure => omega
            case rel => exact ⟨2, by omega, by omega, rfl, Lib.hid (by have := HTN.out; have := HC.out; unfold tabNot at *; omega), hqw.alloc (Nat.le_refl _) _⟩
        · have hix : ∀ w', (Instr.index 138 (.agg escCells) (.int .i64 2)).run Tryd.prog w' = .ok (.agg #[.int .i32 114, .int .i32 13]) w' := fun _ => by kernel_rfl
          by_cases hc : n = 13
          · have hcB : (n == 13) = true := by simpa using hc
            have HC := Lib.hid hc
            clear hc
            go_wp2_with (first
              | (go_at_call 72; refine (Tryd.Builder_WriteByte_k w.heap.size w.heap.size _ 92 _ (hqw.alloc (Nat.le_refl _) _).1 (by omega) (hqw.alloc (Nat.le_refl _) _).2.2.size).mono ?_; rintro e w2 ⟨rfl, h2, b2, k2⟩; have c2 : w2.cell? ⟨wr.heap.size, 0, none⟩ = some (.int .i32 114) := by rw [Lib.cell_of_heap (kept_new k2 (by decide) (by omega))]; rfl)
              | (go_at_call 76; refine (Tryd.Builder_WriteRune_k w.heap.size w.heap.size _ 114 (by omega) (by omega) _ (.inr h2) (by simp; omega) (by have := b2.size; simp at this; omega)).mono ?_; rintro e w3 ⟨rfl, h3, b3, k3⟩))
            go_roundg g
            case measure => omega
            case rel => exact QI_step (x := [92, 114]) (hqw.alloc (Nat.le_refl _) _) HAB.out (by rw [HC.out]; rfl) (.inr (by rw [show Lib.byteCells [92, 114] = [Value.int .u8 92] ++ Lib.runeCells 114 from rfl, ← List.append_assoc]; exact h3)) (b2.trans b3) (k2.trans k3) (by omega) HBL.out
          · have hcB : (n == 13) = false := by simpa using hc
            have HC := Lib.hid hc
            clear hc
            go_wp2
            go_roundg (gk - 1)
            case measure => omega
            case rel => exact ⟨3, by omega, by omega, rfl, Lib.hid (by have := HTN.out; have := HC.out; unfold tabNot at *; omega), hqw.alloc (Nat.le_refl _) _⟩
        · have hix : ∀ w', (Instr.index 138 (.agg escCells) (.int .i64 3)).run Tryd.prog w' = .ok (.agg #[.int .i32 98, .int .i32 8]) w' := fun _ => by kernel_rfl
          by_cases hc : n = 8
          · have hcB : (n == 8) = true := by simpa using hc
            have HC := Lib.hid hc
            clear hc
            go_wp2_with (first
              | (go_at_call 72; refine (Tryd.Builder_WriteByte_k w.heap.size w.heap.size _ 92 _ (hqw.alloc (Nat.le_refl _) _).1 (by omega) (hqw.alloc (Nat.le_refl _) _).2.2.size).mono ?_; rintro e w2 ⟨rfl, h2, b2, k2⟩; have c2 : w2.cell? ⟨wr.heap.size, 0, none⟩ = some (.int .i32 98) := by rw [Lib.cell_of_heap (kept_new k2 (by decide) (by omega))]; rfl)
              | (go_at_call 76; refine (Tryd.Builder_WriteRune_k w.heap.size w.heap.size _ 98 (by omega) (by omega) _ (.inr h2) (by simp; omega) (by have := b2.size; simp at this; omega)).mono ?_; rintro e w3 ⟨rfl, h3, b3, k3⟩))
            go_roundg g
            case measure => omega
            case rel => exact QI_step (x := [92, 98]) (hqw.alloc (Nat.le_refl _) _) HAB.out (by rw [HC.out]; rfl) (.inr (by rw [show Lib.byteCells [92, 98] = [Value.int .u8 92] ++ Lib.runeCells 98 from rfl, ← List.append_assoc]; exact h3)) (b2.trans b3) (k2.trans k3) (by omega) HBL.out
          · have hcB : (n == 8) = false := by simpa using hc
            have HC := Lib.hid hc
            clear hc
            go_wp2
            go_roundg (gk - 1)
            case measure => omega
            case rel => exact ⟨4, by omega, by omega, rfl, Lib.hid (by have := HTN.out; have := HC.out; unfold tabNot at *; omega), hqw.alloc (Nat.le_refl _) _⟩
        · have hix : ∀ w', (Instr.index 138 (.agg escCells) (.int .i64 4)).run Tryd.prog w' = .ok (.agg #[.int .i32 102, .int .i32 12]) w' := fun _ => by kernel_rfl
          by_cases hc : n = 12
          · have hcB : (n == 12) = true := by simpa using hc
            have HC := Lib.hid hc
            clear hc
            go_wp2_with (first
              | (go_at_call 72; refine (Tryd.Builder_WriteByte_k w.heap.size w.heap.size _ 92 _ (hqw.alloc (Nat.le_refl _) _).1 (by omega) (hqw.alloc (Nat.le_refl _) _).2.2.size).mono ?_; rintro e w2 ⟨rfl, h2, b2, k2⟩; have c2 : w2.cell? ⟨wr.heap.size, 0, none⟩ = some (.int .i32 102) := by rw [Lib.cell_of_heap (kept_new k2 (by decide) (by omega))]; rfl)
              | (go_at_call 76; refine (Tryd.Builder_WriteRune_k w.heap.size w.heap.size _ 102 (by omega) (by omega) _ (.inr h2) (by simp; omega) (by have := b2.size; simp at this; omega)).mono ?_; rintro e w3 ⟨rfl, h3, b3, k3⟩))
            go_roundg g
            case measure => omega
            case rel => exact QI_step (x := [92, 102]) (hqw.alloc (Nat.le_refl _) _) HAB.out (by rw [HC.out]; rfl) (.inr (by rw [show Lib.byteCells [92, 102] = [Value.int .u8 92] ++ Lib.runeCells 102 from rfl, ← List.append_assoc]; exact h3)) (b2.trans b3) (k2.trans k3) (by omega) HBL.out
          · have hcB : (n == 12) = false := by simpa using hc
            have HC := Lib.hid hc
            clear hc
            go_wp2
            go_roundg (gk - 1)
            case measure => omega
            case rel => exact ⟨5, by omega, by omega, rfl, Lib.hid (by have := HTN.out; have := HC.out; unfold tabNot at *; omega), hqw.alloc (Nat.le_refl _) _⟩
        · have hix : ∀ w', (Instr.index 138 (.agg escCells) (.int .i64 5)).run Tryd.prog w' = .ok (.agg #[.int .i32 34, .int .i32 34]) w' := fun _ => by kernel_rfl
          by_cases hc : n = 34
          · have hcB : (n == 34) = true := by simpa using hc
            have HC := Lib.hid hc
            clear hc
            go_wp2_with (first
              | (go_at_call 72; refine (Tryd.Builder_WriteByte_k w.heap.size w.heap.size _ 92 _ (hqw.alloc (Nat.le_refl _) _).1 (by omega) (hqw.alloc (Nat.le_refl _) _).2.2.size).mono ?_; rintro e w2 ⟨rfl, h2, b2, k2⟩; have c2 : w2.cell? ⟨wr.heap.size, 0, none⟩ = some (.int .i32 34) := by rw [Lib.cell_of_heap (kept_new k2 (by decide) (by omega))]; rfl)
              | (go_at_call 76; refine (Tryd.Builder_WriteRune_k w.heap.size w.heap.size _ 34 (by omega) (by omega) _ (.inr h2) (by simp; omega) (by have := b2.size; simp at this; omega)).mono ?_; rintro e w3 ⟨rfl, h3, b3, k3⟩))
            go_roundg g
            case measure => omega
            case rel => exact QI_step (x := [92, 34]) (hqw.alloc (Nat.le_refl _) _) HAB.out (by rw [HC.out]; rfl) (.inr (by rw [show Lib.byteCells [92, 34] = [Value.int .u8 92] ++ Lib.runeCells 34 from rfl, ← List.append_assoc]; exact h3)) (b2.trans b3) (k2.trans k3) (by omega) HBL.out
          · have hcB : (n == 34) = false := by simpa using hc
            have HC := Lib.hid hc
            clear hc
            go_wp2
            go_roundg (gk - 1)
            case measure => omega
            case rel => exact ⟨6, by omega, by omega, rfl, Lib.hid (by have := HTN.out; have := HC.out; unfold tabNot at *; omega), hqw.alloc (Nat.le_refl _) _⟩
        · have hix : ∀ w', (Instr.index 138 (.agg escCells) (.int .i64 6)).run Tryd.prog w' = .ok (.agg #[.int .i32 92, .int .i32 92]) w' := fun _ => by kernel_rfl
          by_cases hc : n = 92
          · have hcB : (n == 92) = true := by simpa using hc
            have HC := Lib.hid hc
            clear hc
            go_wp2_with (first
              | (go_at_call 72; refine (Tryd.Builder_WriteByte_k w.heap.size w.heap.size _ 92 _ (hqw.alloc (Nat.le_refl _) _).1 (by omega) (hqw.alloc (Nat.le_refl _) _).2.2.size).mono ?_; rintro e w2 ⟨rfl, h2, b2, k2⟩; have c2 : w2.cell? ⟨wr.heap.size, 0, none⟩ = some (.int .i32 92) := by rw [Lib.cell_of_heap (kept_new k2 (by decide) (by omega))]; rfl)
              | (go_at_call 76; refine (Tryd.Builder_WriteRune_k w.heap.size w.heap.size _ 92 (by omega) (by omega) _ (.inr h2) (by simp; omega) (by have := b2.size; simp at this; omega)).mono ?_; rintro e w3 ⟨rfl, h3, b3, k3⟩))
            go_roundg g
            case measure => omega
            case rel => exact QI_step (x := [92, 92]) (hqw.alloc (Nat.le_refl _) _) HAB.out (by rw [HC.out]; rfl) (.inr (by rw [show Lib.byteCells [92, 92] = [Value.int .u8 92] ++ Lib.runeCells 92 from rfl, ← List.append_assoc]; exact h3)) (b2.trans b3) (k2.trans k3) (by omega) HBL.out
          · have hcB : (n == 92) = false := by simpa using hc
            have HC := Lib.hid hc
            clear hc
            go_wp2
            go_roundg (gk - 1)
            case measure => omega
            case rel => exact ⟨7, by omega, by omega, rfl, Lib.hid (by have := HTN.out; have := HC.out; unfold tabNot at *; omega), hqw.alloc (Nat.le_refl _) _⟩
        · have HLT := Lib.hid (tabNot_lett n HTN.out)
          obtain ⟨n0, n1, n2⟩ := HN.out
          have hbw := hqw.2.2.size
          by_cases hc : cls n = 4
          · have hcB : (cls n == 4) = true := by simpa using hc
            have HC := Lib.hid hc
            have hn160 : n < 160 := by unfold cls at hc; omega
            clear hc
            go_wp2_with (first
              | (go_at_call 47; refine (class_any n _).mono ?_; rintro e w' ⟨rfl, rfl⟩)
              | (go_at_call 77; refine (wnum_any w.heap.size w.heap.size _ n n0 hn160 _ hqw.1 (by omega) hbw).mono ?_; rintro e w2 ⟨rfl, h2, b2, k2⟩))
            go_roundg g
            case measure => omega
            case rel => exact QI_step hqw HAB.out (by unfold esc; rw [if_neg (by simp [HLT.out]), if_pos HC.out]) h2 b2 k2 (by omega) HBL.out
          · have hcB : (cls n == 4) = false := by simpa using hc
            have HC := Lib.hid hc
            clear hc
            go_wp2_with (first
              | (go_at_call 47; refine (class_any n _).mono ?_; rintro e w' ⟨rfl, rfl⟩)
              | (go_at_call 76; refine (Tryd.Builder_WriteRune_k w.heap.size w.heap.size _ n (by omega) (by omega) _ hqw.1 (by omega) hbw).mono ?_; rintro e w2 ⟨rfl, h2, b2, k2⟩))
            go_roundg g
            case measure => omega
            case rel => exact QI_step hqw HAB.out (by unfold esc; rw [if_neg (by simp [HLT.out]), if_neg HC.out]) (.inr (by rw [Lib.byteCells_encodeRune]; exact h2)) b2 k2 (by omega) HBL.out

end Go.Proofs.YtjalhcbomjgkoaaDoor
