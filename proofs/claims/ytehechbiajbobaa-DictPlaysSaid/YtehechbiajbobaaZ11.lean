/-
  MERGED (a claim has at most 60 files): DFind, NArg, Quote, QuoteB, Kit, Esc.
-/
import Derived.Test.YtehechbiajbobaaZ01
import Derived.Test.YtehechbiajbobaaZ10
import Derived.Test.YtehechbiajbobaaZ00
import Derived.Test.YtehechbiajbobaaRows
import Derived.WalkKit
import Derived.ProofKit
import Derived.OpenShut
import Derived.Deep.Slices
import Derived.Lib.SmallJoins
import Derived.Test.YtehechbiajbobaaZ02
import Derived.Test.YtehechbiajbobaaZ04
import Derived.Deep.DeepHandedRow
import Derived.Lib.LaidTab
import Derived.MakeChecks
import Derived.Deep.LoopGhost
import Derived.BigCall
import Derived.Laws.Rows
import Derived.Test.YtehechbiajbobaaZ05
/-
  A DICTIONARY's CALLS: Put, Find: of any term.
-/
namespace Go.Proofs.Ytehechbiajbobaa
open Go.RowKit
set_option linter.unusedVariables false
set_option linter.unusedSimpArgs false
set_option maxRecDepth 100000

theorem d_good_kind {t : Tm} (h : goodT t = true) : t.kind < 3 := by cases t <;> simp_all [Tm.kind, goodT]
/-- A term put. -/
noncomputable def putP (room : Int) (L : List Tm) (t : Tm) : List Tm × Int × Int := if goodT t = true then putG room L t else (L, 0, 3)
/-- Its number. -/
noncomputable def findP (L : List Tm) (t : Tm) : Option Nat := if goodT t = true then nm t L else none
theorem putP_len {room : Int} {L : List Tm} {t : Tm} : (putP room L t).1.length ≤ L.length + 1 := by
  unfold putP
  split
  · exact putG_len.2
  · exact Nat.le_succ _
section
variable {B d m : Nat} {room : Int} {v : Value} {L : List Tm}
set_option maxHeartbeats 4000000 in
theorem dput_any {W : World} (h : Dc B d m room v L W) (hB : B ≤ W.heap.size) (hl : L.length ≤ 100000) (t : Tm) (hz : t.few) :
    Calls Try.prog 10 #[.pointer (some ⟨d, 0, none⟩), t.val] W (PutPost B d m room v W (putP room L t)) := by
  have cG := goodT_any t hz W
  unfold putP
  cases hg : goodT t with
  | false =>
    rw [hg] at cG
    rw [if_neg (by decide)]
    obtain ⟨tv, htv⟩ : ∃ x, x = t.val := ⟨_, rfl⟩
    rw [← htv] at cG ⊢
    have HD := Lib.hid h
    clear h htv hg hl hz hB
    go_enter Try.func10, Try.ntmps10
    go_wp2_with (go_at_call 27; (with_reducible refine cG.mono ?_); rintro e w1 ⟨rfl, hb1⟩)
    go_ret2
    exact ⟨_, rfl, HD.out.below hb1, Tn.of hb1⟩
  | true =>
    rw [hg] at cG
    rw [if_pos rfl]
    have cP : ∀ {w1 : World}, Below W.heap.size W w1 → Calls Try.prog 28 #[.pointer (some ⟨d, 0, none⟩), t.val] w1 (PutPost B d m room v w1 (putG room L t)) := fun {w1} hb => dputGood_any (h.below hb) (Nat.le_trans hB hb.size) hl t (d_good_kind hg)
    obtain ⟨tv, htv⟩ : ∃ x, x = t.val := ⟨_, rfl⟩
    rw [← htv] at cG cP ⊢
    obtain ⟨r, hr⟩ : ∃ r, r = putG room L t := ⟨_, rfl⟩
    rw [← hr] at cP ⊢
    obtain ⟨r1, r2, r3⟩ := r
    clear h htv hg hl hz hB hr
    go_enter Try.func10, Try.ntmps10
    go_wp2_with (first
      | (go_at_call 27; (with_reducible refine cG.mono ?_); rintro e w1 ⟨rfl, hb1⟩)
      | (go_at_call 28; (with_reducible refine (cP hb1).mono ?_); rintro e w2 ⟨v2, rfl, hD2, hT2⟩))
    go_ret2
    exact ⟨_, rfl, hD2, (Tn.of hb1).trans hT2⟩
/-- Its number, or none. -/
def numI : Option Nat → Int
  | some j => j
  | none => 0
def numE : Option Nat → Int
  | some _ => 0
  | none => 4
set_option maxHeartbeats 4000000 in
theorem dfind_any {W : World} (h : Dc B d m room v L W) (hl : L.length ≤ 100000) (t : Tm) (hz : t.few) :
    Calls Try.prog 11 #[.pointer (some ⟨d, 0, none⟩), t.val] W fun e w' => e = .returned (.tuple #[.int .i64 (numI (findP L t)), .int .i64 (numE (findP L t))]) ∧ Below W.heap.size W w' := by
  have cG := goodT_any t hz W
  unfold findP
  cases hg : goodT t with
  | false =>
    rw [hg] at cG
    rw [if_neg (by decide)]
    obtain ⟨tv, htv⟩ : ∃ x, x = t.val := ⟨_, rfl⟩
    rw [← htv] at cG ⊢
    unfold numI numE
    clear h htv hg hl hz
    go_enter Try.func11, Try.ntmps11
    go_wp2_with (go_at_call 27; (with_reducible refine cG.mono ?_); rintro e w1 ⟨rfl, hb1⟩)
    go_ret2
    exact ⟨rfl, hb1⟩
  | true =>
    rw [hg] at cG
    rw [if_pos rfl]
    have ht := d_good_kind hg
    have hK := fun (w1 : World) (hb : Below W.heap.size W w1) => (h.below hb).look t ht
    have hC := fun (w1 : World) (hb : Below W.heap.size W w1) => (h.below hb).cells
    obtain ⟨ty, x, hv⟩ := val_iface t ht
    rw [hv] at cG hK ⊢
    have HK := Lib.hid hK
    have HC := Lib.hid hC
    clear h hg hl hz ht hK hC
    cases hn : nm t L with
    | none =>
      have HN := Lib.hid hn
      unfold numI numE
      clear hn
      go_enter Try.func11, Try.ntmps11
      go_wp2_with (go_at_call 27; (with_reducible refine cG.mono ?_); rintro e w1 ⟨rfl, hb1⟩; have hlk := HK.out _ hb1; rw [HN.out] at hlk; dsimp only [Option.isSome] at hlk; obtain ⟨c0, c1, c2⟩ := HC.out _ hb1)
      go_ret2
      exact ⟨rfl, hb1⟩
    | some j =>
      have HN := Lib.hid hn
      unfold numI numE
      clear hn
      go_enter Try.func11, Try.ntmps11
      go_wp2_with (go_at_call 27; (with_reducible refine cG.mono ?_); rintro e w1 ⟨rfl, hb1⟩; have hlk := HK.out _ hb1; rw [HN.out] at hlk; dsimp only [Option.isSome] at hlk; obtain ⟨c0, c1, c2⟩ := HC.out _ hb1)
      go_ret2
      exact ⟨rfl, hb1⟩
end
end Go.Proofs.Ytehechbiajbobaa

/-
  A SLICE AS THE CALL GETS IT, CELL BY CELL; terms and triples of the document's, as they come.
-/
namespace Go.Proofs.Ytehechbiajbobaa
open Go.ChangeShapes Go.WideShapes Go.ChangeAt Go.RowKit
set_option linter.unusedVariables false
set_option maxRecDepth 100000

/-- A slice's elements, n cells each. -/
def SlAt (W : World) (A : Option Addr) (n : Nat) (l : List (List Value)) : Prop := ∀ (j : Nat) (cs : List Value), l[j]? = some cs → ∃ g o, A = some ⟨g, o, none⟩ ∧ g < W.heap.size ∧ ∀ (i : Nat) (v : Value), cs[i]? = some v → W.cell? ⟨g, o + j * n + i, none⟩ = some v
theorem SlAt.below {W W' : World} {A : Option Addr} {n : Nat} {l : List (List Value)} (h : SlAt W A n l) (hb : Below W.heap.size W W') : SlAt W' A n l := fun j cs hj => by
  obtain ⟨g, o, e, hg, hc⟩ := h j cs hj
  exact ⟨g, o, e, Nat.lt_of_lt_of_le hg hb.size, fun i v hv => (hb.cell (p := ⟨g, o + j * n + i, none⟩) hg).trans (hc i v hv)⟩
theorem at_add (g o j : Nat) : (⟨g, o, none⟩ : Addr).add j = ⟨g, o + j, none⟩ := by
  by_cases h : j = 0
  · subst h; simp [Addr.add]
  · simp [Addr.add, h]
theorem cells_map {α : Type} {p : α → Prop} {f : α → List Value} : ∀ l : List (List Value), (∀ cs ∈ l, ∃ t, p t ∧ cs = f t) → ∃ ts : List α, l = ts.map f ∧ ∀ t ∈ ts, p t
  | [], _ => ⟨[], rfl, fun t h => by cases h⟩
  | c :: l, h => by
    obtain ⟨t, h1, h2⟩ := h c List.mem_cons_self
    obtain ⟨ts, h3, h4⟩ := cells_map l fun cs hc => h cs (List.mem_cons_of_mem _ hc)
    refine ⟨t :: ts, by rw [h2, h3]; rfl, fun u hu => ?_⟩
    rcases List.mem_cons.1 hu with rfl | hu
    · exact h1
    · exact h4 u hu
section
variable {H : Type} {enc : TypeId × Value → H} {W : World}
theorem slice_opened {t e : TypeId} {n0 : Nat} {fuel : Nat} {v : Value} {y : DataW H × List MemPlace} (ht : Try.prog.underlying t = some (.slice e)) (hn : Try.prog.cellsOf e = n0) (hpos : 0 < n0)
    (h : DataW.trod enc Try.prog W 0 (fun _ => true) true fuel t [v] = some y) (hlt : ∀ z ∈ y.2, z.block < W.heap.size) :
    ∃ A l cap, v = .slice A (List.length (α := List Value) l) cap ∧ l.length ≤ cap ∧ cap ≤ maxLen ∧ SlAt W A n0 l ∧ ∀ cs ∈ l, ∃ fu z, DataW.trod enc Try.prog W 0 (fun _ => true) true fu e cs = some z := by
  rcases Go.Deep.open_slice ht h with ⟨hcs, hx⟩ | ⟨a, len, cap, m, n, D, Pl, hcs, _, hl, hm, hmm, hx, hi⟩
  · simp at hcs
    exact ⟨none, [], 0, hcs, Nat.le_refl _, by decide, fun j x hx => by simp at hx, fun cs h => by cases h⟩
  · simp at hcs
    simp only [if_true] at hmm
    rw [hn] at hx hi
    subst hmm
    by_cases h0 : len = 0
    · subst h0
      exact ⟨some a, [], m, hcs, by simp, hm, fun j x hx => by simp at hx, fun cs h => by cases h⟩
    · obtain ⟨g, o, spot⟩ := a
      obtain ⟨cs0, hc0, _⟩ := hi 0 (by omega)
      have hz := (World.cells?_some hc0).2.2 0 hpos
      have hl0 := (World.cells?_some hc0).2.1
      obtain ⟨u, hu⟩ : ∃ u, cs0[0]? = some u := ⟨_, List.getElem?_eq_getElem (by omega)⟩
      rw [hu] at hz
      have hspot : spot = none := by simpa [Addr.add] using World.cell?_spot hz
      subst hspot
      have hg : g < W.heap.size := hlt (.cell g o) (by rw [hx]; exact List.mem_append_left _ (MemPlace.mem_row.2 ⟨0, Nat.mul_pos (by omega) hpos, by simp⟩))
      have each : ∀ i, i < len → ∃ cs, (∀ (d : Nat) (v : Value), cs[d]? = some v → W.cell? ⟨g, o + i * n0 + d, none⟩ = some v) ∧ ∃ z, DataW.trod enc Try.prog W 0 (fun _ => true) true n e cs = some z := fun i him => by
        obtain ⟨cs', hc', ht'⟩ := hi i (by omega)
        rw [at_add] at hc'
        have hcl := (World.cells?_some hc').2.1
        refine ⟨cs', fun d v hv => ?_, _, ht'⟩
        have hd := (List.getElem?_eq_some_iff.1 hv).1
        have := (World.cells?_some hc').2.2 d (by omega)
        rw [at_add] at this
        rw [this, hv]
      obtain ⟨V, hV⟩ := Go.Deep.choose_lt (α := List Value) (p := fun i cs => (∀ (d : Nat) (v : Value), cs[d]? = some v → W.cell? ⟨g, o + i * n0 + d, none⟩ = some v) ∧ ∃ z, DataW.trod enc Try.prog W 0 (fun _ => true) true n e cs = some z) each
      refine ⟨some ⟨g, o, none⟩, (List.range len).map V, m, by rw [hcs]; simp, by simpa using hl, hm, fun j a ha => ?_, fun cs hcs => ?_⟩
      · have hj : j < len := by have := (List.getElem?_eq_some_iff.1 ha).1; simpa using this
        refine ⟨g, o, rfl, hg, ?_⟩
        rw [List.getElem?_map, List.getElem?_range hj] at ha
        obtain rfl : V j = a := by simpa using ha
        exact (hV j hj).1
      · obtain ⟨i, hi, rfl⟩ := List.mem_map.1 hcs
        exact ⟨n, (hV i (List.mem_range.1 hi)).2⟩
end
/-! ### Terms and triples -/
structure Dw where
  k : Int
  a : ByteArray
  b : ByteArray
  c : ByteArray
def Dw.ok (r : Dw) : Prop := (-9223372036854775808 ≤ r.k ∧ r.k ≤ 9223372036854775807) ∧ r.a.size ≤ maxLen ∧ r.b.size ≤ maxLen ∧ r.c.size ≤ maxLen
def Dw.cells (r : Dw) : List Value := [.int .i64 r.k, .string r.a, .string r.b, .string r.c]
structure Dt where
  s : Dw
  p : Dw
  o : Dw
def Dt.ok (t : Dt) : Prop := t.s.ok ∧ t.p.ok ∧ t.o.ok
def Dt.cells (t : Dt) : List Value := t.s.cells ++ (t.p.cells ++ t.o.cells)
theorem cellsT_four : Try.prog.cellsOf 32 = 4 := by kernel_rfl
theorem cellsR_twelve : Try.prog.cellsOf 34 = 12 := by kernel_rfl
section
variable {H : Type} {enc : TypeId × Value → H} {W : World}
set_option maxRecDepth 100000 in
theorem rw_opened {fuel : Nat} {cs : List Value} {z : DataW H × List MemPlace} (h : DataW.trod enc Try.prog W 0 (fun _ => true) true fuel 32 cs = some z) : ∃ r : Dw, r.ok ∧ cs = r.cells := by
  obtain ⟨xs, n, _, hx, hlen, hxl, hf⟩ := DataW.trod_struct Try.underlying32 h
  rw [cellsT_four] at hlen
  match xs, hxl with
  | [y0, y1, y2, y3], _ =>
    match cs, hlen with
    | [v0, v1, v2, v3], _ =>
      have t0 := hf 0 _ rfl
      have t1 := hf 1 _ rfl
      have t2 := hf 2 _ rfl
      have t3 := hf 3 _ rfl
      have hI : Try.prog.cellsOf 3 = 1 := by kernel_rfl
      have hS : Try.prog.cellsOf 9 = 1 := by kernel_rfl
      simp [hI, hS] at t0 t1 t2 t3
      obtain ⟨k, e0, _, w0⟩ := DataW.trod_int Try.underlying3 t0
      obtain ⟨a, e1, _, w1⟩ := DataW.trod_string Try.underlying9 t1
      obtain ⟨b, e2, _, w2⟩ := DataW.trod_string Try.underlying9 t2
      obtain ⟨c, e3, _, w3⟩ := DataW.trod_string Try.underlying9 t3
      simp at e0 e1 e2 e3
      subst e0 e1 e2 e3
      exact ⟨⟨k, a, b, c⟩, ⟨bounds_i64 w0, w1, w2, w3⟩, rfl⟩
set_option maxRecDepth 100000 in
theorem rt_opened {fuel : Nat} {cs : List Value} {z : DataW H × List MemPlace} (h : DataW.trod enc Try.prog W 0 (fun _ => true) true fuel 34 cs = some z) : ∃ r : Dt, r.ok ∧ cs = r.cells := by
  obtain ⟨xs, n, _, hx, hlen, hxl, hf⟩ := DataW.trod_struct Try.underlying34 h
  rw [cellsR_twelve] at hlen
  match xs, hxl with
  | [y0, y1, y2], _ =>
    have t0 : DataW.trod enc Try.prog W 0 (fun _ => true) true n 32 ((cs.drop 0).take 4) = some y0 := by
      have h := hf 0 _ rfl
      simpa [cellsT_four] using h
    have t1 : DataW.trod enc Try.prog W 0 (fun _ => true) true n 32 ((cs.drop 4).take 4) = some y1 := by
      have h := hf 1 _ rfl
      simpa [cellsT_four] using h
    have t2 : DataW.trod enc Try.prog W 0 (fun _ => true) true n 32 ((cs.drop 8).take 4) = some y2 := by
      have h := hf 2 _ rfl
      simpa [cellsT_four] using h
    obtain ⟨r0, o0, e0⟩ := rw_opened t0
    obtain ⟨r1, o1, e1⟩ := rw_opened t1
    obtain ⟨r2, o2, e2⟩ := rw_opened t2
    refine ⟨⟨r0, r1, r2⟩, ⟨o0, o1, o2⟩, ?_⟩
    show cs = r0.cells ++ (r1.cells ++ r2.cells)
    rw [← e0, ← e1, ← e2]
    match cs, hlen with
    | [v0, v1, v2, v3, v4, v5, v6, v7, v8, v9, v10, v11], _ => rfl
end
end Go.Proofs.Ytehechbiajbobaa

namespace Go.Proofs.Ytehechbiajbobaa
open Go.RowKit

/-- A digit's byte. -/
def hexd (x : Int) : UInt8 := (if x < 10 then 48 + x else 55 + x).toNat.toUInt8
/-- What writeNumber writes. -/
def numL (r : Int) : List UInt8 := [92, 117, 48, 48, hexd (r / 16), hexd (r % 16)]
end Go.Proofs.Ytehechbiajbobaa

namespace Go.Proofs.Ytehechbiajbobaa
open Go.RowKit

/-- What Quote writes of a sign. -/
def esc (n : Int) : List UInt8 := if lett n ≠ 0 then [92, (lett n).toNat.toUInt8] else if cls n = 4 then numL n else Lib.encodeRune n
def escL (l : List Int) : List UInt8 := l.flatMap esc
def quoteL (l : List Int) : List UInt8 := 34 :: escL l ++ [34]
theorem esc_len (n : Int) : 1 ≤ (esc n).length ∧ (esc n).length ≤ 6 := by
  have := enc_len n
  unfold esc numL
  split
  · simp
  · split
    · simp
    · omega
theorem escL_len (l : List Int) : (escL l).length ≤ 6 * l.length := by
  induction l with
  | nil => simp [escL]
  | cons n t ih => have := esc_len n; simp [escL] at *; omega
end Go.Proofs.Ytehechbiajbobaa

/-
  WHAT THE LAWS SHARE: each contract over every world that is the first one below its size.
-/
namespace Go.Proofs.Ytehechbiajbobaa
open Go.RowKit

theorem Parts.size {s : ByteArray} {sl : List Int} {rest : List UInt8} (h : Parts s.data.toList sl rest) : s.size = (encL sl).length + rest.length := by rw [len_of s _ h.eq]; simp
theorem Parts.join {a b : ByteArray} {la lb : List Int} (h : Parts a.data.toList la []) (k : Parts b.data.toList lb []) : Parts (a ++ b).data.toList (la ++ lb) [] := by
  refine ⟨?_, h.all.append k.all, .inl rfl⟩
  rw [encL_append, List.append_nil, ← (show encL la ++ [] = encL la from List.append_nil _), ← (show encL lb ++ [] = encL lb from List.append_nil _), ← h.eq, ← k.eq]
  simp
theorem Parts.nil {s : ByteArray} {sl : List Int} (h : Parts s.data.toList sl []) : s.data.toList = encL sl := by rw [h.eq, List.append_nil]
/-- The bytes of signs. -/
def textOf (l : List Int) : ByteArray := ⟨(encL l).toArray⟩
theorem textOf_list (l : List Int) : (textOf l).data.toList = encL l := by simp [textOf]
theorem Parts.text {s : ByteArray} {sl : List Int} (h : Parts s.data.toList sl []) : s = textOf sl := by
  obtain ⟨⟨d⟩⟩ := s
  have := h.nil
  simp at this
  rw [this]; rfl
end Go.Proofs.Ytehechbiajbobaa

/-
  PLAIN LEAN, NO RUN: the signs of a quoted text: none is a control; unlike texts are quoted unlike.
-/
namespace Go.Proofs.Ytehechbiajbobaa
set_option linter.unusedVariables false

def hx (x : Int) : Int := if x < 10 then 48 + x else 55 + x
/-- What Quote writes of a sign, as signs. -/
def escS (n : Int) : List Int := if lett n ≠ 0 then [92, lett n] else if cls n = 4 then [92, 117, 48, 48, hx (n / 16), hx (n % 16)] else [n]
def bodyS (l : List Int) : List Int := l.flatMap escS
def quoS (l : List Int) : List Int := 34 :: bodyS l ++ [34]
theorem enc_ascii (m : Int) (h0 : 0 ≤ m) (h1 : m < 128) : Lib.encodeRune m = [m.toNat.toUInt8] := by
  unfold Lib.encodeRune
  rw [Lib.encodeRuneZ_one h0 (by omega)]
  rfl
theorem encL_one (m : Int) (t : List Int) (h0 : 0 ≤ m) (h1 : m < 128) : encL (m :: t) = m.toNat.toUInt8 :: encL t := by
  rw [encL_cons, enc_ascii m h0 h1]; rfl
theorem lett_range (n : Int) (h : lett n ≠ 0) : 0 ≤ lett n ∧ lett n < 128 := by unfold lett at *; omega
theorem cls4_range (n : Int) (h : cls n = 4) : 0 ≤ n ∧ n < 160 := by unfold cls at h; omega
theorem hx_range (x : Int) (h0 : 0 ≤ x) (h1 : x < 16) : 48 ≤ hx x ∧ hx x < 71 := by unfold hx; omega
theorem escS_bytes (n : Int) : encL (escS n) = esc n := by
  unfold escS esc
  split
  · rename_i h
    have := lett_range n h
    rw [encL_one _ _ (by omega) (by omega), encL_one _ _ this.1 this.2]
    rfl
  · split
    · rename_i h
      have := cls4_range n h
      have h1 := hx_range (n / 16) (by omega) (by omega)
      have h2 := hx_range (n % 16) (by omega) (by omega)
      rw [encL_one _ _ (by omega) (by omega), encL_one _ _ (by omega) (by omega), encL_one _ _ (by omega) (by omega), encL_one _ _ (by omega) (by omega), encL_one _ _ (by omega) (by omega), encL_one _ _ (by omega) (by omega)]
      rfl
    · simp [encL]
theorem bodyS_bytes (l : List Int) : encL (bodyS l) = escL l := by
  induction l with
  | nil => rfl
  | cons n t ih => unfold bodyS escL at *; rw [List.flatMap_cons, List.flatMap_cons, encL_append, ih, escS_bytes]
theorem quoS_bytes (l : List Int) : encL (quoS l) = quoteL l := by
  unfold quoS quoteL
  rw [List.cons_append, encL_one _ _ (by omega) (by omega), encL_append, bodyS_bytes, encL_one _ _ (by omega) (by omega)]
  rfl
end Go.Proofs.Ytehechbiajbobaa
