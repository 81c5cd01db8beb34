/-
  MERGED (a claim has at most 60 files): NText, NPl, NFew.
-/
import Derived.Test.YtpnfjjgihkmjmaaZ22
import Derived.Test.YtpnfjjgihkmjmaaZ19
import Derived.Laws.Concat
import Derived.ProofKit
import Derived.Test.YtpnfjjgihkmjmaaZ18
import Derived.Deep.AppendLies
import Derived.Deep.RegionHeld3
/-
  A TERM's TEXT (package nt).
-/
namespace Go.Proofs.Ytpnfjjgihkmjmaa
open Go.RowKit
set_option linter.unusedVariables false
set_option linter.unusedSimpArgs false

theorem bx {a b : ByteArray} (h : a.data.toList = b.data.toList) : a = b := by
  obtain ⟨⟨l⟩⟩ := a
  obtain ⟨⟨m⟩⟩ := b
  have : l = m := h
  subst this
  rfl
theorem textOf_app (a b : List Int) : textOf (a ++ b) = textOf a ++ textOf b := by
  apply bx
  rw [textOf_list, encL_append, ByteArray.data_append, Array.toList_append, textOf_list, textOf_list]
theorem text_cons (c : Int) (l : List Int) : textOf (c :: l) = textOf [c] ++ textOf l := textOf_app [c] l
theorem escS_six (n : Int) : (escS n).length ≤ 6 := by unfold escS; split <;> (try split) <;> simp
theorem body_six : ∀ l : List Int, (bodyS l).length ≤ 6 * l.length
  | [] => by simp [bodyS]
  | n :: l => by rw [bodyS_cons, List.length_append, List.length_cons]; have := escS_six n; have := body_six l; omega
theorem sg_small (s : ByteArray) : (sgP s).1.length ≤ s.size := by
  have h1 := (sgP_parts s).size
  have h2 := encL_len (sgP s).1
  omega
end Go.Proofs.Ytpnfjjgihkmjmaa

/-
  WHAT THE LAWS MAKE OF A TERM OF THE DOCUMENT's (becklaw04.Plain); a box; a scanner and a box.
-/
namespace Go.Proofs.Ytpnfjjgihkmjmaa
open Go.RowKit
set_option linter.unusedVariables false
set_option linter.unusedSimpArgs false

/-- The term that the law makes of one. -/
def pl3 (k : Int) (a b c : ByteArray) : Tm := if k % 18446744073709551616 % 3 = 0 then .blank a else if k % 18446744073709551616 % 3 = 1 then .iri a else .lit a b c
set_option maxHeartbeats 2000000 in
theorem plain3_any (k : Int) (hk : -9223372036854775808 ≤ k ∧ k ≤ 9223372036854775807) (a b c : ByteArray) (w : World) : Calls Try.prog 11 #[F4 k a b c] w fun e w' => e = .returned (T4 (pl3 k a b c)) ∧ Below w.heap.size w w' := by
  obtain ⟨r, hr⟩ : ∃ r, r = k % 18446744073709551616 % 3 := ⟨_, rfl⟩
  have h3 : r = 0 ∨ r = 1 ∨ r = 2 := by omega
  have hw : wrap64 ((IntKind.u64.wrap k).tmod 3) = r := by
    rw [show IntKind.u64.wrap k = k % 18446744073709551616 from rfl, Int.tmod_eq_emod_of_nonneg (by omega), ← hr]
    exact IntWalk.wrap64_in r ⟨by omega, by omega⟩
  unfold pl3
  rw [← hr]
  clear hr hk
  rcases h3 with rfl | rfl | rfl
  · rw [if_pos rfl]
    simp only [T4, Tm.kind, Tm.ta, Tm.tb, Tm.tc]
    go_enter Try.func11, Try.ntmps11
    go_wp2
    exact bodyPost_ret (v := F4 0 a mt mt) (by simp [results, Try.results11, go_sem]) rfl ⟨rfl, ((Below.refl _ _).alloc (Nat.le_refl _) _).alloc (by simp) _⟩
  · rw [if_neg (by decide), if_pos rfl]
    simp only [T4, Tm.kind, Tm.ta, Tm.tb, Tm.tc]
    go_enter Try.func11, Try.ntmps11
    go_wp2
    exact bodyPost_ret (v := F4 1 a mt mt) (by simp [results, Try.results11, go_sem]) rfl ⟨rfl, ((Below.refl _ _).alloc (Nat.le_refl _) _).alloc (by simp) _⟩
  · rw [if_neg (by decide), if_neg (by decide)]
    simp only [T4, Tm.kind, Tm.ta, Tm.tb, Tm.tc]
    go_enter Try.func11, Try.ntmps11
    go_wp2
    exact bodyPost_ret (v := F4 2 a b c) (by simp [results, Try.results11, go_sem]) rfl ⟨rfl, ((Below.refl _ _).alloc (Nat.le_refl _) _).alloc (by simp) _⟩
theorem pl3_small (k : Int) (a b c : ByteArray) : (pl3 k a b c).ta.size ≤ a.size ∧ (pl3 k a b c).tb.size ≤ b.size ∧ (pl3 k a b c).tc.size ≤ c.size := by
  unfold pl3
  split
  · exact ⟨Nat.le_refl _, Nat.zero_le _, Nat.zero_le _⟩
  split
  · exact ⟨Nat.le_refl _, Nat.zero_le _, Nat.zero_le _⟩
  · exact ⟨Nat.le_refl _, Nat.le_refl _, Nat.le_refl _⟩
theorem pl3_real (k : Int) (a b c : ByteArray) (w : World) : Calls Try.prog 12 #[T4 (pl3 k a b c)] w fun e w' => e = .returned (pl3 k a b c).val ∧ Below w.heap.size w w' := by
  apply real_any
  unfold pl3
  split
  · exact .inl rfl
  split
  · exact .inr (.inl rfl)
  · exact .inr (.inr (.inl rfl))
theorem pl3_val (k : Int) (a b c : ByteArray) : ∃ ty x, (pl3 k a b c).val = .iface ty x := by
  unfold pl3
  split
  · exact ⟨_, _, rfl⟩
  split
  · exact ⟨_, _, rfl⟩
  · exact ⟨_, _, rfl⟩
theorem tS_len (t : Tm) : (tS t).length ≤ 6 * t.ta.size + t.tb.size + t.tc.size + 8 := by
  cases t with
  | iri s => have := sg_small s; unfold tS; simp [Tm.ta, Tm.tb, Tm.tc]; omega
  | blank s => have := sg_small s; unfold tS; simp [Tm.ta, Tm.tb, Tm.tc]; omega
  | lit a b c =>
    have h1 := sg_small a
    have h2 := sg_small b
    have h3 := sg_small c
    have h4 := body_six (sgP a).1
    have h5 := quoS_len (sgP a).1
    unfold tS tailS
    simp only [Tm.ta, Tm.tb, Tm.tc, List.length_append]
    split
    · split
      · simp; omega
      · simp; omega
    · simp; omega
  | odd n => unfold tS; simp
  | none => unfold tS; simp
/-- A box, wherever. -/
def Ny (w : World) (g : Nat) (cs : Array Value) (W : World) : Prop := Below w.heap.size w W ∧ Fb W g 32 cs
section
variable {w : World} {g : Nat} {cs : Array Value}
theorem Ny.below {W W' : World} (h : Ny w g cs W) (hb : Below W.heap.size W W') : Ny w g cs W' := ⟨h.1.trans (hb.mono h.1.size), h.2.below hb⟩
theorem Ny.mk {W : World} (hb : Below w.heap.size w W) (cs : Array Value) : Ny w W.heap.size cs (W.alloc (.cells cs 32)) := ⟨hb.alloc hb.size _, Fb.new _ _ _⟩
theorem Ny.cells {x0 x1 x2 x3 : Value} {W : World} (h : Ny w g #[x0, x1, x2, x3] W) : W.cell? ⟨g, 0, none⟩ = some x0 ∧ W.cell? ⟨g, 1, none⟩ = some x1 ∧ W.cell? ⟨g, 2, none⟩ = some x2 ∧ W.cell? ⟨g, 3, none⟩ = some x3 := ⟨h.2.cell 0, h.2.cell 1, h.2.cell 2, h.2.cell 3⟩
theorem ny_of {W : World} {f : Nat} {args : Array Value} {y : Value} (h : Ny w g cs W) (k : Calls Try.prog f args W fun e w' => e = .returned y ∧ Below W.heap.size W w') :
    Calls Try.prog f args W fun e w' => e = .returned y ∧ Ny w g cs w' := k.mono fun _ _ ⟨x, z⟩ => ⟨x, h.below z⟩
end
section
variable {w : World} {b : Nat} {v : Value} {sl : List Int} {k g : Nat} {cs : Array Value}
end
end Go.Proofs.Ytpnfjjgihkmjmaa

/-
  FEW TRIPLES OF THE DOCUMENT's (becklaw04.Few): the first ten, made plain, if none of them is long.
-/
namespace Go.Proofs.Ytpnfjjgihkmjmaa
open Go.RowKit
set_option linter.unusedVariables false
set_option linter.unusedSimpArgs false

/-! ### Plain -/
def c4 (t : Tm) : List Value := [.int .i64 t.kind, .string t.ta, .string t.tb, .string t.tc]
def cellsD (L : List (List Tm)) : List Value := L.flatMap fun ts => ts.flatMap c4
theorem cellsD_snoc (L : List (List Tm)) (ts : List Tm) : cellsD (L ++ [ts]) = cellsD L ++ ts.flatMap c4 := by simp [cellsD]
/-- The document's triples in a slice of the call's own. -/
def DtV (B : Nat) (W : World) (v : Value) (L : List (List Tm)) : Prop := W.ownsRow B 34 12 v L.length (cellsD L)
theorem dtV_nil (B : Nat) (W : World) : DtV B W (.slice none 0 0) [] := World.ownsRow_nil _ _ _ _
theorem DtV.below {B : Nat} {w w' : World} {v : Value} {l : List (List Tm)} (h : DtV B w v l) (hb : Below w.heap.size w w') : DtV B w' v l := by
  refine ⟨h.1, ?_⟩
  rcases id h.2 with x | ⟨g, cap, cur, hv, hg, hh, rest⟩
  · exact .inl x
  · exact .inr ⟨g, cap, cur, hv, hg, (hb.block g (Array.getElem?_eq_some_iff.1 hh).1).trans hh, rest⟩
theorem DtV.shape {B : Nat} {W : World} {v : Value} {l : List (List Tm)} (h : DtV B W v l) : ∃ A c, v = .slice A l.length c := by
  rcases id h.2 with ⟨hv, hl⟩ | ⟨g, cap, cur, hv, _⟩
  · exact ⟨none, 0, by rw [hv, hl]⟩
  · exact ⟨_, cap, hv⟩
noncomputable def Dw.pl (r : Dw) : Tm := pl3 r.k r.a r.b r.c
def Dw.sh (r : Dw) : Bool := decide (r.a.size ≤ 300) && (decide (r.b.size ≤ 300) && decide (r.c.size ≤ 100))
def Dt.parts (t : Dt) : List Dw := [t.s, t.p, t.o]
def Dt.sh (t : Dt) : Bool := t.parts.all Dw.sh
noncomputable def Dt.pl (t : Dt) : List Tm := t.parts.map Dw.pl
noncomputable def fewL (l : List Dt) : List (List Tm) := (l.take 10).map Dt.pl
def fewB (l : List Dt) : Bool := (l.take 10).all Dt.sh
theorem rtripInfo : (Try.prog.info? 34).map (fun i => (i.zero, i.size, i.bytes)) = some (some (.agg #[.int .i64 0, .string ⟨#[]⟩, .string ⟨#[]⟩, .string ⟨#[]⟩, .int .i64 0, .string ⟨#[]⟩, .string ⟨#[]⟩, .string ⟨#[]⟩, .int .i64 0, .string ⟨#[]⟩, .string ⟨#[]⟩, .string ⟨#[]⟩]), 12, 168) := by kernel_rfl
/-- A slice of triples, a box. -/
def Nw (w : World) (v : Value) (L : List (List Tm)) (g : Nat) (cs : Array Value) (W : World) : Prop := Below w.heap.size w W ∧ DtV w.heap.size W v L ∧ Fb W g 34 cs
section
variable {w : World} {v : Value} {L : List (List Tm)} {g : Nat} {cs : Array Value}
theorem Nw.below {W W' : World} (h : Nw w v L g cs W) (hb : Below W.heap.size W W') : Nw w v L g cs W' := ⟨h.1.trans (hb.mono h.1.size), h.2.1.below hb, h.2.2.below hb⟩
theorem Nw.drew {W : World} (h : Nw w v L g cs W) : Nw w v L g cs W.drew := ⟨Below.drew h.1, h.2.1, h.2.2⟩
theorem Nw.alloc {W : World} (h : Nw w v L g cs W) (o : Obj) : Nw w v L g cs (W.alloc o) := h.below ((Below.refl _ _).alloc (Nat.le_refl _) o)
theorem nw_of {W : World} {f : Nat} {args : Array Value} {y : Value} (h : Nw w v L g cs W) (c : Calls Try.prog f args W fun e w' => e = .returned y ∧ Below W.heap.size W w') :
    Calls Try.prog f args W fun e w' => e = .returned y ∧ Nw w v L g cs w' := c.mono fun _ _ ⟨x, z⟩ => ⟨x, h.below z⟩
theorem Nw.all {x0 x1 x2 x3 x4 x5 x6 x7 x8 x9 xa xb : Value} {W : World} (h : Nw w v L g #[x0, x1, x2, x3, x4, x5, x6, x7, x8, x9, xa, xb] W) :
    W.cell? ⟨g, 0, none⟩ = some x0 ∧ W.cell? ⟨g, 1, none⟩ = some x1 ∧ W.cell? ⟨g, 2, none⟩ = some x2 ∧ W.cell? ⟨g, 3, none⟩ = some x3 ∧ W.cell? ⟨g, 4, none⟩ = some x4 ∧ W.cell? ⟨g, 5, none⟩ = some x5 ∧
    W.cell? ⟨g, 6, none⟩ = some x6 ∧ W.cell? ⟨g, 7, none⟩ = some x7 ∧ W.cell? ⟨g, 8, none⟩ = some x8 ∧ W.cell? ⟨g, 9, none⟩ = some x9 ∧ W.cell? ⟨g, 10, none⟩ = some xa ∧ W.cell? ⟨g, 11, none⟩ = some xb ∧ Nw w v L g #[x0, x1, x2, x3, x4, x5, x6, x7, x8, x9, xa, xb] W :=
  ⟨h.2.2.cell 0, h.2.2.cell 1, h.2.2.cell 2, h.2.2.cell 3, h.2.2.cell 4, h.2.2.cell 5, h.2.2.cell 6, h.2.2.cell 7, h.2.2.cell 8, h.2.2.cell 9, h.2.2.cell 10, h.2.2.cell 11, h⟩
end
theorem Nw.app {w : World} {v : Value} {L : List (List Tm)} {g : Nat} {cs : Array Value} {W w5 : World} {v' : Value} {ts : List Tm} {n : Nat} {news : List Value} (h : Nw w v L g cs W) (hn : n = L.length + 1) (hw : news = ts.flatMap c4) (hown : w5.ownsRow w.heap.size 34 12 v' n (cellsD L ++ news)) (hg : W.grownBy w5 v.ownBlock) :
    DtV w.heap.size w5 v' (L ++ [ts]) ∧ Below w.heap.size w w5 := by
  subst hn hw
  refine ⟨?_, h.1.grown hg h.1.size (fun j hj => (World.ownsRow.lt h.2.1 j hj).1)⟩
  unfold DtV
  rw [cellsD_snoc, List.length_append]
  exact hown
theorem cells_new (w : World) (cs : List Value) (t : TypeId) : ∀ (j : Nat) (u : Value), cs[j]? = some u → (w.alloc (.cells cs.toArray t)).cell? ((⟨w.heap.size, 0, none⟩ : Addr).add j) = some u := fun j u h => by
  rw [at_add, Nat.zero_add, (Fb.new w t cs.toArray).cell j]
  simpa using h
theorem Nw.fb {w : World} {v : Value} {L : List (List Tm)} {g : Nat} {cs : Array Value} {W : World} (h : Nw w v L g cs W) : Fb W g 34 cs := h.2.2
theorem Fb.c12 {W : World} {g : Nat} {ty : TypeId} {x0 x1 x2 x3 x4 x5 x6 x7 x8 x9 xa xb : Value} (h : Fb W g ty #[x0, x1, x2, x3, x4, x5, x6, x7, x8, x9, xa, xb]) :
    W.cell? ⟨g, 0, none⟩ = some x0 ∧ W.cell? ⟨g, 1, none⟩ = some x1 ∧ W.cell? ⟨g, 2, none⟩ = some x2 ∧ W.cell? ⟨g, 3, none⟩ = some x3 ∧ W.cell? ⟨g, 4, none⟩ = some x4 ∧ W.cell? ⟨g, 5, none⟩ = some x5 ∧
    W.cell? ⟨g, 6, none⟩ = some x6 ∧ W.cell? ⟨g, 7, none⟩ = some x7 ∧ W.cell? ⟨g, 8, none⟩ = some x8 ∧ W.cell? ⟨g, 9, none⟩ = some x9 ∧ W.cell? ⟨g, 10, none⟩ = some xa ∧ W.cell? ⟨g, 11, none⟩ = some xb :=
  ⟨h.cell 0, h.cell 1, h.cell 2, h.cell 3, h.cell 4, h.cell 5, h.cell 6, h.cell 7, h.cell 8, h.cell 9, h.cell 10, h.cell 11⟩
theorem oc12 (k0 : Int) (a0 b0 c0 : ByteArray) (k1 : Int) (a1 b1 c1 : ByteArray) (k2 : Int) (a2 b2 c2 : ByteArray) : ∀ u ∈ [Value.int .i64 k0, .string a0, .string b0, .string c0, .int .i64 k1, .string a1, .string b1, .string c1, .int .i64 k2, .string a2, .string b2, .string c2], u.oneCell' = true := fun u hu => by
  simp only [List.mem_cons, List.not_mem_nil, or_false] at hu
  rcases hu with rfl | rfl | rfl | rfl | rfl | rfl | rfl | rfl | rfl | rfl | rfl | rfl <;> rfl
/-- The box, where only the row of the slice turns. -/
theorem Nw.grown {w : World} {v : Value} {L : List (List Tm)} {g : Nat} {cs : Array Value} {W w5 : World} (h : Nw w v L g cs W) (hne : v.ownBlock ≠ some g) (hg : W.grownBy w5 v.ownBlock) : Fb w5 g 34 cs :=
  (hg.block g h.2.2.lt (fun e => hne e.symm)).trans h.2.2
def FwI (w : World) (l : List Dt) (g : Nat) (s4 s11 : Value) (wr : World) : Prop := ∃ (i : Nat) (A : Option Addr) (c : Nat), i + g = min l.length 10 ∧ s11 = .int .i64 i ∧ s4 = .slice A i c ∧ Hid ((l.take i).all Dt.sh = true) ∧ DtV w.heap.size wr (.slice A i c) ((l.take i).map Dt.pl) ∧ Below w.heap.size w wr
def FxI (w : World) (v : Value) (L : List (List Tm)) (g6 : Nat) (cs : Array Value) (t : Dt) (g : Nat) (s25 : Value) (wr : World) : Prop := ∃ j : Nat, j + g = 3 ∧ s25 = .int .i64 j ∧ Hid ((t.parts.take j).all Dw.sh = true) ∧ Nw w v L g6 cs wr
theorem few_done {l : List Dt} {i : Nat} (hi : i = min l.length 10) (h : (l.take i).all Dt.sh = true) : fewB l = true ∧ fewL l = (l.take i).map Dt.pl := by
  have e : l.take i = l.take 10 := by
    subst hi
    rcases Nat.le_total l.length 10 with h | h
    · rw [Nat.min_eq_left h, List.take_of_length_le (Nat.le_refl _), List.take_of_length_le h]
    · rw [Nat.min_eq_right h]
  exact ⟨by unfold fewB; rw [← e]; exact h, by unfold fewL; rw [e]⟩
theorem few_not {l : List Dt} {i j : Nat} {t : Dt} {r : Dw} (hi : i < 10) (ht : l[i]? = some t) (hr : t.parts[j]? = some r) (h : r.sh = false) : fewB l = false := by
  unfold fewB
  rw [Bool.eq_false_iff]
  intro ha
  have h1 : t ∈ l.take 10 := List.mem_of_getElem? (i := i) (by rw [List.getElem?_take_of_lt hi]; exact ht)
  have h2 := List.all_eq_true.1 ha t h1
  unfold Dt.sh at h2
  have h3 := List.all_eq_true.1 h2 r (List.mem_of_getElem? hr)
  rw [h] at h3
  cases h3
def FewPost (w : World) (l : List Dt) (e : Ending) (w' : World) : Prop := ∃ v, e = .returned (.tuple #[v, .bool (fewB l)]) ∧ (fewB l = true → DtV w.heap.size w' v (fewL l)) ∧ Below w.heap.size w w'
theorem few_yes {w w' : World} {l : List Dt} {v : Value} (h : fewB l = true) (hd : DtV w.heap.size w' v (fewL l)) (hb : Below w.heap.size w w') : FewPost w l (.returned (.tuple #[v, .bool true])) w' := ⟨v, by rw [h], fun _ => hd, hb⟩
theorem few_no {w w' : World} {l : List Dt} {v : Value} (h : fewB l = false) (hb : Below w.heap.size w w') : FewPost w l (.returned (.tuple #[v, .bool false])) w' := ⟨v, by rw [h], fun e => (by rw [h] at e; cases e), hb⟩
set_option maxHeartbeats 16000000 in
set_option maxRecDepth 100000 in
theorem nfew_any (l : List Dt) (hok : ∀ t ∈ l, t.ok) (A : Option Addr) (cap : Nat) (hc : l.length ≤ cap) (hm : cap ≤ maxLen) (w : World) (hs : SlAt w A 12 (l.map Dt.cells)) :
    Calls Try.prog 32 #[.slice A l.length cap] w (FewPost w l) := by
  have HS := Lib.hid hs
  have HOK := Lib.hid hok
  have HL := Lib.hid (Nat.le_trans hc hm)
  obtain ⟨i0, hi, hz0, hz1, hz2⟩ := info_parts rtripInfo
  clear hs hok hc hm
  go_enter Try.func32, Try.ntmps32
  go_wp2
  go_loopg [4, 11] (min l.length 10) (fun g s4 s11 wr => FwI w l g s4 s11 wr)
  case atStart => exact ⟨0, none, 0, by omega, rfl, rfl, Lib.hid rfl, dtV_nil _ _, Below.refl _ _⟩
  case round =>
    obtain ⟨i, A', c', hig, rfl, rfl, hsh, hD, hB⟩ := hrel
    have HB := Lib.hid hB
    have HD := Lib.hid hD
    cases gk with
    | zero =>
      have hdone := few_done (l := l) (i := i) (by omega) hsh.out
      have HDN := Lib.hid hdone
      by_cases hil : i = l.length
      · have hin : ¬ (i : Int) < (l.length : Int) := by omega
        clear hD hB hig hil hdone
        go_wp2
        go_ret2
        exact few_yes HDN.out.1 (by rw [HDN.out.2]; exact HD.out) HB.out
      · have hin : (i : Int) < (l.length : Int) := by omega
        have hi0 : (0 : Int) ≤ (i : Int) := by omega
        have h10 : ((i : Int) == 10) = true := by rw [beq_iff_eq]; omega
        obtain ⟨t, ht⟩ : ∃ t, l[i]? = some t := ⟨_, List.getElem?_eq_getElem (by omega)⟩
        obtain ⟨ga, oa, rfl, hga, hcell⟩ := (HS.out.below hB) i t.cells (by rw [List.getElem?_map, ht]; rfl)
        obtain ⟨⟨k0, a0, b0, d0⟩, ⟨k1, a1, b1, d1⟩, ⟨k2, a2, b2, d2⟩⟩ := t
        have p0 : wr.cell? ⟨ga, oa + i * 12, none⟩ = some (.int .i64 k0) := hcell 0 _ rfl
        have p1 : wr.cell? ⟨ga, oa + i * 12 + 1, none⟩ = some (.string a0) := hcell 1 _ rfl
        have p2 : wr.cell? ⟨ga, oa + i * 12 + 2, none⟩ = some (.string b0) := hcell 2 _ rfl
        have p3 : wr.cell? ⟨ga, oa + i * 12 + 3, none⟩ = some (.string d0) := hcell 3 _ rfl
        have p4 : wr.cell? ⟨ga, oa + i * 12 + 4, none⟩ = some (.int .i64 k1) := hcell 4 _ rfl
        have p5 : wr.cell? ⟨ga, oa + i * 12 + 5, none⟩ = some (.string a1) := hcell 5 _ rfl
        have p6 : wr.cell? ⟨ga, oa + i * 12 + 6, none⟩ = some (.string b1) := hcell 6 _ rfl
        have p7 : wr.cell? ⟨ga, oa + i * 12 + 7, none⟩ = some (.string d1) := hcell 7 _ rfl
        have p8 : wr.cell? ⟨ga, oa + i * 12 + 8, none⟩ = some (.int .i64 k2) := hcell 8 _ rfl
        have p9 : wr.cell? ⟨ga, oa + i * 12 + 9, none⟩ = some (.string a2) := hcell 9 _ rfl
        have p10 : wr.cell? ⟨ga, oa + i * 12 + 10, none⟩ = some (.string b2) := hcell 10 _ rfl
        have p11 : wr.cell? ⟨ga, oa + i * 12 + 11, none⟩ = some (.string d2) := hcell 11 _ rfl
        have hB2 := hB.alloc hB.size (.cells #[.int .i64 k0, .string a0, .string b0, .string d0, .int .i64 k1, .string a1, .string b1, .string d1, .int .i64 k2, .string a2, .string b2, .string d2] 34)
        have HB2 := Lib.hid hB2
        have HD2 := Lib.hid (hD.below ((Below.refl _ _).alloc (Nat.le_refl _) (.cells #[.int .i64 k0, .string a0, .string b0, .string d0, .int .i64 k1, .string a1, .string b1, .string d1, .int .i64 k2, .string a2, .string b2, .string d2] 34)))
        clear hcell ht hB2 hD hB hig hil hdone
        go_wp2
        go_ret2
        exact few_yes HDN.out.1 (by rw [HDN.out.2]; exact HD2.out) HB2.out
    | succ g =>
      have hin : (i : Int) < (l.length : Int) := by omega
      have hi0 : (0 : Int) ≤ (i : Int) := by omega
      have h10 : ((i : Int) == 10) = false := by rw [beq_eq_false_iff_ne]; omega
      obtain ⟨t, ht⟩ : ∃ t, l[i]? = some t := ⟨_, List.getElem?_eq_getElem (by omega)⟩
      obtain ⟨ga, oa, rfl, hga, hcell⟩ := (HS.out.below hB) i t.cells (by rw [List.getElem?_map, ht]; rfl)
      have hto := HOK.out t (List.mem_of_getElem? ht)
      obtain ⟨T, hT⟩ : ∃ T, T = t := ⟨_, rfl⟩
      rw [← hT] at ht
      obtain ⟨⟨k0, a0, b0, d0⟩, ⟨k1, a1, b1, d1⟩, ⟨k2, a2, b2, d2⟩⟩ := t
      have p0 : wr.cell? ⟨ga, oa + i * 12, none⟩ = some (.int .i64 k0) := hcell 0 _ rfl
      have p1 : wr.cell? ⟨ga, oa + i * 12 + 1, none⟩ = some (.string a0) := hcell 1 _ rfl
      have p2 : wr.cell? ⟨ga, oa + i * 12 + 2, none⟩ = some (.string b0) := hcell 2 _ rfl
      have p3 : wr.cell? ⟨ga, oa + i * 12 + 3, none⟩ = some (.string d0) := hcell 3 _ rfl
      have p4 : wr.cell? ⟨ga, oa + i * 12 + 4, none⟩ = some (.int .i64 k1) := hcell 4 _ rfl
      have p5 : wr.cell? ⟨ga, oa + i * 12 + 5, none⟩ = some (.string a1) := hcell 5 _ rfl
      have p6 : wr.cell? ⟨ga, oa + i * 12 + 6, none⟩ = some (.string b1) := hcell 6 _ rfl
      have p7 : wr.cell? ⟨ga, oa + i * 12 + 7, none⟩ = some (.string d1) := hcell 7 _ rfl
      have p8 : wr.cell? ⟨ga, oa + i * 12 + 8, none⟩ = some (.int .i64 k2) := hcell 8 _ rfl
      have p9 : wr.cell? ⟨ga, oa + i * 12 + 9, none⟩ = some (.string a2) := hcell 9 _ rfl
      have p10 : wr.cell? ⟨ga, oa + i * 12 + 10, none⟩ = some (.string b2) := hcell 10 _ rfl
      have p11 : wr.cell? ⟨ga, oa + i * 12 + 11, none⟩ = some (.string d2) := hcell 11 _ rfl
      have hx0 : ∀ w', (Instr.index 99 (.agg #[.int .i64 k0, .string a0, .string b0, .string d0, .int .i64 k1, .string a1, .string b1, .string d1, .int .i64 k2, .string a2, .string b2, .string d2]) (.int .i64 0)).run Try.prog w' = .ok (F4 k0 a0 b0 d0) w' := fun _ => by kernel_rfl
      have hx1 : ∀ w', (Instr.index 99 (.agg #[.int .i64 k0, .string a0, .string b0, .string d0, .int .i64 k1, .string a1, .string b1, .string d1, .int .i64 k2, .string a2, .string b2, .string d2]) (.int .i64 1)).run Try.prog w' = .ok (F4 k1 a1 b1 d1) w' := fun _ => by kernel_rfl
      have hx2 : ∀ w', (Instr.index 99 (.agg #[.int .i64 k0, .string a0, .string b0, .string d0, .int .i64 k1, .string a1, .string b1, .string d1, .int .i64 k2, .string a2, .string b2, .string d2]) (.int .i64 2)).run Try.prog w' = .ok (F4 k2 a2 b2 d2) w' := fun _ => by kernel_rfl
      have hix : ∀ (j : Nat) (r : Dw), T.parts[j]? = some r → ∀ w', (Instr.index 99 (.agg #[.int .i64 k0, .string a0, .string b0, .string d0, .int .i64 k1, .string a1, .string b1, .string d1, .int .i64 k2, .string a2, .string b2, .string d2]) (.int .i64 (j : Int))).run Try.prog w' = .ok (F4 r.k r.a r.b r.c) w' := fun j r h w' => by
        rw [hT] at h
        match j, h with
        | 0, h => obtain rfl : _ = r := by simpa [Dt.parts] using h
                  exact hx0 w'
        | 1, h => obtain rfl : _ = r := by simpa [Dt.parts] using h
                  exact hx1 w'
        | 2, h => obtain rfl : _ = r := by simpa [Dt.parts] using h
                  exact hx2 w'
        | j + 3, h => simp [Dt.parts] at h
      clear hx0 hx1 hx2
      have hlen3 : T.parts.length = 3 := rfl
      have hLl : ((l.take i).map Dt.pl).length = i := by rw [List.length_map, List.length_take]; omega
      have hsnoc : (l.take (i + 1)).map Dt.pl = (l.take i).map Dt.pl ++ [T.pl] := by rw [List.take_add_one, ht]; simp
      have hsall : (l.take (i + 1)).all Dt.sh = ((l.take i).all Dt.sh && T.sh) := by rw [List.take_add_one, ht]; simp
      have hnot := fun (j : Nat) (r : Dw) (hr : T.parts[j]? = some r) (h : r.sh = false) => few_not (l := l) (i := i) (by omega) ht hr h
      have hpl : T.pl = [pl3 k0 a0 b0 d0, pl3 k1 a1 b1 d1, pl3 k2 a2 b2 d2] := by rw [hT]; rfl
      obtain ⟨L, hL⟩ : ∃ L, L = (l.take i).map Dt.pl := ⟨_, rfl⟩
      rw [← hL] at hD HD hLl hsnoc
      have cP0 := plain3_any k0 hto.1.1 a0 b0 d0
      have cP1 := plain3_any k1 hto.2.1.1 a1 b1 d1
      have cP2 := plain3_any k2 hto.2.2.1 a2 b2 d2
      obtain ⟨u0, hu0⟩ : ∃ u, u = pl3 k0 a0 b0 d0 := ⟨_, rfl⟩
      obtain ⟨u1, hu1⟩ : ∃ u, u = pl3 k1 a1 b1 d1 := ⟨_, rfl⟩
      obtain ⟨u2, hu2⟩ : ∃ u, u = pl3 k2 a2 b2 d2 := ⟨_, rfl⟩
      rw [← hu0] at cP0 hpl
      rw [← hu1] at cP1 hpl
      rw [← hu2] at cP2 hpl
      have hnews : [.int .i64 u0.kind, .string u0.ta, .string u0.tb, .string u0.tc, .int .i64 u1.kind, .string u1.ta, .string u1.tb, .string u1.tc, .int .i64 u2.kind, .string u2.ta, .string u2.tb, .string u2.tc] = T.pl.flatMap c4 := by rw [hpl]; rfl
      have hN0 : Nw w (.slice A' i c') L wr.heap.size #[.int .i64 k0, .string a0, .string b0, .string d0, .int .i64 k1, .string a1, .string b1, .string d1, .int .i64 k2, .string a2, .string b2, .string d2] (wr.alloc (.cells #[.int .i64 k0, .string a0, .string b0, .string d0, .int .i64 k1, .string a1, .string b1, .string d1, .int .i64 k2, .string a2, .string b2, .string d2] 34)) :=
        ⟨hB.alloc hB.size _, hD.below ((Below.refl _ _).alloc (Nat.le_refl _) _), Fb.new _ _ _⟩
      unfold T4 at cP0 cP1 cP2
      obtain ⟨e0, he0⟩ : ∃ x, x = u0.kind := ⟨_, rfl⟩
      obtain ⟨f0, hf0⟩ : ∃ x, x = u0.ta := ⟨_, rfl⟩
      obtain ⟨g0, hg0⟩ : ∃ x, x = u0.tb := ⟨_, rfl⟩
      obtain ⟨h0, hh0⟩ : ∃ x, x = u0.tc := ⟨_, rfl⟩
      obtain ⟨e1, he1⟩ : ∃ x, x = u1.kind := ⟨_, rfl⟩
      obtain ⟨f1, hf1⟩ : ∃ x, x = u1.ta := ⟨_, rfl⟩
      obtain ⟨g1, hg1⟩ : ∃ x, x = u1.tb := ⟨_, rfl⟩
      obtain ⟨h1, hh1⟩ : ∃ x, x = u1.tc := ⟨_, rfl⟩
      obtain ⟨e2, he2⟩ : ∃ x, x = u2.kind := ⟨_, rfl⟩
      obtain ⟨f2, hf2⟩ : ∃ x, x = u2.ta := ⟨_, rfl⟩
      obtain ⟨g2, hg2⟩ : ∃ x, x = u2.tb := ⟨_, rfl⟩
      obtain ⟨h2, hh2⟩ : ∃ x, x = u2.tc := ⟨_, rfl⟩
      rw [← he0, ← hf0, ← hg0, ← hh0] at cP0 hnews
      rw [← he1, ← hf1, ← hg1, ← hh1] at cP1 hnews
      rw [← he2, ← hf2, ← hg2, ← hh2] at cP2 hnews
      have HSH := hsh
      have HNEWS := Lib.hid hnews
      have HIX := Lib.hid hix
      have HNOT := Lib.hid hnot
      have HSN := Lib.hid hsnoc
      have HSA := Lib.hid hsall
      have HLL := Lib.hid hLl
      have HIG := Lib.hid hig
      have HP3 := Lib.hid hlen3
      have H0 := Lib.hid hN0
      have HNE : Hid ((Value.slice A' i c').ownBlock ≠ some wr.heap.size) := Lib.hid (fun e => by have := (World.ownsRow.lt HD.out _ e).2; omega)
      clear hcell ht hB hD HB hig hix hnot hsnoc hsall hLl hto hT hpl hL hu0 hu1 hu2 he0 hf0 hg0 hh0 he1 hf1 hg1 hh1 he2 hf2 hg2 hh2 hnews hlen3 hN0 hsh
      clear HD
      go_wp2
      obtain ⟨g6, hg6⟩ : ∃ g, g = wr.heap.size := ⟨_, rfl⟩
      rw [← hg6] at H0 HNE ⊢
      have HG6 := Lib.hid hg6
      clear hg6 p0 p1 p2 p3 p4 p5 p6 p7 p8 p9 p10 p11
      go_loopg [25] 3 (fun g s25 wr2 => FxI w (.slice A' i c') L g6 #[.int .i64 k0, .string a0, .string b0, .string d0, .int .i64 k1, .string a1, .string b1, .string d1, .int .i64 k2, .string a2, .string b2, .string d2] T g s25 wr2)
      case atStart => exact ⟨0, rfl, rfl, Lib.hid rfl, H0.out⟩
      case round =>
        clear H0
        obtain ⟨j, hjg, rfl, hps, hN⟩ := hrel
        cases gk with
        | zero =>
          have hj3 : ¬ (j : Int) < 3 := by omega
          have HTS := Lib.hid (show T.sh = true by
            have := hps.out
            rw [List.take_of_length_le (by rw [HP3.out]; omega)] at this
            exact this)
          clear hjg hps HIX HNOT
          clear HP3
          go_wp2
          go_region_held3 (fun W => W.cell? ⟨g6, 0, none⟩ = some (.int .i64 k0) ∧ W.cell? ⟨g6, 1, none⟩ = some (.string a0) ∧ W.cell? ⟨g6, 2, none⟩ = some (.string b0) ∧ W.cell? ⟨g6, 3, none⟩ = some (.string d0) ∧ W.cell? ⟨g6, 4, none⟩ = some (.int .i64 k1) ∧ W.cell? ⟨g6, 5, none⟩ = some (.string a1) ∧ W.cell? ⟨g6, 6, none⟩ = some (.string b1) ∧ W.cell? ⟨g6, 7, none⟩ = some (.string d1) ∧ W.cell? ⟨g6, 8, none⟩ = some (.int .i64 k2) ∧ W.cell? ⟨g6, 9, none⟩ = some (.string a2) ∧ W.cell? ⟨g6, 10, none⟩ = some (.string b2) ∧ W.cell? ⟨g6, 11, none⟩ = some (.string d2))
            (first | exact Fb.c12 (Nw.fb (by assumption)) | exact Fb.c12 (Nw.fb (Nw.drew (by assumption))) | exact Fb.c12 (Nw.fb (Nw.alloc (by assumption) _)) | exact Fb.c12 (by assumption))
            (first
              | (go_at_call 11; (with_reducible refine (nw_of (by first | assumption | exact Nw.drew (by assumption)) (cP0 _)).mono ?_); rintro e wa ⟨rfl, hNa⟩)
              | (go_at_call 11; (with_reducible refine (nw_of (by first | assumption | exact Nw.drew (by assumption)) (cP1 _)).mono ?_); rintro e wb ⟨rfl, hNb⟩)
              | (go_at_call 11; (with_reducible refine (nw_of (by first | assumption | exact Nw.drew (by assumption)) (cP2 _)).mono ?_); rintro e wc ⟨rfl, hNc⟩)
              | (refine step_append_lies _ rfl _ _ 65 rfl w.heap.size 34 i0 (.agg #[.int .i64 0, .string ⟨#[]⟩, .string ⟨#[]⟩, .string ⟨#[]⟩, .int .i64 0, .string ⟨#[]⟩, .string ⟨#[]⟩, .string ⟨#[]⟩, .int .i64 0, .string ⟨#[]⟩, .string ⟨#[]⟩, .string ⟨#[]⟩]) 12 168 Try.underlying65 hi hz0 hz1 hz2 rfl (by decide) _ _ _ rfl (Nw.alloc hNc _).2.1 ⟨wc.heap.size, 0, none⟩ 1 1 [.int .i64 e0, .string f0, .string g0, .string h0, .int .i64 e1, .string f1, .string g1, .string h1, .int .i64 e2, .string f2, .string g2, .string h2] rfl rfl (cells_new _ _ _) (oc12 _ _ _ _ _ _ _ _ _ _ _ _) (by decide) (by have := HIG.out; have := HLL.out; unfold maxLen; omega) (by have := HIG.out; have := HLL.out; omega) (by have := (Nw.alloc hNc (.cells #[] 32)).1.size; simpa using this) _ rfl ?_; intro g5 c5 w5 hown hgrow hloc hg5; have hA5 := Nw.app (Nw.alloc hNc _) rfl HNEWS.out hown hgrow; have hF5 := Nw.grown (Nw.alloc hNc _) HNE.out hgrow))
          all_goals
            clear hNa hNb hNc hown hgrow hloc hg5 hF5
            go_wp2
            go_roundg g
            case measure => exact Nat.lt_succ_self g
            case rel => exact ⟨i + 1, some ⟨g5, 0, none⟩, c5, by have := HIG.out; omega, by have h9 : i < 10 := (by have := HIG.out; omega); first | rfl | (rw [IntWalk.wrap64_in _ ⟨by omega, by omega⟩, Int.natCast_succ]), by rw [HLL.out], Lib.hid (by rw [HSA.out, HSH.out, HTS.out]; rfl), by rw [HSN.out, ← HLL.out]; exact hA5.1, hA5.2⟩
        | succ g3 =>
          have hj3 : (j : Int) < 3 := by omega
          obtain ⟨r, hr⟩ : ∃ r, T.parts[j]? = some r := ⟨_, List.getElem?_eq_getElem (by rw [HP3.out]; omega)⟩
          have hx := HIX.out j r hr
          have hnx := HNOT.out j r hr
          have hst : (T.parts.take (j + 1)).all Dw.sh = ((T.parts.take j).all Dw.sh && r.sh) := by rw [List.take_add_one, hr]; simp
          obtain ⟨rk, ra, rb, rc⟩ := r
          by_cases hsr : Dw.sh ⟨rk, ra, rb, rc⟩ = true
          · have HST : Hid ((T.parts.take (j + 1)).all Dw.sh = true) := Lib.hid (by rw [hst, hps.out, hsr]; rfl)
            unfold Dw.sh at hsr
            simp only [Bool.and_eq_true, decide_eq_true_eq] at hsr
            have q1 : ¬ (300 : Int) < (ra.size : Int) := by omega
            have q2 : ¬ (300 : Int) < (rb.size : Int) := by omega
            have q3 : ¬ (100 : Int) < (rc.size : Int) := by omega
            have HN := Lib.hid (hN.alloc (.cells #[.int .i64 rk, .string ra, .string rb, .string rc] 32))
            have HJ := Lib.hid hjg
            clear hst hsr hr hnx hN hjg hps
            go_wp2
            go_roundg g3
            case measure => exact Nat.lt_succ_self g3
            case rel => exact ⟨j + 1, by have := HJ.out; omega, by first | rfl | go_num, HST, HN.out⟩
          · have HNX := Lib.hid (hnx (by simpa using hsr))
            have hways : (300 : Int) < (ra.size : Int) ∨ (¬ (300 : Int) < (ra.size : Int) ∧ (300 : Int) < (rb.size : Int)) ∨ (¬ (300 : Int) < (ra.size : Int) ∧ ¬ (300 : Int) < (rb.size : Int) ∧ (100 : Int) < (rc.size : Int)) := by
              unfold Dw.sh at hsr
              simp only [Bool.and_eq_true, decide_eq_true_eq] at hsr
              omega
            have HN := Lib.hid (hN.alloc (.cells #[.int .i64 rk, .string ra, .string rb, .string rc] 32))
            clear hst hsr hr hnx hN hjg hps
            rcases hways with q1 | ⟨q1, q2⟩ | ⟨q1, q2, q3⟩
            all_goals
              go_wp2
              (repeat rw [Exit.noGoto_ret])
              go_ret2
              exact few_no HNX.out HN.out.1
end Go.Proofs.Ytpnfjjgihkmjmaa
