/-
  MERGED (a claim has at most 60 files): NPl, NFew, NTri, NPrs.
-/
import Derived.Test.YtehechbiajbobaaZ13
import Derived.Test.YtehechbiajbobaaZ12
import Derived.ProofKit
import Derived.Test.YtehechbiajbobaaZ11
import Derived.Deep.AppendLies
import Derived.Deep.RegionHeld3
/-
  WHAT THE LAWS MAKE OF A TERM OF THE DOCUMENT's (becklaw04.Plain); a box; a scanner and a box.
-/
namespace Go.Proofs.Ytehechbiajbobaa
open Go.RowKit
set_option linter.unusedVariables false
set_option linter.unusedSimpArgs false

/-- The term that the law makes of one. -/
def pl3 (k : Int) (a b c : ByteArray) : Tm := if k % 18446744073709551616 % 3 = 0 then .blank a else if k % 18446744073709551616 % 3 = 1 then .iri a else .lit a b c
set_option maxHeartbeats 2000000 in
theorem plain3_any (k : Int) (hk : -9223372036854775808 ≤ k ∧ k ≤ 9223372036854775807) (a b c : ByteArray) (w : World) : Calls Try.prog 7 #[F4 k a b c] w fun e w' => e = .returned (T4 (pl3 k a b c)) ∧ Below w.heap.size w w' := by
  obtain ⟨r, hr⟩ : ∃ r, r = k % 18446744073709551616 % 3 := ⟨_, rfl⟩
  have h3 : r = 0 ∨ r = 1 ∨ r = 2 := by omega
  have hw : wrap64 ((IntKind.u64.wrap k).tmod 3) = r := by
    rw [show IntKind.u64.wrap k = k % 18446744073709551616 from rfl, Int.tmod_eq_emod_of_nonneg (by omega), ← hr]
    exact IntWalk.wrap64_in r ⟨by omega, by omega⟩
  unfold pl3
  rw [← hr]
  clear hr hk
  rcases h3 with rfl | rfl | rfl
  · rw [if_pos rfl]
    simp only [T4, Tm.kind, Tm.ta, Tm.tb, Tm.tc]
    go_enter Try.func7, Try.ntmps7
    go_wp2
    exact bodyPost_ret (v := F4 0 a mt mt) (by simp [results, Try.results7, go_sem]) rfl ⟨rfl, ((Below.refl _ _).alloc (Nat.le_refl _) _).alloc (by simp) _⟩
  · rw [if_neg (by decide), if_pos rfl]
    simp only [T4, Tm.kind, Tm.ta, Tm.tb, Tm.tc]
    go_enter Try.func7, Try.ntmps7
    go_wp2
    exact bodyPost_ret (v := F4 1 a mt mt) (by simp [results, Try.results7, go_sem]) rfl ⟨rfl, ((Below.refl _ _).alloc (Nat.le_refl _) _).alloc (by simp) _⟩
  · rw [if_neg (by decide), if_neg (by decide)]
    simp only [T4, Tm.kind, Tm.ta, Tm.tb, Tm.tc]
    go_enter Try.func7, Try.ntmps7
    go_wp2
    exact bodyPost_ret (v := F4 2 a b c) (by simp [results, Try.results7, go_sem]) rfl ⟨rfl, ((Below.refl _ _).alloc (Nat.le_refl _) _).alloc (by simp) _⟩
theorem pl3_small (k : Int) (a b c : ByteArray) : (pl3 k a b c).ta.size ≤ a.size ∧ (pl3 k a b c).tb.size ≤ b.size ∧ (pl3 k a b c).tc.size ≤ c.size := by
  unfold pl3
  split
  · exact ⟨Nat.le_refl _, Nat.zero_le _, Nat.zero_le _⟩
  split
  · exact ⟨Nat.le_refl _, Nat.zero_le _, Nat.zero_le _⟩
  · exact ⟨Nat.le_refl _, Nat.le_refl _, Nat.le_refl _⟩
theorem pl3_real (k : Int) (a b c : ByteArray) (w : World) : Calls Try.prog 8 #[T4 (pl3 k a b c)] w fun e w' => e = .returned (pl3 k a b c).val ∧ Below w.heap.size w w' := by
  apply real_any
  unfold pl3
  split
  · exact .inl rfl
  split
  · exact .inr (.inl rfl)
  · exact .inr (.inr (.inl rfl))
theorem pl3_val (k : Int) (a b c : ByteArray) : ∃ ty x, (pl3 k a b c).val = .iface ty x := by
  unfold pl3
  split
  · exact ⟨_, _, rfl⟩
  split
  · exact ⟨_, _, rfl⟩
  · exact ⟨_, _, rfl⟩
theorem tS_len (t : Tm) : (tS t).length ≤ 6 * t.ta.size + t.tb.size + t.tc.size + 8 := by
  cases t with
  | iri s => have := sg_small s; unfold tS; simp [Tm.ta, Tm.tb, Tm.tc]; omega
  | blank s => have := sg_small s; unfold tS; simp [Tm.ta, Tm.tb, Tm.tc]; omega
  | lit a b c =>
    have h1 := sg_small a
    have h2 := sg_small b
    have h3 := sg_small c
    have h4 := body_six (sgP a).1
    have h5 := quoS_len (sgP a).1
    unfold tS tailS
    simp only [Tm.ta, Tm.tb, Tm.tc, List.length_append]
    split
    · split
      · simp; omega
      · simp; omega
    · simp; omega
  | odd n => unfold tS; simp
  | none => unfold tS; simp
/-- A box, wherever. -/
def Ny (w : World) (g : Nat) (cs : Array Value) (W : World) : Prop := Below w.heap.size w W ∧ Fb W g 32 cs
section
variable {w : World} {g : Nat} {cs : Array Value}
theorem Ny.below {W W' : World} (h : Ny w g cs W) (hb : Below W.heap.size W W') : Ny w g cs W' := ⟨h.1.trans (hb.mono h.1.size), h.2.below hb⟩
theorem Ny.mk {W : World} (hb : Below w.heap.size w W) (cs : Array Value) : Ny w W.heap.size cs (W.alloc (.cells cs 32)) := ⟨hb.alloc hb.size _, Fb.new _ _ _⟩
theorem Ny.cells {x0 x1 x2 x3 : Value} {W : World} (h : Ny w g #[x0, x1, x2, x3] W) : W.cell? ⟨g, 0, none⟩ = some x0 ∧ W.cell? ⟨g, 1, none⟩ = some x1 ∧ W.cell? ⟨g, 2, none⟩ = some x2 ∧ W.cell? ⟨g, 3, none⟩ = some x3 := ⟨h.2.cell 0, h.2.cell 1, h.2.cell 2, h.2.cell 3⟩
theorem ny_of {W : World} {f : Nat} {args : Array Value} {y : Value} (h : Ny w g cs W) (k : Calls Try.prog f args W fun e w' => e = .returned y ∧ Below W.heap.size W w') :
    Calls Try.prog f args W fun e w' => e = .returned y ∧ Ny w g cs w' := k.mono fun _ _ ⟨x, z⟩ => ⟨x, h.below z⟩
end
section
variable {w : World} {b : Nat} {v : Value} {sl : List Int} {k g : Nat} {cs : Array Value}
end
end Go.Proofs.Ytehechbiajbobaa

/-
  FEW TRIPLES OF THE DOCUMENT's (becklaw04.Few): the first ten, made plain, if none of them is long.
-/
namespace Go.Proofs.Ytehechbiajbobaa
open Go.RowKit
set_option linter.unusedVariables false
set_option linter.unusedSimpArgs false

/-! ### Plain -/
def c4 (t : Tm) : List Value := [.int .i64 t.kind, .string t.ta, .string t.tb, .string t.tc]
def cellsD (L : List (List Tm)) : List Value := L.flatMap fun ts => ts.flatMap c4
theorem cellsD_snoc (L : List (List Tm)) (ts : List Tm) : cellsD (L ++ [ts]) = cellsD L ++ ts.flatMap c4 := by simp [cellsD]
/-- The document's triples in a slice of the call's own. -/
def DtV (B : Nat) (W : World) (v : Value) (L : List (List Tm)) : Prop := W.ownsRow B 34 12 v L.length (cellsD L)
theorem dtV_nil (B : Nat) (W : World) : DtV B W (.slice none 0 0) [] := World.ownsRow_nil _ _ _ _
theorem DtV.below {B : Nat} {w w' : World} {v : Value} {l : List (List Tm)} (h : DtV B w v l) (hb : Below w.heap.size w w') : DtV B w' v l := by
  refine ⟨h.1, ?_⟩
  rcases id h.2 with x | ⟨g, cap, cur, hv, hg, hh, rest⟩
  · exact .inl x
  · exact .inr ⟨g, cap, cur, hv, hg, (hb.block g (Array.getElem?_eq_some_iff.1 hh).1).trans hh, rest⟩
theorem DtV.shape {B : Nat} {W : World} {v : Value} {l : List (List Tm)} (h : DtV B W v l) : ∃ A c, v = .slice A l.length c := by
  rcases id h.2 with ⟨hv, hl⟩ | ⟨g, cap, cur, hv, _⟩
  · exact ⟨none, 0, by rw [hv, hl]⟩
  · exact ⟨_, cap, hv⟩
noncomputable def Dw.pl (r : Dw) : Tm := pl3 r.k r.a r.b r.c
def Dw.sh (r : Dw) : Bool := decide (r.a.size ≤ 300) && (decide (r.b.size ≤ 300) && decide (r.c.size ≤ 100))
def Dt.parts (t : Dt) : List Dw := [t.s, t.p, t.o]
def Dt.sh (t : Dt) : Bool := t.parts.all Dw.sh
noncomputable def Dt.pl (t : Dt) : List Tm := t.parts.map Dw.pl
noncomputable def fewL (l : List Dt) : List (List Tm) := (l.take 10).map Dt.pl
def fewB (l : List Dt) : Bool := (l.take 10).all Dt.sh
theorem rtripInfo : (Try.prog.info? 34).map (fun i => (i.zero, i.size, i.bytes)) = some (some (.agg #[.int .i64 0, .string ⟨#[]⟩, .string ⟨#[]⟩, .string ⟨#[]⟩, .int .i64 0, .string ⟨#[]⟩, .string ⟨#[]⟩, .string ⟨#[]⟩, .int .i64 0, .string ⟨#[]⟩, .string ⟨#[]⟩, .string ⟨#[]⟩]), 12, 168) := by kernel_rfl
/-- A slice of triples, a box. -/
def Nw (w : World) (v : Value) (L : List (List Tm)) (g : Nat) (cs : Array Value) (W : World) : Prop := Below w.heap.size w W ∧ DtV w.heap.size W v L ∧ Fb W g 34 cs
section
variable {w : World} {v : Value} {L : List (List Tm)} {g : Nat} {cs : Array Value}
theorem Nw.below {W W' : World} (h : Nw w v L g cs W) (hb : Below W.heap.size W W') : Nw w v L g cs W' := ⟨h.1.trans (hb.mono h.1.size), h.2.1.below hb, h.2.2.below hb⟩
theorem Nw.drew {W : World} (h : Nw w v L g cs W) : Nw w v L g cs W.drew := ⟨Below.drew h.1, h.2.1, h.2.2⟩
theorem Nw.alloc {W : World} (h : Nw w v L g cs W) (o : Obj) : Nw w v L g cs (W.alloc o) := h.below ((Below.refl _ _).alloc (Nat.le_refl _) o)
theorem nw_of {W : World} {f : Nat} {args : Array Value} {y : Value} (h : Nw w v L g cs W) (c : Calls Try.prog f args W fun e w' => e = .returned y ∧ Below W.heap.size W w') :
    Calls Try.prog f args W fun e w' => e = .returned y ∧ Nw w v L g cs w' := c.mono fun _ _ ⟨x, z⟩ => ⟨x, h.below z⟩
theorem Nw.all {x0 x1 x2 x3 x4 x5 x6 x7 x8 x9 xa xb : Value} {W : World} (h : Nw w v L g #[x0, x1, x2, x3, x4, x5, x6, x7, x8, x9, xa, xb] W) :
    W.cell? ⟨g, 0, none⟩ = some x0 ∧ W.cell? ⟨g, 1, none⟩ = some x1 ∧ W.cell? ⟨g, 2, none⟩ = some x2 ∧ W.cell? ⟨g, 3, none⟩ = some x3 ∧ W.cell? ⟨g, 4, none⟩ = some x4 ∧ W.cell? ⟨g, 5, none⟩ = some x5 ∧
    W.cell? ⟨g, 6, none⟩ = some x6 ∧ W.cell? ⟨g, 7, none⟩ = some x7 ∧ W.cell? ⟨g, 8, none⟩ = some x8 ∧ W.cell? ⟨g, 9, none⟩ = some x9 ∧ W.cell? ⟨g, 10, none⟩ = some xa ∧ W.cell? ⟨g, 11, none⟩ = some xb ∧ Nw w v L g #[x0, x1, x2, x3, x4, x5, x6, x7, x8, x9, xa, xb] W :=
  ⟨h.2.2.cell 0, h.2.2.cell 1, h.2.2.cell 2, h.2.2.cell 3, h.2.2.cell 4, h.2.2.cell 5, h.2.2.cell 6, h.2.2.cell 7, h.2.2.cell 8, h.2.2.cell 9, h.2.2.cell 10, h.2.2.cell 11, h⟩
end
theorem Nw.app {w : World} {v : Value} {L : List (List Tm)} {g : Nat} {cs : Array Value} {W w5 : World} {v' : Value} {ts : List Tm} {n : Nat} {news : List Value} (h : Nw w v L g cs W) (hn : n = L.length + 1) (hw : news = ts.flatMap c4) (hown : w5.ownsRow w.heap.size 34 12 v' n (cellsD L ++ news)) (hg : W.grownBy w5 v.ownBlock) :
    DtV w.heap.size w5 v' (L ++ [ts]) ∧ Below w.heap.size w w5 := by
  subst hn hw
  refine ⟨?_, h.1.grown hg h.1.size (fun j hj => (World.ownsRow.lt h.2.1 j hj).1)⟩
  unfold DtV
  rw [cellsD_snoc, List.length_append]
  exact hown
theorem cells_new (w : World) (cs : List Value) (t : TypeId) : ∀ (j : Nat) (u : Value), cs[j]? = some u → (w.alloc (.cells cs.toArray t)).cell? ((⟨w.heap.size, 0, none⟩ : Addr).add j) = some u := fun j u h => by
  rw [at_add, Nat.zero_add, (Fb.new w t cs.toArray).cell j]
  simpa using h
theorem Nw.fb {w : World} {v : Value} {L : List (List Tm)} {g : Nat} {cs : Array Value} {W : World} (h : Nw w v L g cs W) : Fb W g 34 cs := h.2.2
theorem Fb.c12 {W : World} {g : Nat} {ty : TypeId} {x0 x1 x2 x3 x4 x5 x6 x7 x8 x9 xa xb : Value} (h : Fb W g ty #[x0, x1, x2, x3, x4, x5, x6, x7, x8, x9, xa, xb]) :
    W.cell? ⟨g, 0, none⟩ = some x0 ∧ W.cell? ⟨g, 1, none⟩ = some x1 ∧ W.cell? ⟨g, 2, none⟩ = some x2 ∧ W.cell? ⟨g, 3, none⟩ = some x3 ∧ W.cell? ⟨g, 4, none⟩ = some x4 ∧ W.cell? ⟨g, 5, none⟩ = some x5 ∧
    W.cell? ⟨g, 6, none⟩ = some x6 ∧ W.cell? ⟨g, 7, none⟩ = some x7 ∧ W.cell? ⟨g, 8, none⟩ = some x8 ∧ W.cell? ⟨g, 9, none⟩ = some x9 ∧ W.cell? ⟨g, 10, none⟩ = some xa ∧ W.cell? ⟨g, 11, none⟩ = some xb :=
  ⟨h.cell 0, h.cell 1, h.cell 2, h.cell 3, h.cell 4, h.cell 5, h.cell 6, h.cell 7, h.cell 8, h.cell 9, h.cell 10, h.cell 11⟩
theorem oc12 (k0 : Int) (a0 b0 c0 : ByteArray) (k1 : Int) (a1 b1 c1 : ByteArray) (k2 : Int) (a2 b2 c2 : ByteArray) : ∀ u ∈ [Value.int .i64 k0, .string a0, .string b0, .string c0, .int .i64 k1, .string a1, .string b1, .string c1, .int .i64 k2, .string a2, .string b2, .string c2], u.oneCell' = true := fun u hu => by
  simp only [List.mem_cons, List.not_mem_nil, or_false] at hu
  rcases hu with rfl | rfl | rfl | rfl | rfl | rfl | rfl | rfl | rfl | rfl | rfl | rfl <;> rfl
/-- The box, where only the row of the slice turns. -/
theorem Nw.grown {w : World} {v : Value} {L : List (List Tm)} {g : Nat} {cs : Array Value} {W w5 : World} (h : Nw w v L g cs W) (hne : v.ownBlock ≠ some g) (hg : W.grownBy w5 v.ownBlock) : Fb w5 g 34 cs :=
  (hg.block g h.2.2.lt (fun e => hne e.symm)).trans h.2.2
def FwI (w : World) (l : List Dt) (g : Nat) (s4 s11 : Value) (wr : World) : Prop := ∃ (i : Nat) (A : Option Addr) (c : Nat), i + g = min l.length 10 ∧ s11 = .int .i64 i ∧ s4 = .slice A i c ∧ Hid ((l.take i).all Dt.sh = true) ∧ DtV w.heap.size wr (.slice A i c) ((l.take i).map Dt.pl) ∧ Below w.heap.size w wr
def FxI (w : World) (v : Value) (L : List (List Tm)) (g6 : Nat) (cs : Array Value) (t : Dt) (g : Nat) (s25 : Value) (wr : World) : Prop := ∃ j : Nat, j + g = 3 ∧ s25 = .int .i64 j ∧ Hid ((t.parts.take j).all Dw.sh = true) ∧ Nw w v L g6 cs wr
theorem few_done {l : List Dt} {i : Nat} (hi : i = min l.length 10) (h : (l.take i).all Dt.sh = true) : fewB l = true ∧ fewL l = (l.take i).map Dt.pl := by
  have e : l.take i = l.take 10 := by
    subst hi
    rcases Nat.le_total l.length 10 with h | h
    · rw [Nat.min_eq_left h, List.take_of_length_le (Nat.le_refl _), List.take_of_length_le h]
    · rw [Nat.min_eq_right h]
  exact ⟨by unfold fewB; rw [← e]; exact h, by unfold fewL; rw [e]⟩
theorem few_not {l : List Dt} {i j : Nat} {t : Dt} {r : Dw} (hi : i < 10) (ht : l[i]? = some t) (hr : t.parts[j]? = some r) (h : r.sh = false) : fewB l = false := by
  unfold fewB
  rw [Bool.eq_false_iff]
  intro ha
  have h1 : t ∈ l.take 10 := List.mem_of_getElem? (i := i) (by rw [List.getElem?_take_of_lt hi]; exact ht)
  have h2 := List.all_eq_true.1 ha t h1
  unfold Dt.sh at h2
  have h3 := List.all_eq_true.1 h2 r (List.mem_of_getElem? hr)
  rw [h] at h3
  cases h3
def FewPost (w : World) (l : List Dt) (e : Ending) (w' : World) : Prop := ∃ v, e = .returned (.tuple #[v, .bool (fewB l)]) ∧ (fewB l = true → DtV w.heap.size w' v (fewL l)) ∧ Below w.heap.size w w'
theorem few_yes {w w' : World} {l : List Dt} {v : Value} (h : fewB l = true) (hd : DtV w.heap.size w' v (fewL l)) (hb : Below w.heap.size w w') : FewPost w l (.returned (.tuple #[v, .bool true])) w' := ⟨v, by rw [h], fun _ => hd, hb⟩
theorem few_no {w w' : World} {l : List Dt} {v : Value} (h : fewB l = false) (hb : Below w.heap.size w w') : FewPost w l (.returned (.tuple #[v, .bool false])) w' := ⟨v, by rw [h], fun e => (by rw [h] at e; cases e), hb⟩
end Go.Proofs.Ytehechbiajbobaa

/-
  A LINE's TRIPLE (package nt): all ways.
-/
namespace Go.Proofs.Ytehechbiajbobaa
open Go.RowKit
set_option linter.unusedVariables false
set_option linter.unusedSimpArgs false

/-- May a term stand in a part of a triple? -/
def mayB (t : Tm) (part : Nat) : Bool := (t.kind == 1) || (((t.kind == 0) && !(part == 1)) || ((t.kind == 2) && (part == 2)))
/-! ### mayStand -/
set_option maxRecDepth 100000 in
set_option maxHeartbeats 2000000 in
theorem nmay_any (t : Tm) (part : Nat) (w : World) : Calls Try.prog 37 #[t.val, .int .i64 part] w fun e w' => e = .returned (.bool (mayB t part)) ∧ Below w.heap.size w w' := by
  have cK := kind_any t
  obtain ⟨r, hr⟩ : ∃ r, r = mayB t part := ⟨_, rfl⟩
  rw [← hr]
  unfold mayB at hr
  have hk : t.kind = 0 ∨ t.kind = 1 ∨ t.kind = 2 ∨ t.kind = 3 := by cases t <;> simp [Tm.kind]
  obtain ⟨k, hkk⟩ : ∃ k, k = t.kind := ⟨_, rfl⟩
  obtain ⟨v, hv⟩ : ∃ k, k = t.val := ⟨_, rfl⟩
  rw [← hkk] at cK hr hk
  rw [← hv] at cK ⊢
  have e1 : ((part : Int) != 1) = !(part == 1) := by rw [Bool.eq_iff_iff, bne_iff_ne, Bool.not_eq_true', beq_eq_false_iff_ne]; omega
  have e2 : ((part : Int) == 2) = (part == 2) := by rw [Bool.eq_iff_iff, beq_iff_eq, beq_iff_eq]; omega
  obtain ⟨p1, hp1⟩ : ∃ p, p = (part == 1) := ⟨_, rfl⟩
  obtain ⟨p2, hp2⟩ : ∃ p, p = (part == 2) := ⟨_, rfl⟩
  rw [← hp1] at e1 hr
  rw [← hp2] at e2 hr
  clear hkk hv hp1 hp2
  rcases hk with rfl | rfl | rfl | rfl
  all_goals
    have HR : Hid (r = _) := Lib.hid hr
    clear hr
    go_enter Try.func37, Try.ntmps37
    go_wp2_with (go_at_call 36; (with_reducible refine (cK _).mono ?_); rintro e w1 ⟨rfl, hb1⟩)
    go_ret
    exact ⟨ret_bool (by rw [HR.out]; simp), hb1⟩
section
variable {w : World} {B b : Nat} {v : Value} {sl : List Int} {k : Nat} {ps : Array Value}
end
theorem iface_of {t : Tm} (h : t.kind < 3) : ∃ ty x, t.val = .iface ty x := by
  cases t with
  | blank s => exact ⟨_, _, rfl⟩
  | iri s => exact ⟨_, _, rfl⟩
  | lit a b c => exact ⟨_, _, rfl⟩
  | odd n => exact ⟨_, _, rfl⟩
  | none => exact absurd h (by decide)
end Go.Proofs.Ytehechbiajbobaa

/-
  LINES OF TRIPLES: plain; a slice of triples; the world in which they are parsed.
-/
namespace Go.Proofs.Ytehechbiajbobaa
open Go.RowKit
set_option linter.unusedVariables false

/-! ### Slices of triples -/
def cellsT (l : List (List Tm)) : List Value := l.flatMap fun ts => ts.map Tm.val
theorem cellsT_snoc (l : List (List Tm)) (ts : List Tm) : cellsT (l ++ [ts]) = cellsT l ++ ts.map Tm.val := by simp [cellsT]
def TrsV (B : Nat) (W : World) (v : Value) (l : List (List Tm)) : Prop := W.ownsRow B 57 3 v l.length (cellsT l)
theorem TrsV.shape {B : Nat} {W : World} {v : Value} {l : List (List Tm)} (h : TrsV B W v l) : ∃ A c, v = .slice A l.length c := by
  rcases id h.2 with ⟨hv, hl⟩ | ⟨g, cap, cur, hv, _⟩
  · exact ⟨none, 0, by rw [hv, hl]⟩
  · exact ⟨_, cap, hv⟩
theorem TrsV.below {B : Nat} {w w' : World} {v : Value} {l : List (List Tm)} (h : TrsV B w v l) (hb : Below w.heap.size w w') : TrsV B w' v l := by
  refine ⟨h.1, ?_⟩
  rcases id h.2 with x | ⟨g, cap, cur, hv, hg, hh, rest⟩
  · exact .inl x
  · exact .inr ⟨g, cap, cur, hv, hg, (hb.block g (Array.getElem?_eq_some_iff.1 hh).1).trans hh, rest⟩
section
variable {w : World} {b : Nat} {v : Value} {sl : List Int} {k : Nat} {vL : Value} {acc : List (List Tm)}
end
end Go.Proofs.Ytehechbiajbobaa
