/-
  MERGED (a claim has at most 60 files): ReadB, ReadC.
-/
import Derived.Test.YtpnfjjgihkmjmaaGreatDoorZ05
import Derived.Test.YtpnfjjgihkmjmaaGreatDoorZ02
/-
  READING WHAT IS QUOTED: one sign behind a backslash; the whole of what Quote has written.
-/
namespace Go.Proofs.YtpnfjjgihkmjmaaGreatDoor
open Go.RowKit
set_option linter.unusedVariables false

theorem bd_grown {T e : TypeId} {B Bb b : Nat} {bs : List Value} {W W' : World} {cs : Array Value} {U : TypeId} {fz : Nat × Nat} (h : Lib.IsBuilderF T e B Bb bs W) (hb : W.heap[b]? = some (.cells cs U fz)) (hT : T ≠ U) (he : e ≠ U) (hg : W.grownBy W' (some b)) : Lib.IsBuilderF T e B Bb bs W' := by
  have key : ∀ p, Lib.BuilderAtF T e B Bb p bs W → Lib.BuilderAtF T e B Bb p bs W' := by
    intro p ⟨hB, v, hbk, hown, hne⟩
    have h1 : Bb ≠ b := by
      intro x
      rw [x, hb] at hbk
      cases hbk
      exact hT rfl
    refine ⟨hB, v, (hg.block Bb (Array.getElem?_eq_some_iff.1 hbk).1 (fun x => h1 (Option.some.inj x))).trans hbk, hown.kept hg (Or.inr ?_), hne⟩
    intro x
    obtain ⟨c, f, hc⟩ := Lib.ownsRowF_kind hown b x
    rw [hb] at hc
    cases hc
    exact he rfl
  exact h.elim (fun x => .inl (key _ x)) (fun x => .inr (key _ x))
theorem below_grown {w w' : World} (h : Below w.heap.size w w') (row : Option Nat) : w.grownBy w' row := ⟨h.os, h.tape, h.output, h.size, fun k hk _ => h.block k hk⟩
theorem grown_ext {w W W' : World} {row : Option Nat} (h : w.grownBy W row) (k : Below w.heap.size W W') : w.grownBy W' row := ⟨k.os.trans h.os, k.tape.trans h.tape, k.output.trans h.output, Nat.le_trans h.size k.size, fun i hi hr => (k.block i hi).trans (h.block i hi hr)⟩
theorem Sc.below2 {B n : Nat} {w w' : World} {b : Nat} {v : Value} {sl : List Int} {k : Nat} (h : Sc B w b v sl k) (hb : Below n w w') (h1 : b < n) (h2 : ∀ g, v.ownBlock = some g → g < n) : Sc B w' b v sl k := by
  refine ⟨(hb.block b h1).trans h.blk, ⟨h.row.1, ?_⟩, h.ge⟩
  rcases h.row.2 with x | ⟨g, cap, cur, hv, hg, hh, rest⟩
  · exact .inl x
  · exact .inr ⟨g, cap, cur, hv, hg, (hb.block g (h2 g (by rw [hv]; rfl))).trans hh, rest⟩
theorem Sc.below3 {B : Nat} {w w' : World} {b : Nat} {v : Value} {sl : List Int} {k : Nat} (h : Sc B w b v sl k) (hb : Below w.heap.size w w') : Sc B w' b v sl k :=
  h.below2 hb (Array.getElem?_eq_some_iff.1 h.blk).1 (fun g hg => (World.ownsRow.lt h.row g hg).2)

set_option maxHeartbeats 4000000 in
set_option maxRecDepth 100000 in
theorem escape_letter {B : Nat} {w : World} {b : Nat} {v : Value} {sl : List Int} {k : Nat} {c n : Int} (h : Sc B w b v sl k) (hl : sl.length ≤ 4294967296) (hx : sl[k]? = some c) (hu : unl c = n) (h0 : 0 ≤ n)
    (t : TypeId) (fr : Nat × Nat) (htab : ∀ W, Same w W → W.heap[0]? = some (.cells escCells t fr)) :
    Calls Tryz.prog 131 #[.pointer (some ⟨b, 0, none⟩)] w fun e w' => e = .returned (.tuple #[.int .i32 n, .bool true]) ∧ Moves B w b v sl (k + 1) w' := by
  have hki : k < sl.length := (List.getElem?_eq_some_iff.1 hx).1
  have hP : ∀ W, Same w W → Calls Tryz.prog 66 #[.pointer (some ⟨b, 0, none⟩)] W fun e w' => e = .returned (.int .i32 c) ∧ Same w w' := fun W s => (peek_sign (s.sc h) hx hl).mono fun _ _ ⟨x, y⟩ => ⟨x, s.trans y⟩
  have hE : ∀ W, Same w W → Calls Tryz.prog 134 #[.int .i32 c] W fun e w' => e = .returned (.tuple #[.int .i32 n, .bool true]) ∧ Sc B w' b v sl k ∧ w.grownBy w' (some b) := fun W s => (escaped_any c W t fr (htab W s)).mono fun _ _ ⟨x, y⟩ => ⟨by rw [x, ← escRes_ok c n hu h0], (s.sc h).below3 y, grown_trans (same_grown s _) (below_grown y _)⟩
  have e1 : (c == 117) = false := by
    have : c ≠ 117 := by intro e; subst e; have : n = -1 := by rw [← hu]; rfl
                         omega
    simpa using this
  have e2 : (c == 85) = false := by
    have : c ≠ 85 := by intro e; subst e; have : n = -1 := by rw [← hu]; rfl
                        omega
    simpa using this
  have hs0 : Same w w := Same.refl w
  clear h hx hu htab
  go_enter Tryz.func131, Tryz.ntmps131
  go_wp2_with (first
    | (go_at_call 66; (with_reducible refine (hP _ (by assumption)).mono ?_); rintro e w3 ⟨rfl, hs3⟩)
    | (go_at_call 134; (with_reducible refine (hE _ (by assumption)).mono ?_); rintro e w4 ⟨rfl, hsc4, hg4⟩; have c14 := hsc4.c1; have f14 := hsc4.f1))
  go_ret2
  exact ⟨rfl, by exact hsc4.place (k + 1), grown_trans hg4 (grown_set w4 b 1 _)⟩

set_option maxHeartbeats 4000000 in
set_option maxRecDepth 100000 in
theorem escape_u {B : Nat} {w : World} {b : Nat} {v : Value} {sl ds : List Int} {k : Nat} (h : Sc B w b v sl k) (hl : sl.length ≤ 4294967296) (hx : sl[k]? = some 117) (hds : ds = (sl.drop (k + 1)).take ds.length) (hd4 : ds.length = 4)
    (hh : ∀ d ∈ ds, 0 ≤ hexv d) (hv : numV ds < 2147483648) (hs : sgn (numV ds) = true) :
    Calls Tryz.prog 131 #[.pointer (some ⟨b, 0, none⟩)] w fun e w' => e = .returned (.tuple #[.int .i32 (numV ds), .bool true]) ∧ Moves B w b v sl (k + 5) w' := by
  have hki : k < sl.length := (List.getElem?_eq_some_iff.1 hx).1
  have hP := peek_sign h hx hl
  have hN : ∀ W, Sc B W b v sl (k + 1) → Calls Tryz.prog 133 #[.pointer (some ⟨b, 0, none⟩), .int .i64 4] W fun e w' => e = .returned (.tuple #[.int .i32 (numV ds), .bool true]) ∧ Moves B W b v sl (k + 5) w' := fun W s => by
    have := number_good s hl hds (by omega) hh hv hs
    rw [hd4] at this
    exact this
  have HS := Lib.hid h
  obtain ⟨R, hR⟩ : ∃ R, R = numV ds := ⟨_, rfl⟩
  rw [← hR] at hN ⊢
  clear h hx hds hd4 hh hv hs hR
  go_enter Tryz.func131, Tryz.ntmps131
  go_wp2_with (first
    | (go_at_call 66; (with_reducible refine hP.mono ?_); rintro e w3 ⟨rfl, hs3⟩; have h3 := hs3.sc HS.out; have c13 := h3.c1; have f13 := h3.f1; have h4 : Sc B (w3.setCell ⟨b, 1, none⟩ (.int .i64 ((k : Int) + 1))) b v sl (k + 1) := h3.place (k + 1))
    | (go_at_call 133; (with_reducible refine (hN _ (by assumption)).mono ?_); rintro e w4 ⟨rfl, hM4⟩))
  go_ret2
  exact ⟨rfl, hM4.1, grown_trans (grown_trans (same_grown hs3 _) (grown_set w3 b 1 _)) hM4.2⟩
end Go.Proofs.YtpnfjjgihkmjmaaGreatDoor

/-
  READING WHAT Quote HAS WRITTEN: 'readQuoted' and 'Quoted' on a quoted text, whatever stands behind.
-/
namespace Go.Proofs.YtpnfjjgihkmjmaaGreatDoor
open Go.RowKit
set_option linter.unusedVariables false

/-- A scanner at place k, a builder that holds acc, and what is older but the scanner as it was. -/
def RS (w : World) (B b : Nat) (v : Value) (sl : List Int) (N k : Nat) (acc : List Int) (W : World) : Prop :=
  Sc B W b v sl k ∧ Lib.IsBuilderF 94 5 N N (Lib.byteCells (encL acc)) W ∧ w.grownBy W (some b) ∧ N = w.heap.size ∧ b < N ∧ ∀ g, v.ownBlock = some g → g < N
section
variable {w : World} {B b : Nat} {v : Value} {sl : List Int} {N k : Nat} {acc : List Int}
theorem RS.grown {k' : Nat} {W W' : World} (h : RS w B b v sl N k acc W) (m : Moves B W b v sl k' W') : RS w B b v sl N k' acc W' :=
  ⟨m.1, bd_grown h.2.1 h.1.blk (by decide) (by decide) m.2, grown_trans h.2.2.1 m.2, h.2.2.2.1, h.2.2.2.2.1, h.2.2.2.2.2⟩
theorem RS.same {W W' : World} (h : RS w B b v sl N k acc W) (s : Same W W') : RS w B b v sl N k acc W' := h.grown ⟨s.sc h.1, same_grown s _⟩
theorem rs_end (hk : k < sl.length) (hl : sl.length ≤ 4294967296) : EverT (RS w B b v sl N k acc) 35 #[.pointer (some ⟨b, 0, none⟩)] (.returned (.bool false)) (RS w B b v sl N k acc) :=
  fun _ h => (end_no h.1 hk hl).mono fun _ _ ⟨x, y⟩ => ⟨x, h.same y⟩
theorem rs_next {x : Int} (hx : sl[k]? = some x) (hl : sl.length ≤ 4294967296) : EverT (RS w B b v sl N k acc) 67 #[.pointer (some ⟨b, 0, none⟩)] (.returned (.int .i32 x)) (RS w B b v sl N (k + 1) acc) :=
  fun _ h => (next_sign' h.1 hx hl).mono fun _ _ ⟨x, y⟩ => ⟨x, h.grown y⟩
theorem rs_letter {c n : Int} (hx : sl[k]? = some c) (hl : sl.length ≤ 4294967296) (hu : unl c = n) (h0 : 0 ≤ n) (t : TypeId) (fr : Nat × Nat) (htab : ∀ W, w.grownBy W (some b) → W.heap[0]? = some (.cells escCells t fr)) :
    EverT (RS w B b v sl N k acc) 131 #[.pointer (some ⟨b, 0, none⟩)] (.returned (.tuple #[.int .i32 n, .bool true])) (RS w B b v sl N (k + 1) acc) :=
  fun _ h => (escape_letter h.1 hl hx hu h0 t fr (fun W s => htab W (grown_trans h.2.2.1 (same_grown s _)))).mono fun _ _ ⟨x, y⟩ => ⟨x, h.grown y⟩
theorem rs_u {ds : List Int} (hx : sl[k]? = some 117) (hl : sl.length ≤ 4294967296) (hds : ds = (sl.drop (k + 1)).take ds.length) (hd4 : ds.length = 4) (hh : ∀ d ∈ ds, 0 ≤ hexv d) (hv : numV ds < 2147483648) (hs : sgn (numV ds) = true) :
    EverT (RS w B b v sl N k acc) 131 #[.pointer (some ⟨b, 0, none⟩)] (.returned (.tuple #[.int .i32 (numV ds), .bool true])) (RS w B b v sl N (k + 5) acc) :=
  fun _ h => (escape_u h.1 hl hx hds hd4 hh hv hs).mono fun _ _ ⟨x, y⟩ => ⟨x, h.grown y⟩
theorem rs_write (n : Int) (hn : sgn n = true) (hacc : acc.length ≤ 1000000) : EverT (RS w B b v sl N k acc) 112 #[.pointer (some ⟨N, 0, none⟩), .int .i32 n] (.returned (.tuple #[.int .i64 (Lib.runeCells n).length, .nilIface])) (RS w B b v sl N k (acc ++ [n])) := by
  intro W h
  have hr := (sgn_iff n).1 hn
  have hN : N ≤ W.heap.size := by rw [h.2.2.2.1]; exact h.2.2.1.size
  have hlen := (encL_len acc).2
  refine (Tryz.Builder_WriteRune_k N N _ n (by omega) (by omega) W h.2.1 (by rw [Lib.byteCells_length]; omega) hN).mono fun e w' ⟨x, y, z, _⟩ => ⟨x, ?_⟩
  refine ⟨h.1.below2 z h.2.2.2.2.1 h.2.2.2.2.2, .inr ?_, grown_ext h.2.2.1 (z.mono (by rw [h.2.2.2.1]; exact Nat.le_refl _)), h.2.2.2.1, h.2.2.2.2.1, h.2.2.2.2.2⟩
  rw [encL_append, show encL [n] = Lib.encodeRune n by simp [encL], Lib.byteCells_append, Lib.byteCells_encodeRune]
  exact y
theorem rs_string : EverT (RS w B b v sl N k acc) 47 #[.pointer (some ⟨N, 0, none⟩)] (.returned (.string (textOf acc))) (RS w B b v sl N k acc) := by
  intro W h
  have hN : N ≤ W.heap.size := by rw [h.2.2.2.1]; exact h.2.2.1.size
  refine (Tryz.Builder_String_any_k N N (encL acc) W h.2.1 hN).mono fun e w' ⟨x, y, z, _⟩ => ⟨x, ?_⟩
  exact ⟨h.1.below2 z h.2.2.2.2.1 h.2.2.2.2.2, y, grown_ext h.2.2.1 (z.mono (by rw [h.2.2.2.1]; exact Nat.le_refl _)), h.2.2.2.1, h.2.2.2.2.1, h.2.2.2.2.2⟩
end
/-- The relation of the loop: the signs a are read. -/
def QR (w : World) (B b : Nat) (v : Value) (sl la : List Int) (N g : Nat) (wr : World) : Prop :=
  ∃ a r, la = a ++ r ∧ r.length = g ∧ RS w B b v sl N (1 + (bodyS a).length) a wr
theorem bodyS_snoc (a : List Int) (n : Int) : (bodyS (a ++ [n])).length = (bodyS a).length + (escS n).length := by simp [bodyS]
theorem rest_at (la lm a r : List Int) (n : Int) (h : la = a ++ n :: r) : (quoS la ++ lm).drop (1 + (bodyS a).length) = escS n ++ (bodyS r ++ (34 :: lm)) := by
  have : quoS la ++ lm = (34 :: bodyS a) ++ (escS n ++ (bodyS r ++ (34 :: lm))) := by rw [h]; simp [quoS, bodyS]
  rw [this, show 1 + (bodyS a).length = (34 :: bodyS a).length by simp; omega, List.drop_left]
theorem rest_end (la lm : List Int) : (quoS la ++ lm).drop (1 + (bodyS la).length) = 34 :: lm := by
  have : quoS la ++ lm = (34 :: bodyS la) ++ (34 :: lm) := by simp [quoS]
  rw [this, show 1 + (bodyS la).length = (34 :: bodyS la).length by simp; omega, List.drop_left]
theorem at_drop {l : List Int} {k : Nat} {n : Int} {r : List Int} (h : l.drop k = n :: r) : l[k]? = some n := by
  have := congrArg (·[0]?) h
  simpa [List.getElem?_drop] using this
theorem drop_tail {l : List Int} {k : Nat} {n : Int} {r : List Int} (h : l.drop k = n :: r) : l.drop (k + 1) = r := by
  rw [show l.drop (k + 1) = (l.drop k).drop 1 by rw [List.drop_drop], h]; rfl
theorem unl_lett (n : Int) (h : lett n ≠ 0) : unl (lett n) = n ∧ 0 ≤ n := by
  have hc : n = 9 ∨ n = 10 ∨ n = 13 ∨ n = 8 ∨ n = 12 ∨ n = 34 ∨ n = 92 := by unfold lett at h; omega
  rcases hc with rfl | rfl | rfl | rfl | rfl | rfl | rfl <;> decide
theorem numV_ctl (n : Int) (h0 : 0 ≤ n) (h1 : n < 160) : numV [48, 48, hx (n / 16), hx (n % 16)] = n := by
  have e1 := hexv_hx (n / 16) (by omega) (by omega)
  have e2 := hexv_hx (n % 16) (by omega) (by omega)
  have e0 : hexv 48 = 0 := by decide
  simp only [numV, List.foldl_cons, List.foldl_nil, e0, e1, e2]
  omega
theorem bodyS_le (l : List Int) : l.length ≤ (bodyS l).length := by
  have h := bodyS_bytes l
  induction l with
  | nil => simp
  | cons n t ih =>
    have := esc_head n []
    have h1 : 1 ≤ (escS n).length := by
      obtain ⟨m, r, he, _⟩ := esc_head n []
      rw [List.append_nil] at he
      rw [he]; simp
    have := ih (bodyS_bytes t)
    unfold bodyS at *
    rw [List.flatMap_cons, List.length_append, List.length_cons]
    omega

set_option maxHeartbeats 8000000 in
set_option maxRecDepth 100000 in
theorem readq_good {B : Nat} {w : World} {b : Nat} {v : Value} (la lm sl : List Int) (hsl : sl = quoS la ++ lm) (h : Sc B w b v sl 0) (hall : AllS la) (hl : sl.length ≤ 100000)
    (t : TypeId) (fr : Nat × Nat) (htab : w.heap[0]? = some (.cells escCells t fr)) :
    Calls Tryz.prog 125 #[.pointer (some ⟨b, 0, none⟩)] w fun e w' => e = .returned (.tuple #[.string (textOf la), .bool true]) ∧ Moves B w b v sl (quoS la).length w' := by
  have hb0 : (0 : Nat) ≠ b := by
    intro e
    rw [e, h.blk] at htab
    simp only [Option.some.injEq, Obj.cells.injEq] at htab
    have := congrArg Array.size htab.1
    simp [escCells] at this
  have hT : ∀ W, w.grownBy W (some b) → W.heap[0]? = some (.cells escCells t fr) := fun W g => (g.block 0 (Array.getElem?_eq_some_iff.1 htab).1 (fun e => hb0 (by cases e; rfl))).trans htab
  have hx0 : sl[0]? = some 34 := by rw [hsl]; rfl
  have hl0 : 0 < sl.length := (List.getElem?_eq_some_iff.1 hx0).1
  have hP := peek_sign h hx0 (by omega)
  have hbw : b < w.heap.size := (Array.getElem?_eq_some_iff.1 h.blk).1
  have hvw : ∀ g, v.ownBlock = some g → g < w.heap.size := fun g hg => (World.ownsRow.lt h.row g hg).2
  have HS := Lib.hid h
  have HSL := Lib.hid hsl
  have HA := Lib.hid hall
  clear h hsl hall htab hx0
  go_enter Tryz.func125, Tryz.ntmps125
  go_wp2_with (go_at_call 66; (with_reducible refine hP.mono ?_); rintro e w3 ⟨rfl, hs3⟩; have h3 := hs3.sc HS.out; have c13 := h3.c1; have f13 := h3.f1)
  obtain ⟨N, hN⟩ : ∃ N, N = w3.heap.size := ⟨_, rfl⟩
  have hNw : N = w.heap.size := by rw [hN, hs3.heap]
  have hstart : RS w B b v sl N 1 [] ((w3.setCell ⟨b, 1, none⟩ (.int .i64 1)).alloc (.cells #[.pointer none, .slice none 0 0] 94)) := by
    have hp1 : Sc B (w3.setCell ⟨b, 1, none⟩ (.int .i64 1)) b v sl 1 := h3.place 1
    have hfr := Lib.fresh_isBuilder 94 5 (w3.setCell ⟨b, 1, none⟩ (.int .i64 1))
    rw [World.size_setCell, ← hN] at hfr
    refine ⟨hp1.below3 ((Below.refl _ _).alloc (Nat.le_refl _) _), Lib.IsBuilderF.of hfr, ?_, hNw, by rw [hNw]; exact hbw, by rw [hNw]; exact hvw⟩
    exact grown_trans (grown_trans (same_grown hs3 _) (grown_set w3 b 1 _)) (below_grown ((Below.refl _ _).alloc (Nat.le_refl _) _) _)
  have HST := Lib.hid hstart
  clear hstart h3 c13 f13
  rw [← hN]
  have HNN := Lib.hid hN
  have HNW := Lib.hid hNw
  clear hN hNw
  go_loopg [] la.length (fun g wr => QR w B b v sl la N g wr)
  case atStart => exact ⟨[], la, rfl, rfl, HST.out⟩
  case round =>
    obtain ⟨a, r, har, hrl, hR⟩ := hrel
    have hacc : a.length ≤ 1000000 := by
      have h1 := congrArg List.length HSL.out
      have h2 := bodyS_le la
      have h3 : a.length ≤ la.length := by rw [har]; simp
      simp [quoS] at h1
      omega
    cases gk with
    | zero =>
      obtain rfl : r = [] := List.length_eq_zero_iff.1 hrl
      have hla : la = a := by rw [har, List.append_nil]
      have hx : sl[1 + (bodyS a).length]? = some 34 := by rw [HSL.out, ← hla]; exact at_drop (rest_end la lm)
      have hk := (List.getElem?_eq_some_iff.1 hx).1
      have cE := rs_end (w := w) (B := B) (b := b) (v := v) (N := N) (acc := a) hk (by omega)
      have cN := rs_next (w := w) (B := B) (b := b) (v := v) (N := N) (acc := a) hx (by omega)
      have cS := rs_string (w := w) (B := B) (b := b) (v := v) (sl := sl) (N := N) (k := 1 + (bodyS a).length + 1) (acc := a)
      have HLA := Lib.hid hla
      clear hx har hrl hla hk
      go_wp2_with (first
        | (go_at_call 35; (with_reducible refine (cE.at (by assumption)).mono ?_); rintro e x1 ⟨rfl, hR1⟩)
        | (go_at_call 67; (with_reducible refine (cN.at (by assumption)).mono ?_); rintro e x2 ⟨rfl, hR2⟩)
        | (go_at_call 47; (with_reducible refine (cS.at (by assumption)).mono ?_); rintro e x3 ⟨rfl, hR3⟩))
      go_ret2
      refine ⟨by rw [HLA.out]; rfl, ?_, hR3.2.2.1⟩
      have hq : (quoS la).length = 1 + (bodyS a).length + 1 := by rw [HLA.out]; simp [quoS]; omega
      rw [hq]
      exact hR3.1
    | succ g =>
      obtain ⟨n, r', rfl⟩ : ∃ n r', r = n :: r' := by
        match r, hrl with
        | n :: r', _ => exact ⟨n, r', rfl⟩
      have hn : sgn n = true := HA.out n (by rw [har]; simp)
      have hd : sl.drop (1 + (bodyS a).length) = escS n ++ (bodyS r' ++ (34 :: lm)) := by rw [HSL.out]; exact rest_at la lm a r' n har
      have hsn := bodyS_snoc a n
      have HR' : ∀ W, RS w B b v sl N (1 + (bodyS (a ++ [n])).length) (a ++ [n]) W → QR w B b v sl la N g W := fun W x => ⟨a ++ [n], r', by rw [har]; simp, by simpa using hrl, x⟩
      have HQ := Lib.hid HR'
      have HSN := Lib.hid hsn
      clear HR' hsn hrl har
      by_cases hlt : lett n ≠ 0
      · have hes : escS n = [92, lett n] := by unfold escS; rw [if_pos hlt]
        rw [hes] at hd
        have hx := at_drop hd
        have hk := (List.getElem?_eq_some_iff.1 hx).1
        have hx2 := at_drop (drop_tail hd)
        obtain ⟨hu, hn0⟩ := unl_lett n hlt
        have cE := rs_end (w := w) (B := B) (b := b) (v := v) (N := N) (acc := a) hk (by omega)
        have cN := rs_next (w := w) (B := B) (b := b) (v := v) (N := N) (acc := a) hx (by omega)
        have cL := rs_letter (w := w) (B := B) (b := b) (v := v) (N := N) (acc := a) hx2 (by omega) hu hn0 t fr hT
        have cW := rs_write (w := w) (B := B) (b := b) (v := v) (sl := sl) (N := N) (k := 1 + (bodyS a).length + 1 + 1) (acc := a) n hn hacc
        have HES := Lib.hid hes
        clear hx hx2 hd hk hlt hes hn hu hn0 hT hP
        go_wp2_with (first
          | (go_at_call 35; (with_reducible refine (cE.at (by assumption)).mono ?_); rintro e x1 ⟨rfl, hR1⟩)
          | (go_at_call 67; (with_reducible refine (cN.at (by assumption)).mono ?_); rintro e x2 ⟨rfl, hR2⟩)
          | (go_at_call 131; (with_reducible refine (cL.at (by assumption)).mono ?_); rintro e x3 ⟨rfl, hR3⟩)
          | (go_at_call 112; (with_reducible refine (cW.at (by assumption)).mono ?_); rintro e x4 ⟨rfl, hR4⟩))
        go_roundg g
        case measure => omega
        case rel =>
          refine HQ.out _ ?_
          rw [HSN.out, HES.out]
          exact hR4
      · by_cases hc4 : cls n = 4
        · have hes : escS n = [92, 117, 48, 48, hx (n / 16), hx (n % 16)] := by unfold escS; rw [if_neg hlt, if_pos hc4]
          rw [hes] at hd
          have hr4 := cls4_range n hc4
          have hx' := at_drop hd
          have hk := (List.getElem?_eq_some_iff.1 hx').1
          have hx2 := at_drop (drop_tail hd)
          have hd3 := drop_tail (drop_tail hd)
          have hnv := numV_ctl n hr4.1 hr4.2
          have cE := rs_end (w := w) (B := B) (b := b) (v := v) (N := N) (acc := a) hk (by omega)
          have cN := rs_next (w := w) (B := B) (b := b) (v := v) (N := N) (acc := a) hx' (by omega)
          have cL := rs_u (w := w) (B := B) (b := b) (v := v) (N := N) (acc := a) (ds := [48, 48, hx (n / 16), hx (n % 16)]) hx2 (by omega) (by rw [hd3]; rfl) rfl (by
            intro d hd'
            simp at hd'
            have q1 := hexv_hx (n / 16) (by omega) (by omega)
            have q2 := hexv_hx (n % 16) (by omega) (by omega)
            rcases hd' with rfl | rfl | rfl
            · decide
            · omega
            · omega) (by rw [hnv]; omega) (by rw [hnv]; exact hn)
          rw [hnv] at cL
          have cW := rs_write (w := w) (B := B) (b := b) (v := v) (sl := sl) (N := N) (k := 1 + (bodyS a).length + 1 + 5) (acc := a) n hn hacc
          have HES := Lib.hid hes
          clear hx' hx2 hd hk hlt hes hn hd3 hnv hc4 hr4 hT hP
          go_wp2_with (first
            | (go_at_call 35; (with_reducible refine (cE.at (by assumption)).mono ?_); rintro e x1 ⟨rfl, hR1⟩)
            | (go_at_call 67; (with_reducible refine (cN.at (by assumption)).mono ?_); rintro e x2 ⟨rfl, hR2⟩)
            | (go_at_call 131; (with_reducible refine (cL.at (by assumption)).mono ?_); rintro e x3 ⟨rfl, hR3⟩)
            | (go_at_call 112; (with_reducible refine (cW.at (by assumption)).mono ?_); rintro e x4 ⟨rfl, hR4⟩))
          go_roundg g
          case measure => omega
          case rel =>
            refine HQ.out _ ?_
            rw [HSN.out, HES.out]
            exact hR4
        · have hes : escS n = [n] := by unfold escS; rw [if_neg hlt, if_neg hc4]
          rw [hes] at hd
          have hx := at_drop hd
          have hk := (List.getElem?_eq_some_iff.1 hx).1
          have cE := rs_end (w := w) (B := B) (b := b) (v := v) (N := N) (acc := a) hk (by omega)
          have cN := rs_next (w := w) (B := B) (b := b) (v := v) (N := N) (acc := a) hx (by omega)
          have cW := rs_write (w := w) (B := B) (b := b) (v := v) (sl := sl) (N := N) (k := 1 + (bodyS a).length + 1) (acc := a) n hn hacc
          have g34 : (n == 34) = false := by have : n ≠ 34 := fun e => hlt (by rw [e]; decide)
                                             simpa using this
          have g10 : (n == 10) = false := by have : n ≠ 10 := fun e => hlt (by rw [e]; decide)
                                             simpa using this
          have g13 : (n == 13) = false := by have : n ≠ 13 := fun e => hlt (by rw [e]; decide)
                                             simpa using this
          have g92 : (n == 92) = false := by have : n ≠ 92 := fun e => hlt (by rw [e]; decide)
                                             simpa using this
          have HES := Lib.hid hes
          clear hx hd hk hlt hc4 hes hn hT hP
          go_wp2_with (first
            | (go_at_call 35; (with_reducible refine (cE.at (by assumption)).mono ?_); rintro e x1 ⟨rfl, hR1⟩)
            | (go_at_call 67; (with_reducible refine (cN.at (by assumption)).mono ?_); rintro e x2 ⟨rfl, hR2⟩)
            | (go_at_call 112; (with_reducible refine (cW.at (by assumption)).mono ?_); rintro e x3 ⟨rfl, hR3⟩))
          go_roundg g
          case measure => omega
          case rel =>
            refine HQ.out _ ?_
            rw [HSN.out, HES.out]
            exact hR3

theorem same_drewN (w : World) (m : Nat) : Same w (w.drewN m) := ⟨rfl, rfl, rfl, rfl⟩
set_option maxHeartbeats 4000000 in
set_option maxRecDepth 100000 in
theorem quoted_good {B : Nat} {w : World} {b : Nat} {v : Value} (la lm sl : List Int) (hsl : sl = quoS la ++ lm) (h : Sc B w b v sl 0) (hall : AllS la) (hl : sl.length ≤ 100000)
    (t : TypeId) (fr : Nat × Nat) (htab : w.heap[0]? = some (.cells escCells t fr)) :
    Calls Tryz.prog 113 #[.pointer (some ⟨b, 0, none⟩)] w fun e w' => e = .returned (.tuple #[.string (textOf la), .int .i64 (quoS la).length, .int .i64 0]) ∧ Moves B w b v sl (quoS la).length w' := by
  have hR := readq_good la lm sl hsl h hall hl t fr htab
  have c1 := h.c1
  clear hsl h hall htab
  go_enter Tryz.func113, Tryz.ntmps113
  go_wp2_with (go_at_call 125; (with_reducible refine hR.mono ?_); rintro e w2 ⟨rfl, hM⟩; have c12 := hM.1.c1)
  have HM := Lib.hid hM
  clear hM hR c1
  go_quiet (fail)
  go_wp2
  go_ret3
  refine ⟨rfl, Same.sc HM.out.1 ⟨rfl, rfl, rfl, rfl⟩, grown_trans HM.out.2 ?_⟩
  exact same_grown (same_drewN _ _) _
end Go.Proofs.YtpnfjjgihkmjmaaGreatDoor
