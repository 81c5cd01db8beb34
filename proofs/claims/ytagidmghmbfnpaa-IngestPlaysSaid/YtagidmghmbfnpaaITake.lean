/-
  THE HEAP: takeBelow.
-/
import Derived.Test.YtagidmghmbfnpaaIPop
namespace Go.Proofs.Ytagidmghmbfnpaa
open Go.RowKit
set_option linter.unusedVariables false
set_option linter.unusedSimpArgs false
set_option maxRecDepth 100000

section
variable {B d : Nat} {s : Bs} {v : Value} {l : List It}
theorem Bc.grown {W1 W2 : World} (h : Bc B d s v l W1) {row : Option Nat} (hg : W1.grownBy W2 row) {N : Nat} (hr : ∀ k, row = some k → N ≤ k) (hd : d < N) (hv : ∀ k, v.ownBlock = some k → k < N) : Bc B d s v l W2 := by
  refine ⟨(hg.block d h.lt (fun e => by have := hr d e.symm; omega)).trans h.st, ?_, h.gd⟩
  refine World.ownsRow.kept h.row hg ?_
  cases hk : v.ownBlock with
  | none => exact .inl rfl
  | some k => exact .inr (fun e => by have := hr k e.symm; have := hv k hk; omega)
theorem Tn.grown {v' : Value} {W W1 W2 : World} (h : Tn d v v' W W1) {row : Option Nat} (hg : W1.grownBy W2 row) (hr : ∀ k, row = some k → W.heap.size ≤ k) : Tn d v v' W W2 :=
  ⟨hg.os.trans h.os, hg.tape.trans h.tape, hg.output.trans h.output, Nat.le_trans h.size hg.size, h.far, fun k h1 h2 h3 => (hg.block k (Nat.lt_of_lt_of_le h1 h.size) (fun e => by have := hr k e.symm; omega)).trans (h.block k h1 h2 h3)⟩
/-- A row apart from the buffer's stays. -/
theorem Tn.row {v' : Value} {W W' : World} (h : Tn d v v' W W') {u : Value} {out : List It} {N : Nat} (hr : ItR N W u out) (hd : d < N) (hv : ∀ k, v.ownBlock = some k → k < N) : ItR N W' u out := by
  refine ⟨hr.1, ?_⟩
  rcases id hr.2 with hn | ⟨g, cap, cur, hu, hge, hg, rest⟩
  · exact .inl hn
  · exact .inr ⟨g, cap, cur, hu, hge, (h.block g (Array.getElem?_eq_some_iff.1 hg).1 (by omega) (fun e => by have := hv g e; omega)).trans hg, rest⟩
end
/-- What was taken, and what stays. -/
structure Tkn (B d : Nat) (s : Bs) (v : Value) (l : List It) (W : World) (T : Int) (u : Value) (out : List It) (v' : Value) (rest : List It) (w' : World) : Prop where
  bc : Bc B d s v' rest w'
  tn : Tn d v v' W w'
  own : v'.ownBlock = v.ownBlock
  row : ItR W.heap.size w' u out
  pm : (out ++ rest).Perm l
  hp : Hp rest rest.length
  ord : Ord out
  lo : ∀ x ∈ out, x.t < T
  le : ∀ x ∈ out, ∀ y ∈ rest, LeI x y
def TakePost (B d : Nat) (s : Bs) (v : Value) (l : List It) (W : World) (T : Int) (e : Ending) (w' : World) : Prop := ∃ u out v' rest, e = .returned u ∧ Tkn B d s v l W T u out v' rest w' ∧ ∀ x ∈ rest, T ≤ x.t
def TkRel (B d : Nat) (s : Bs) (v : Value) (l : List It) (W : World) (T : Int) (g : Nat) (s5 : Value) (wr : World) : Prop := ∃ out v' rest, g = rest.length ∧ Tkn B d s v l W T s5 out v' rest wr
theorem Tkn.stop {B d : Nat} {s : Bs} {v : Value} {l : List It} {W : World} {T : Int} {u : Value} {out : List It} {v' : Value} {rest : List It} {w' : World} (h : Tkn B d s v l W T u out v' rest w') (hs : rest = [] ∨ T ≤ (itAt rest 0).t) : ∀ x ∈ rest, T ≤ x.t := fun x hx => by
  rcases hs with rfl | hs
  · cases hx
  · have := h.hp.mem x hx
    unfold LeI at this
    omega
theorem Tkn.go {B d : Nat} {s : Bs} {v : Value} {l : List It} {W : World} {T : Int} {u : Value} {out : List It} {v1 : Value} {rest : List It} {w1 : World} (h : Tkn B d s v l W T u out v1 rest w1) (hT : (itAt rest 0).t < T)
    {v2 : Value} {rest2 : List It} {w2 w3 w4 : World} {u4 : Value} (hb : Bc B d s v2 rest2 w2) (ht : Tn d v1 v2 w1 w2) (ho : v2.ownBlock = v1.ownBlock) (hp : (itAt rest 0 :: rest2).Perm rest) (hh : Hp rest2 rest2.length)
    (hd : d < W.heap.size) (hv : ∀ k, v.ownBlock = some k → k < W.heap.size) (h23 : Below w2.heap.size w2 w3) (hg : w3.grownBy w4 u.ownBlock) (hr : ItR W.heap.size w4 u4 (out ++ [itAt rest 0])) : Tkn B d s v l W T u4 (out ++ [itAt rest 0]) v2 rest2 w4 := by
  have h0 := h.row
  have hrow : ∀ k, u.ownBlock = some k → W.heap.size ≤ k := fun k hk => (World.ownsRow.lt h0 k hk).1
  have hv2 : v2.ownBlock = v.ownBlock := ho.trans h.own
  have b3 := hb.below h23
  have t12 := h.tn.trans ht
  have t3 : Tn d v v2 W w3 := t12.trans (Tn.of h23)
  have hmin := h.hp.mem
  refine ⟨b3.grown hg hrow hd (by rw [hv2]; exact hv), t3.grown hg hrow, hv2, hr, ?_, hh, ?_, ?_, ?_⟩
  · rw [List.append_assoc]
    exact (hp.append_left out).trans h.pm
  · refine List.pairwise_append.2 ⟨h.ord, List.pairwise_singleton _ _, fun x hx y hy => ?_⟩
    rw [List.mem_singleton.1 hy]
    exact h.le x hx _ (hp.mem_iff.1 List.mem_cons_self)
  · intro x hx
    rcases List.mem_append.1 hx with hx | hx
    · exact h.lo x hx
    · rw [List.mem_singleton.1 hx]; exact hT
  · intro x hx y hy
    have hy' := hp.mem_iff.1 (List.mem_cons_of_mem _ hy)
    rcases List.mem_append.1 hx with hx | hx
    · exact h.le x hx y hy'
    · rw [List.mem_singleton.1 hx]; exact hmin y hy'
set_option maxHeartbeats 16000000 in
theorem itake_any {W : World} {B d : Nat} {s : Bs} {v : Value} {l : List It} (h : Bc B d s v l W) (hl : l.length ≤ 5000) (hp : Hp l l.length) (T : Int) :
    Calls Try.prog 24 #[.pointer (some ⟨d, 6, none⟩), .int .i64 T] W (TakePost B d s v l W T) := by
  obtain ⟨iT, hT0, hT1, hT2, hT3⟩ := info_parts itInfo
  have HS := Lib.hid (show TkRel B d s v l W T l.length (.slice none 0 0) W from ⟨[], v, l, rfl, ⟨h, Tn.refl _, rfl, itR_nil _ _, List.Perm.refl _, hp, List.Pairwise.nil, fun x hx => (by cases hx), fun x hx => (by cases hx)⟩⟩)
  have HDV := Lib.hid (show d < W.heap.size ∧ ∀ k, v.ownBlock = some k → k < W.heap.size from ⟨h.lt, fun k hk => (h.row_ge hk).2⟩)
  have HN := Lib.hid hl
  clear h hp hl
  go_enter Try.func24, Try.ntmps24
  go_wp2
  go_loopg [5] l.length (fun gk s5 wr => TkRel B d s v l W T gk s5 wr)
  case atStart => exact HS.out
  case round =>
    clear HS
    obtain ⟨out, v1, rest, rfl, hK⟩ := hrel
    obtain ⟨A1, c1, rfl⟩ := hK.bc.row.shape
    have c6 := hK.bc.c6
    have hlen : out.length + rest.length = l.length := by have := hK.pm.length_eq; simpa using this
    by_cases h0 : rest.length = 0
    · have t1 : ¬ (0 : Int) < (rest.length : Int) := by omega
      have HE := Lib.hid (hK.stop (.inl (List.length_eq_zero_iff.1 h0)))
      have HK := Lib.hid hK
      clear hK h0 hlen
      go_wp2
      go_ret
      exact ⟨_, out, _, rest, rfl, HK.out, HE.out⟩
    · have t1 : (0 : Int) < (rest.length : Int) := by omega
      obtain ⟨g, c', e, _, _, hcc⟩ := hK.bc.row.full (by omega)
      injection e with e1 e2 e3
      subst e1 e3
      obtain ⟨a0, _, _, _, _⟩ := hK.bc.row.at (itAt_lt (l := rest) (i := 0) (by omega))
      rw [Nat.zero_mul] at a0
      by_cases hT : (itAt rest 0).t < T
      · have cP := hpop_any hK.bc (by have := HN.out; omega) (by omega) hK.hp
        obtain ⟨A5, c5', hu⟩ := hK.row.shape
        subst hu
        have HGO := Lib.hid (fun (v2 : Value) (rest2 : List It) (w2 w3 w4 : World) (u4 : Value) => Tkn.go (v2 := v2) (rest2 := rest2) (w2 := w2) (w3 := w3) (w4 := w4) (u4 := u4) hK hT)
        have HRW := Lib.hid (fun (v2 : Value) (w2 : World) (ht : Tn d (.slice (some ⟨g, 0, none⟩) rest.length c1) v2 wr w2) => Tn.row ht hK.row HDV.out.1 (by rw [hK.own]; exact HDV.out.2))
        have HSZ := Lib.hid hK.tn.size
        have HL := Lib.hid hlen
        unfold HPopPost at cP
        have hpl : ∀ (rest2 : List It), (itAt rest 0 :: rest2).Perm rest → rest2.length < rest.length := fun rest2 hp => by have := hp.length_eq; simp at this; omega
        have HPL := Lib.hid hpl
        have hx5 : c5 (itAt rest 0) = [.int .i64 (itAt rest 0).t, .int .i64 (itAt rest 0).s, .int .i64 (itAt rest 0).a, .int .i64 (itAt rest 0).b, .int .i64 (itAt rest 0).c] := rfl
        have hte : (itAt rest 0).t < T := hT
        generalize itAt rest 0 = x at *
        obtain ⟨xt, xs, xa, xb, xc⟩ := x
        dsimp only at *
        have HX5 := Lib.hid hx5
        have ta := ta_item (.bool true)
        have H1 := Lib.hid (show ∀ u ∈ ([.int .i64 xt, .int .i64 xs, .int .i64 xa, .int .i64 xb, .int .i64 xc] : List Value), u.oneCell' = true from fun u hu => by
          simp only [List.mem_cons, List.not_mem_nil, or_false] at hu
          rcases hu with rfl | rfl | rfl | rfl | rfl <;> rfl)
        have HNW := Lib.hid (fun w2 : World => World.news_of_block (heap_alloc_new w2 (.cells #[.int .i64 xt, .int .i64 xs, .int .i64 xa, .int .i64 xb, .int .i64 xc] 63)))
        clear hK h0 hlen hcc e2 hT hx5 hpl
        go_wp2_with (first
          | (go_at_call 28; (with_reducible refine cP.mono ?_); rintro e w2 ⟨rfl, v2, rest2, hB2, hT2, hO2, hP2, hH2⟩; have HB2 := Lib.hid hB2; have HT2 := Lib.hid hT2; have HO2 := Lib.hid hO2; have HP2 := Lib.hid hP2; have HH2 := Lib.hid hH2; have HR2 := Lib.hid (HRW.out v2 w2 hT2); clear hB2 hT2 hO2 hP2 hH2)
          | (at_builtin; refine wpList_append_lies _ rfl (.tmp 21) (.tmp 26) 44 rfl W.heap.size 63 iT (.agg #[.int .i64 0, .int .i64 0, .int .i64 0, .int .i64 0, .int .i64 0]) 5 40 Try.underlying44 hT0 hT1 hT2 hT3 rfl (by decide) (.slice A5 out.length c5') out.length (out.flatMap c5) rfl (World.ownsRow.alloc HR2.out _) ⟨w2.heap.size, 0, none⟩ 1 1 [.int .i64 xt, .int .i64 xs, .int .i64 xa, .int .i64 xb, .int .i64 xc] rfl rfl (HNW.out w2) H1.out (by decide) (by have := HL.out; have := HN.out; unfold maxLen; omega) (by have := HL.out; have := HN.out; omega) (by have := HSZ.out; have := HT2.out.size; simp; omega) _ rfl ?_; intro g6 c6' w6 hown hgrow hloc hlt; have HOW := Lib.hid hown; have HGR := Lib.hid hgrow; clear hown hgrow hloc hlt))
        go_roundg rest2.length
        case measure => exact HPL.out _ HP2.out
        case rel =>
          refine ⟨out ++ [⟨xt, xs, xa, xb, xc⟩], v2, rest2, rfl, HGO.out v2 rest2 w2 _ w6 _ HB2.out HT2.out HO2.out HP2.out HH2.out HDV.out.1 HDV.out.2 ((Below.refl _ _).alloc (Nat.le_refl _) _) HGR.out ?_⟩
          have := HOW.out
          unfold ItR
          rw [List.length_append, List.flatMap_append]
          simpa [c5] using this
      · have HE := Lib.hid (hK.stop (.inr (by omega)))
        have HK := Lib.hid hK
        generalize (itAt rest 0).t = t0 at *
        clear hK h0 hlen hcc e2
        go_wp2
        go_ret
        exact ⟨_, out, _, rest, rfl, HK.out, HE.out⟩
end Go.Proofs.Ytagidmghmbfnpaa
