/-
  A LIST OF KEYS: remove, of a key that is there.
-/
import Derived.Test.YtoiigplflmejmaaSGenY
import Derived.Test.YtoiigplflmejmaaSDelB
import Derived.Deep.RegionLaw
namespace Go.Proofs.Ytoiigplflmejmaa
open Go.RowKit
set_option linter.unusedVariables false
set_option linter.unusedSimpArgs false
set_option maxRecDepth 100000

set_option maxHeartbeats 8000000 in
/-- join of the block ahead of the first one: nothing. -/
theorem sjoin_neg (d o : Nat) (W : World) : Calls Try.prog 40 #[.pointer (some ⟨d, o, none⟩), .int .i64 (-1)] W fun e w' => e = .returned (.tuple #[]) ∧ Below W.heap.size W w' := by
  have HB := Lib.hid (Below.refl W.heap.size W)
  go_enter Try.func40, Try.ntmps40
  go_wp2
  go_quiet (fail)
  go_wp2
  refine bodyPost_ret (results_none rfl _ _ _) rfl ?_
  exact ⟨rfl, below_drewP HB.out _⟩
set_option maxHeartbeats 8000000 in
/-- join of the last block: nothing. -/
theorem sjoin_last {d o cb : Nat} {A : Option Addr} {W : World} (h1 : W.cell? ⟨d, o + 1, none⟩ = some (.slice A 1 cb)) : Calls Try.prog 40 #[.pointer (some ⟨d, o, none⟩), .int .i64 0] W fun e w' => e = .returned (.tuple #[]) ∧ Below W.heap.size W w' := by
  have HB := Lib.hid (Below.refl W.heap.size W)
  go_enter Try.func40, Try.ntmps40
  go_wp2
  go_quiet (fail)
  go_wp2
  refine bodyPost_ret (results_none rfl _ _ _) rfl ?_
  exact ⟨rfl, below_drewP HB.out _⟩
/-- What a removal from a list leaves. -/
structure LremP (B : Nat) (W : World) (d o : Nat) (n : Int) (l : List Kt) (F : List Nat) (k : Kt) (x' : Value) (l' : List Kt) (F' : List Nat) (w' : World) : Prop where
  lx : Lx B w' d o n x' l' F'
  pm : l.Perm (k :: l')
  own : ∀ {cs : Array Value}, Fb W d 60 cs → Fb w' d 60 (cs.setIfInBounds (o + 1) x')
  block : ∀ q, q < W.heap.size → q ≠ d → q ∉ F → w'.heap[q]? = W.heap[q]?
  far : ∀ q ∈ F', q ∈ F
  size : W.heap.size ≤ w'.heap.size
  os : w'.os = W.os
  tape : w'.tape = W.tape
  output : w'.output = W.output
theorem erase_rs {n : Int} {l : List Kt} (h : Rs n l) (i : Nat) : Rs n (l.eraseIdx i) := List.Pairwise.sublist (List.eraseIdx_sublist l i) h
theorem erase_pm {l : List Kt} {i : Nat} {k : Kt} (h : l[i]? = some k) : l.Perm (k :: l.eraseIdx i) := by
  have hi := (List.getElem?_eq_some_iff.1 h).1
  have e : l = l.take i ++ k :: l.drop (i + 1) := by
    conv => lhs; rw [← List.take_append_drop i l, List.drop_eq_getElem_cons hi]
    rw [(List.getElem?_eq_some_iff.1 h).2]
  rw [List.eraseIdx_eq_take_drop_succ]
  conv => lhs; rw [e]
  exact List.perm_middle
/-- Where a key that is there stands. -/
theorem find_at {n : Int} {l : List Kt} {k : Kt} {i : Nat} (hs : Rs n l) (hk : k ∈ l) (hi : i < l.length) (hsea : SeaAt (notA n l k) l.length i) : l[i]? = some k := by
  obtain ⟨x, hx⟩ : ∃ x, l[i]? = some x := ⟨_, List.getElem?_eq_getElem hi⟩
  rw [hx, (seaAt_mem hs hsea hx).1 hk]
theorem Tk.below {gb : Nat} {v v' : Value} {W W' W2 : World} (h : Tk gb v v' W W') (hb : Below W'.heap.size W' W2) : Tk gb v v' W W2 := ⟨hb.os.trans h.os, hb.tape.trans h.tape, hb.output.trans h.output, Nat.le_trans h.size hb.size, h.far, fun k hk h1 h2 => (hb.block k (Nat.lt_of_lt_of_le hk h.size)).trans (h.block k hk h1 h2)⟩
def SlremP (B : Nat) (W : World) (d o : Nat) (n : Int) (gb cb : Nat) (v : Value) (l : List Kt) (k : Kt) (e : Ending) (w' : World) : Prop :=
  e = .returned (.tuple #[]) ∧ ∃ l', l.Perm (k :: l') ∧ Rs n l' ∧
  ((0 < l'.length ∧ ∃ v', Lm B w' d o n gb cb v' l' ∧ Tk gb v v' W w' ∧ v'.ownBlock = v.ownBlock) ∨
   (l' = [] ∧ ∃ wx v', Lm B wx d o n gb cb v' [] ∧ Tk gb v v' W wx ∧ ∃ wy, wx.grownBy wy (some gb) ∧ w' = wy.setCell ⟨d, o + 1, none⟩ (.slice (some ⟨gb, 0, none⟩) 0 cb)))
theorem psa_any {B : Nat} {W : World} {d o gb cb : Nat} {n : Int} {v : Value} {l l2 : List Kt} {w1 w4 w5 : World} {v' : Value} (h : Lm B W d o n gb cb v l) (hv : v.ownBlock ≠ some d) (hdg : d ≠ gb) (hb1 : Below W.heap.size W w1) (hb4 : Below w1.heap.size w1 w4) (hr : KtR B w5 v' l2) (hg : w4.grownBy w5 v.ownBlock) (hf : v'.ownBlock = v.ownBlock) : PsA B W d o n gb cb v l2 v' (w5.setCell ⟨gb, 0, none⟩ v') := by
  have hdl : d < W.heap.size := World.block_lt_of_cell? _ _ h.h0
  have hgl := h.hb.lt
  have hbn : v.ownBlock ≠ some gb := fun e => by
    obtain ⟨cur, hc⟩ := row_block h.hr e
    obtain ⟨rs, this⟩ := h.hb
    unfold Fb at this
    rw [hc] at this
    injection this with this
    injection this with _ this
    exact keys_ne this.symm
  have hb14 : Below W.heap.size W w4 := hb1.trans (hb4.mono hb1.size)
  have hrow : ∀ q, v'.ownBlock = some q → q ≠ gb := fun q hq e => hbn (by rw [← hf, hq, e])
  have hcell : ∀ (i : Nat) (u : Value), W.cell? ⟨d, i, none⟩ = some u → (w5.setCell ⟨gb, 0, none⟩ v').cell? ⟨d, i, none⟩ = some u := fun i u hu => by
    have h1 : w5.heap[d]? = W.heap[d]? := (hg.block d (by have := hb14.size; omega) (fun e => hv e.symm)).trans (hb14.block d hdl)
    rw [World.cell?_of_block (w := w5) (a := ⟨d, i, none⟩) (Below.heap_setCell _ _ _ _ hdg), World.cell?_of_block (w := W) (a := ⟨d, i, none⟩) h1]
    exact hu
  have hG : Fk w5 gb 70 v := h.hb.keep ((hg.block gb (by have := hb14.size; omega) (fun e => hbn e.symm)).trans (hb14.block gb hgl))
  refine ⟨⟨hcell o _ h.h0, hcell (o + 1) _ h.h1, hG.set 0 v', ?_⟩, ⟨hg.os.trans hb14.os, hg.tape.trans hb14.tape, hg.output.trans hb14.output, ?_, fun q hq => .inl (hf ▸ hq), fun q hq hne hvq => ?_⟩⟩
  · refine ⟨hr.1, ?_⟩
    rcases id hr.2 with y | ⟨g, cap, cur, y1, y2, y3, y4⟩
    · exact .inl y
    · exact .inr ⟨g, cap, cur, y1, y2, (Below.heap_setCell _ _ _ _ (hrow g (by rw [y1]; rfl))).trans y3, y4⟩
  · have := hb14.size
    have := hg.size
    simp
    omega
  · rw [Below.heap_setCell _ _ _ _ hne, hg.block q (by have := hb14.size; omega) (fun e => hvq e.symm)]
    exact hb14.block q hq
section
variable {B : Nat} {W W' : World} {d o gb cb : Nat} {n : Int} {v : Value} {l : List Kt}
set_option maxHeartbeats 32000000 in
theorem slrem_any (h : Lm B W d o n gb cb v l) (hl : l.length ≤ 1000) (hp : 0 < l.length) (hs : Rs n l) (k : Kt) (hk : k ∈ l) (hvd : v.ownBlock ≠ some d) (hdg : d ≠ gb) (hcb : 1 ≤ cb) (hfz : ∀ i, W.frozen? ⟨d, i, none⟩ = false) :
    Calls Try.prog 25 #[.pointer (some ⟨d, o, none⟩), .agg #[.int .i64 k.a, .int .i64 k.b, .int .i64 k.c]] W (SlremP B W d o n gb cb v l k) := by
  have hB1 : Below W.heap.size W (W.alloc (.cells #[.int .i64 k.a, .int .i64 k.b, .int .i64 k.c] 37)) := (Below.refl _ _).alloc (Nat.le_refl _) _
  have hkb := Fb.new W 37 #[.int .i64 k.a, .int .i64 k.b, .int .i64 k.c]
  have cF := sfind_any (h.below hB1) hl hp hs k
  have HD := Lib.hid (fun (w : World) (hb : Below (W.alloc (.cells #[.int .i64 k.a, .int .i64 k.b, .int .i64 k.c] 37)).heap.size (W.alloc (.cells #[.int .i64 k.a, .int .i64 k.b, .int .i64 k.c] 37)) w) => (⟨(h.below hB1).below hb, hkb.below hb, hB1.trans (hb.mono hB1.size)⟩ : _ ∧ _ ∧ _))
  have cI := fun (w1 w : World) (i j : Nat) (hm : Lm B w1 d o n gb cb v l) (hb : Below w1.heap.size w1 w) (hi : i < l.length) (hj : j = i + 1) => kdel_any (row_below hm.hr hb) i j hi hj
  have HP := Lib.hid (fun (w1 w4 w5 : World) (v' : Value) (l2 : List Kt) (hb1 : Below W.heap.size W w1) (hb4 : Below w1.heap.size w1 w4) (hr : KtR B w5 v' l2) (hg : w4.grownBy w5 v.ownBlock) (hf : v'.ownBlock = v.ownBlock) => psa_any h hvd hdg hb1 hb4 hr hg hf)
  have HFB := Lib.hid (fun (w1 w4 w5 : World) (hb1 : Below W.heap.size W w1) (hb4 : Below w1.heap.size w1 w4) (hg : w4.grownBy w5 v.ownBlock) => psa_fb h hb1 hb4 hg)
  have HFC := Lib.hid (fun (w1 w4 w5 : World) (hb1 : Below W.heap.size W w1) (hb4 : Below w1.heap.size w1 w4) (hg : w4.grownBy w5 v.ownBlock) => psa_cell h hvd hb1 hb4 hg)
  have HL := Lib.hid hl
  have HX := Lib.hid (And.intro hvd hdg)
  have HS := Lib.hid hs
  have HK := Lib.hid hk
  have HCB := Lib.hid hcb
  have hdl : d < W.heap.size := World.block_lt_of_cell? _ _ h.h0
  have HDK := Lib.hid (fun (wx wy : World) (v' : Value) (h1 : Tk gb v v' W wx) (h2 : wx.grownBy wy (some gb)) => (⟨by
    have e : wy.heap[d]? = W.heap[d]? := (h2.block d (Nat.lt_of_lt_of_le hdl h1.size) (fun e => hdg (Option.some.inj e))).trans (h1.block d hdl hdg hvd)
    rw [World.cell?_of_block (w := W) (a := ⟨d, o + 1, none⟩) e]
    exact h.h1, by
    have e : wy.heap[d]? = W.heap[d]? := (h2.block d (Nat.lt_of_lt_of_le hdl h1.size) (fun e => hdg (Option.some.inj e))).trans (h1.block d hdl hdg hvd)
    have := hfz (o + 1)
    unfold World.frozen? at this ⊢
    rw [e]
    exact this, Nat.lt_of_lt_of_le hdl (Nat.le_trans h1.size h2.size)⟩ : wy.cell? ⟨d, o + 1, none⟩ = some (.slice (some ⟨gb, 0, none⟩) 1 cb) ∧ wy.frozen? ⟨d, o + 1, none⟩ = false ∧ d < wy.heap.size))
  obtain ⟨g0, c0, hv0⟩ : ∃ g c, v = .slice (some ⟨g, 0, none⟩) l.length c := by
    obtain ⟨x, hx⟩ : ∃ x, l[0]? = some x := ⟨_, List.getElem?_eq_getElem hp⟩
    obtain ⟨g, c, hv, _⟩ := h.hr.at hx
    exact ⟨g, c, hv⟩
  have hz1 : (0 : Int) ≤ (l.length : Int) := by omega
  clear h hB1 hkb hs hl hk hvd hdg hcb hfz hdl
  subst hv0
  go_enter Try.func25, Try.ntmps25
  go_upto_region 2 with (go_at_call 35; (with_reducible refine cF.mono ?_); rintro e w1 ⟨⟨b, j, rfl, hq⟩, hb1⟩; obtain ⟨hM, hK, hB⟩ := HD.out _ hb1; have HM := Lib.hid hM; have HB := Lib.hid hB; have HQ := Lib.hid hq; clear hM hB hb1 hq hK)
  have y1 := HM.out.h1
  have z0 := HM.out.hb.cell 0
  clear cF HD
  rcases HQ.out with ⟨rfl, rfl, hn⟩ | ⟨rfl, i, rfl, hi, hsea⟩
  · exfalso
    exact notA_none hn HK.out
  · have HAT := Lib.hid (find_at HS.out HK.out hi hsea)
    have HI := Lib.hid hi
    obtain ⟨j, hj⟩ : ∃ j, j = i + 1 := ⟨_, rfl⟩
    have HJ := Lib.hid hj
    have hwj : wrap64 ((i : Int) + 1) = (j : Int) := by rw [IntWalk.wrap64_in _ ⟨by omega, by have := HL.out; omega⟩, hj, Int.natCast_succ]
    have hwj2 : IntKind.i64.wrap ((i : Int) + 1) = (j : Int) := by have := HL.out; rw [IntKind.wrap_i64]; omega
    have yl := HM.out.hb.lt
    have dl : d < w1.heap.size := World.block_lt_of_cell? _ _ y1
    have z0 : w1.cell? ⟨gb, 0, none⟩ = some (.slice (some ⟨g0, 0, none⟩) l.length c0) := HM.out.hb.cell 0
    obtain ⟨r, hr⟩ : ∃ r, r = (l.eraseIdx i).length := ⟨_, rfl⟩
    have HR := Lib.hid hr
    clear hsea hi hj hr
    go_cut [] from 28 (fun wx => ∃ v', PsA B W d o n gb cb (.slice (some ⟨g0, 0, none⟩) l.length c0) (l.eraseIdx i) v' wx ∧ v'.ownBlock = some g0)
    case first =>
      go_region_with (first
        | (go_at_call 38; (with_reducible refine (cI w1 _ i j HM.out (by (repeat (first | exact Below.refl _ _ | assumption | refine Below.drew ?_ | refine below_drewP ?_ _))) HI.out HJ.out).mono ?_); rintro e w5 ⟨v5, rfl, hr5, hg5, hf5⟩; have hs5 := row_shape hr5; rw [← HR.out] at hs5; obtain ⟨A5, c5, hv5, _⟩ := hs5; subst hv5; have hF5 := HFB.out w1 _ w5 HB.out (by (repeat (first | exact Below.refl _ _ | assumption | refine Below.drew ?_ | refine below_drewP ?_ _))) hg5; have F5 := hF5.free 0; have L5 := hF5.lt; have C5 := hF5.cell 0; obtain ⟨C6, L6⟩ := HFC.out w1 _ w5 HB.out (by (repeat (first | exact Below.refl _ _ | assumption | refine Below.drew ?_ | refine below_drewP ?_ _))) hg5; have HR5 := Lib.hid hr5; have HG5 := Lib.hid hg5; have HF5 := Lib.hid hf5; clear hr5 hg5 hf5 hF5)
        | fail)
      all_goals (go_wp2_with fail; go_meet)
      all_goals exact ⟨_, HP.out w1 _ w5 _ _ HB.out (by (repeat (first | exact Below.refl _ _ | assumption | refine Below.drew ?_ | refine below_drewP ?_ _))) HR5.out HG5.out HF5.out, HF5.out⟩
    case rest =>
      obtain ⟨v', hP, hown⟩ := hcut
      have q1 := hP.lm.h1
      obtain ⟨A5, c5, hv5, hc5⟩ := row_shape hP.lm.hr
      rw [← HR.out] at hv5 hc5
      subst hv5
      have q0 : wc.cell? ⟨gb, 0, none⟩ = some (.slice A5 r c5) := hP.lm.hb.cell 0
      have HPP := Lib.hid hP
      have HOW := Lib.hid hown
      have HPM := Lib.hid (erase_pm HAT.out)
      have HRS := Lib.hid (erase_rs HS.out i)
      clear hP hown hc5 hwj hwj2 y1 z0 yl dl
      cases r with
      | zero =>
        obtain ⟨rs, hbk⟩ := HPP.out.lm.hb
        have cD : Calls Try.prog 39 #[.slice (some ⟨gb, 0, none⟩) 1 cb, .int .i64 0, .int .i64 1] wc fun e w' => e = .returned (.slice (some ⟨gb, 0, none⟩) 0 cb) ∧ wc.grownBy w' (some gb) :=
          (bd_del (i := 0) (L := Value.slice A5 0 c5 :: rs) hbk (by simp) (by decide) HCB.out (fun v hv => by simp at hv; subst hv; rfl) 1 rfl).mono fun e w' h => ⟨h.1, h.2.1⟩
        clear hbk
        go_wp2_with (go_at_call 39; (with_reducible refine cD.mono ?_); rintro e w6 ⟨rfl, hg6⟩; obtain ⟨u1, u2, u3⟩ := HDK.out _ _ _ HPP.out.tk hg6; have HG6 := Lib.hid hg6; clear hg6)
        refine bodyPost_ret (results_none rfl _ _ _) rfl ?_
        have h0 : l.eraseIdx i = [] := List.length_eq_zero_iff.1 HR.out.symm
        refine ⟨rfl, _, HPM.out, HRS.out, .inr ⟨h0, wc, _, ?_, HPP.out.tk, w6, HG6.out, rfl⟩⟩
        have := HPP.out.lm
        rwa [h0] at this
      | succ r =>
        have hz : ¬ ((r + 1 : Nat) : Int) = 0 := by omega
        have hz2 : (((r + 1 : Nat) : Int) == 0) = false := by rw [beq_eq_false_iff_ne]; exact hz
        have cJ := fun {W : World} (h : W.cell? ⟨d, o + 1, none⟩ = some (.slice (some ⟨gb, 0, none⟩) 1 cb)) => sjoin_last h
        have cN := fun W => sjoin_neg d o W
        go_wp2_with (first
          | (go_at_call 40; (with_reducible refine (cJ q1).mono ?_); rintro e w6 ⟨rfl, hb6⟩; have HB6 := Lib.hid hb6; clear hb6)
          | (go_at_call 40; (with_reducible refine (cN _).mono ?_); rintro e w7 ⟨rfl, hb7⟩; have HB7 := Lib.hid hb7; clear hb7))
        refine bodyPost_end (results_none rfl _ _ _) rfl ?_
        exact ⟨rfl, _, HPM.out, HRS.out, .inl ⟨by rw [← HR.out]; omega, _, (HPP.out.lm.below HB6.out).below HB7.out, (HPP.out.tk.below HB6.out).below HB7.out, HOW.out⟩⟩
end
end Go.Proofs.Ytoiigplflmejmaa
