/-
  list.from's closure as an iterator, for whatever loop body turns one block of cells alone (and what is no cells).
-/
import Derived.Test.YtoiigplflmejmaaSRange
import Derived.Test.YtoiigplflmejmaaSScan
import Derived.RangeFuncNested
import Derived.RangeFuncBound
import Derived.RangeFuncCalls
import Derived.RangeFuncLeaves
import Derived.Shelf.Abstract
import Derived.Shelf.RegionOpen
import Derived.WalkKit
import Derived.OwnWalkIn
import Derived.TacticsInMore
import Derived.LoopNIn
import Derived.LoopIn
namespace Go.Proofs.Ytoiigplflmejmaa
open Go.RowKit Go.Shelf
set_option linter.unusedVariables false
set_option linter.unusedSimpArgs false
set_option maxRecDepth 100000
attribute [local go_sem] Oper.semAt_some

/-- All cells lie as they lay, but one block. -/
structure Ck (X : Nat → Prop) (W W' : World) : Prop where
  os : W'.os = W.os
  tape : W'.tape = W.tape
  output : W'.output = W.output
  size : W.heap.size ≤ W'.heap.size
  cells : ∀ (q : Nat) (cs : Array Value) (t : TypeId) (fr : Nat × Nat), ¬ X q → W.heap[q]? = some (.cells cs t fr) → W'.heap[q]? = some (.cells cs t fr)
theorem Ck.refl (X : Nat → Prop) (W : World) : Ck X W W := ⟨rfl, rfl, rfl, Nat.le_refl _, fun _ _ _ _ _ h => h⟩
theorem Ck.trans {X : Nat → Prop} {A B C : World} (h : Ck X A B) (k : Ck X B C) : Ck X A C := ⟨k.os.trans h.os, k.tape.trans h.tape, k.output.trans h.output, Nat.le_trans h.size k.size, fun q cs t fr hn hq => k.cells q cs t fr hn (h.cells q cs t fr hn hq)⟩
theorem Ck.of {X : Nat → Prop} {A B : World} (h : Below A.heap.size A B) : Ck X A B := ⟨h.os, h.tape, h.output, h.size, fun q cs t fr _ hq => (h.block q (Array.getElem?_eq_some_iff.1 hq).1).trans hq⟩
theorem ck_put {X : Nat → Prop} (W : World) (l : Nat) (o o' : Obj) (hl : W.heap[l]? = some o) (ho : o.isCells = false) : Ck X W (W.putObj l o') :=
  ⟨rfl, rfl, rfl, by simp, fun q cs t fr _ hq => by
    have hne : q ≠ l := fun e => by
      subst e
      rw [hl] at hq
      injection hq with hq
      subst hq
      cases ho
    exact (World.putObj_heap_other hne).trans hq⟩
theorem Ck.fb {X : Nat → Prop} {A B : World} (h : Ck X A B) {g : Nat} {t : TypeId} {cs : Array Value} (hf : Fb A g t cs) (hn : ¬ X g) : Fb B g t cs := h.cells g cs t (0, 0) hn hf
theorem Ck.cell {X : Nat → Prop} {A B : World} (h : Ck X A B) {p : Addr} {v : Value} (hn : ¬ X p.block) (hc : A.cell? p = some v) : B.cell? p = some v := by
  cases ho : A.heap[p.block]? with
  | none => unfold World.cell? at hc; rw [ho] at hc; simp at hc
  | some o =>
    cases o with
    | cells cs t fr => exact (World.cell?_of_block (w := A) ((h.cells _ cs t fr hn ho).trans ho.symm)).trans hc
    | _ => unfold World.cell? at hc; rw [ho] at hc; simp at hc
theorem Kq.ck {X : Nat → Prop} {A B : World} (h : Kq X A B) : Ck X A B := ⟨h.os, h.tape, h.output, h.size, fun q cs t fr hn hq => h.block q _ hn hq⟩
theorem Fr.ck {X : Nat → Prop} {A B : World} {bl d o gb cb g c : Nat} {l : List Kt} (h : Fr A bl d o gb cb g c l) (q : ¬ X bl ∧ ¬ X d ∧ ¬ X gb ∧ ¬ X g) (hb : Ck X A B) : Fr B bl d o gb cb g c l :=
  ⟨hb.cell (p := ⟨bl, 0, none⟩) q.1 h.x1, hb.cell (p := ⟨d, o + 1, none⟩) q.2.1 h.x2, hb.cell (p := ⟨gb, 0, none⟩) q.2.2.1 h.x3, fun t x hx =>
    ⟨hb.cell (p := ⟨g, t * 3, none⟩) q.2.2.2 (h.xs t x hx).1, hb.cell (p := ⟨g, t * 3 + 1, none⟩) q.2.2.2 (h.xs t x hx).2.1, hb.cell (p := ⟨g, t * 3 + 2, none⟩) q.2.2.2 (h.xs t x hx).2.2⟩⟩
set_option maxHeartbeats 16000000 in
theorem sfromG_one {X : Nat → Prop} {w : World} {B d o gb cb g c : Nat} {n : Int} {l : List Kt} {k : Kt} {bl bk : Nat}
    (hL : Lm B w d o n gb cb (.slice (some ⟨g, 0, none⟩) l.length c) l) (hl : l.length ≤ 1000) (hp : 0 < l.length) (hs : Rs n l) (hlc : l.length ≤ c)
    (hbl : Fb w bl 67 #[.pointer (some ⟨d, o, none⟩)]) (hbk : Fb w bk 37 #[.int .i64 k.a, .int .i64 k.b, .int .i64 k.c]) (hq : ¬ X bl ∧ ¬ X d ∧ ¬ X gb ∧ ¬ X g) :
    SeqStopsK Fence.wide 4 Try.prog 42 #[.pointer (some ⟨bl, 0, none⟩), .pointer (some ⟨bk, 0, none⟩)] encK (Ck X) (FromS n l k) (FromP n l k) l.length w := fun lr J Jx W hW hJ hJx hY h0 => by
  have hLW := hL.below hW
  have b1 := (hbl.below hW).cell 0
  have b2 := (hbk.below hW).cell 0
  have b3 := (hbk.below hW).cell 1
  have b4 := (hbk.below hW).cell 2
  have hfr : Fr W bl d o gb cb g c l := ⟨(hbl.below hW).cell 0, hLW.h1, hLW.hb.cell 0, fun t x hx => by
    obtain ⟨g', c', e, h1, h2, h3⟩ := hLW.hr.at hx
    injection e with e1 e2 e3
    injection e1 with e1
    injection e1 with e1
    subst e1
    exact ⟨h1, h2, h3⟩⟩
  have cF := sfind_any hLW hl hp hs k
  have HJ := Lib.hid hJ
  have HJ0 := Lib.hid h0
  have HFR := Lib.hid hfr
  have HL := Lib.hid (And.intro hl hlc)
  have HY := Lib.hid hY
  clear hJ hJx h0 hfr hL hLW hbl hbk hW hl hlc hs hY
  refine callsIn_of_wp Try.func42 rfl trivial ?_ rfl
  simp only [Try.ntmps42, List.size_toArray, List.length_cons, List.length_nil, Nat.reduceAdd, Nat.reduceSub, Array.replicate_succ, Array.replicate_zero, List.push_toArray, List.append_toArray, List.nil_append, List.cons_append]
  gi_wp2_with (refine ⟨trivial, ?_⟩; gi_at_call 35; refine (callsIn_wide.2 cF).mono ?_; rintro e W2 ⟨⟨fb, fj, rfl, hfi⟩, hb2⟩)
  have HW2 := Lib.hid (show Ck X W W2 from Ck.of hb2)
  have HJ2 := Lib.hid (abides_below HJ.out HJ0.out hb2)
  have HI : Hid (∃ i : Nat, SeaAt (notA n l k) l.length i ∧ ((fb = 0 ∧ fj = (i : Int) ∧ i < l.length) ∨ (fb = 1 ∧ i = l.length))) := Lib.hid (by
    rcases hfi with ⟨e1, e2, h3⟩ | ⟨e1, i, e2, h3, h4⟩
    · exact ⟨l.length, ⟨Nat.le_refl _, fun t ht => h3 t ht, fun t h1 h2 => by omega⟩, .inr ⟨e1, rfl⟩⟩
    · exact ⟨i, h4, .inl ⟨e1, e2, h3⟩⟩)
  clear hfi hb2 cF b1 b2 b3 b4
  obtain ⟨i, hsi, hi2⟩ := HI.out
  have HSI := Lib.hid hsi
  have hst : (∃ (s4 s5 : Value), s4 = .int .i64 fb ∧ s5 = .int .i64 fj) := ⟨_, _, rfl, rfl⟩
  clear hst hsi
  have HI2 := Lib.hid hi2
  clear hi2
  gi_loopw [4, 5] (fun s4 s5 wr => (s4 = .int .i64 0 ∧ s5 = .int .i64 i ∧ i < l.length ∧ J [] wr ∧ Ck X W wr) ∨ (s4 = .int .i64 1 ∧ J (l.drop i) wr ∧ Ck X W wr)) (fun s4 _ _ => 1 - (intOf s4).toNat)
  case atStart =>
    rcases HI2.out with ⟨rfl, rfl, h⟩ | ⟨rfl, h⟩
    · exact .inl ⟨rfl, rfl, h, HJ2.out, HW2.out⟩
    · exact .inr ⟨rfl, by rw [h, List.drop_length]; exact HJ2.out, HW2.out⟩
  case round =>
    rcases hrel with ⟨rfl, rfl, hi, hj, hbw⟩ | ⟨rfl, hj, hbw⟩
    · have hF := HFR.out.ck hq hbw
      have x1 := hF.x1
      have x2 := hF.x2
      have x3 := hF.x3
      have hiI : (0 : Int) ≤ (i : Int) := by omega
      have hil : (i : Int) ≤ (l.length : Int) := by omega
      have hlcI : (l.length : Int) ≤ (c : Int) := by have := HL.out.2; omega
      gi_wp2
      gi_loopw [33] (fun s33 wq => ∃ t : Nat, t ≤ l.length - i ∧ s33 = .int .i64 t ∧ J ((l.drop i).take t) wq ∧ Ck X W wq) (fun s33 _ => l.length - i - (intOf s33).toNat)
      case atStart => exact ⟨0, Nat.zero_le _, rfl, by rw [List.take_zero]; exact hj, hbw⟩
      case round =>
        clear x1 x2 x3 hF hj hbw
        obtain ⟨t, htm, rfl, hJt, hbt⟩ := hrel
        have hF3 := HFR.out.ck hq hbt
        by_cases hlt : t < l.length - i
        · obtain ⟨x, hx⟩ : ∃ x, l[i + t]? = some x := ⟨_, List.getElem?_eq_getElem (by omega)⟩
          obtain ⟨y0, y1, y2⟩ := hF3.xs _ _ hx
          rw [show (i + t) * 3 = i * 3 + t * 3 from Nat.add_mul _ _ _] at y0 y1 y2
          have hal : Below wr.heap.size wr (wr.alloc (.cells #[.int .i64 x.a, .int .i64 x.b, .int .i64 x.c] 37)) := (Below.refl _ _).alloc (Nat.le_refl _) _
          obtain ⟨fn, tmps, assign, body, hy, hR⟩ := HY.out ((l.drop i).take t) x (wr.alloc (.cells #[.int .i64 x.a, .int .i64 x.b, .int .i64 x.c] 37)) (abides_below HJ.out hJt hal) (by rw [List.length_take, List.length_drop]; omega)
          dsimp only [encK] at hy
          have hti : (t : Int) < ((l.length - i : Nat) : Int) := by omega
          have HX := Lib.hid hx
          have HWR := Lib.hid (show wrap64 ((t : Int) + 1) = (t : Int) + 1 from IntWalk.wrap64_in _ ⟨by omega, by have := HL.out.1; omega⟩)
          have HB := Lib.hid (show Ck X W (wr.alloc (.cells #[.int .i64 x.a, .int .i64 x.b, .int .i64 x.c] 37)) from hbt.trans (Ck.of hal))
          have HTK : Hid ((l.drop i).take (t + 1) = (l.drop i).take t ++ [x]) := Lib.hid (by
            rw [List.take_add_one, List.getElem?_drop, hx]; rfl)
          generalize x.a = xa at *
          generalize x.b = xb at *
          generalize x.c = xc at *
          clear hJt hbt hF3 hx
          gi_wp2
          refine hR.mono ?_
          rintro e W3 (⟨rfl, hJ3, hk3⟩ | ⟨rfl, hJx3⟩)
          · gi_wp2
            go_roundw
            case rel => exact ⟨t + 1, hlt, by rw [HWR.out, Int.natCast_succ], by rw [HTK.out]; exact hJ3, HB.out.trans hk3⟩
            case measure => exact fr_meas hlt HWR.out
          · gi_wp2
            refine bodyPost_ret (results_none rfl _ _ _) rfl ?_
            exact ⟨⟨_, rfl⟩, .inr ⟨_, ⟨i, HSI.out, by rw [← HTK.out]; exact List.take_prefix _ _⟩, hJx3⟩⟩
        · obtain rfl : t = l.length - i := by omega
          have HE := Lib.hid (show J (l.drop i) wr from by
            have : (l.drop i).take (l.length - i) = l.drop i := List.take_of_length_le (by rw [List.length_drop]; exact Nat.le_refl _)
            rw [this] at hJt; exact hJt)
          have HB := Lib.hid hbt
          clear hJt hbt hF3
          gi_wp2
          go_roundw
          case rel => exact .inr ⟨rfl, HE.out, HB.out⟩
          case measure => simp [intOf]
    · have hF := HFR.out.ck hq hbw
      have x1 := hF.x1
      have x2 := hF.x2
      gi_wp2
      go_end0
      exact ⟨⟨_, rfl⟩, .inl ⟨_, ⟨i, HSI.out, rfl⟩, hj⟩⟩
set_option maxHeartbeats 4000000 in
theorem sfromG_nil {A0 : Option Addr} {c0 : Nat} {X : Nat → Prop} {w : World} {d o : Nat} {n : Int} {k : Kt} {bl bk : Nat}
    (h0 : w.cell? ⟨d, o, none⟩ = some (.int .i64 n)) (h1 : w.cell? ⟨d, o + 1, none⟩ = some (.slice A0 0 c0)) (hd : d < w.heap.size)
    (hbl : Fb w bl 67 #[.pointer (some ⟨d, o, none⟩)]) (hbk : Fb w bk 37 #[.int .i64 k.a, .int .i64 k.b, .int .i64 k.c]) :
    SeqStopsK Fence.wide 4 Try.prog 42 #[.pointer (some ⟨bl, 0, none⟩), .pointer (some ⟨bk, 0, none⟩)] encK (Ck X) (FromS n [] k) (FromP n [] k) 0 w := fun lr J Jx W hW hJ hJx hY hj0 => by
  have c0 := (hW.cell (p := ⟨d, o, none⟩) hd).trans h0
  have c1 := (hW.cell (p := ⟨d, o + 1, none⟩) hd).trans h1
  have b1 := (hbl.below hW).cell 0
  have b2 := (hbk.below hW).cell 0
  have b3 := (hbk.below hW).cell 1
  have b4 := (hbk.below hW).cell 2
  have cF := sfind_none (a := k.a) (b := k.b) (c := k.c) c0 c1 (Nat.lt_of_lt_of_le hd hW.size)
  have HJ := Lib.hid hJ
  have HJ0 := Lib.hid hj0
  have HC := Lib.hid (And.intro c1 (And.intro b1 (hbl.below hW).lt))
  have HD := Lib.hid (Nat.lt_of_lt_of_le hd hW.size)
  clear hJ hJx hj0 hY h0 h1 hbl hbk hd c0 c1
  refine callsIn_of_wp Try.func42 rfl trivial ?_ rfl
  simp only [Try.ntmps42, List.size_toArray, List.length_cons, List.length_nil, Nat.reduceAdd, Nat.reduceSub, Array.replicate_succ, Array.replicate_zero, List.push_toArray, List.append_toArray, List.nil_append, List.cons_append]
  gi_wp2_with (refine ⟨trivial, ?_⟩; gi_at_call 35; refine (callsIn_wide.2 cF).mono ?_; rintro e W2 ⟨rfl, hb2⟩)
  have HJ2 := Lib.hid (abides_below HJ.out HJ0.out hb2)
  have c1 := (hb2.cell (p := ⟨d, o + 1, none⟩) HD.out).trans HC.out.1
  have b1 := (hb2.cell (p := ⟨bl, 0, none⟩) HC.out.2.2).trans HC.out.2.1
  clear hb2 cF
  gi_loopw [4, 5] (fun s4 s5 wr => s4 = .int .i64 0 ∧ wr = W2) (fun _ _ _ => 0)
  case atStart => exact ⟨rfl, rfl⟩
  case round =>
    obtain ⟨rfl, rfl⟩ := hrel
    gi_wp2
    go_end0
    exact ⟨⟨_, rfl⟩, .inl ⟨_, ⟨0, ⟨Nat.le_refl _, fun t ht => absurd ht (Nat.not_lt_zero _), fun t h1 h2 => absurd h2 (Nat.not_lt_zero _)⟩, rfl⟩, HJ2.out⟩⟩
theorem sfromG_lx {X : Nat → Prop} {w : World} {B d o : Nat} {n : Int} {x : Value} {l : List Kt} {F : List Nat} {k : Kt} {bl bk : Nat} (h : Lx B w d o n x l F) (hd : d < w.heap.size) (hl : l.length ≤ 1000)
    (hbl : Fb w bl 67 #[.pointer (some ⟨d, o, none⟩)]) (hbk : Fb w bk 37 #[.int .i64 k.a, .int .i64 k.b, .int .i64 k.c]) (q1 : ¬ X bl) (q2 : ¬ X d) (qF : ∀ q ∈ F, ¬ X q) :
    SeqStopsK Fence.wide 4 Try.prog 42 #[.pointer (some ⟨bl, 0, none⟩), .pointer (some ⟨bk, 0, none⟩)] encK (Ck X) (FromS n l k) (FromP n l k) l.length w := by
  obtain ⟨c0, c1, h⟩ := h
  rcases h with ⟨rfl, ⟨A0, c0', rfl⟩, _⟩ | ⟨gb, cb, v, g, rfl, hvg, rfl, hm, hp, hs, hge⟩
  · exact sfromG_nil c0 c1 hd hbl hbk
  · rcases id hm.hr.2 with ⟨hv, hl0⟩ | ⟨g', cap, cur, hv, _, _, hcap, _⟩
    · omega
    · have e : g = g' := by rw [hv] at hvg; exact (Option.some.inj hvg).symm
      subst e
      subst hv
      exact sfromG_one hm hl hp hs hcap hbl hbk ⟨q1, q2, qF gb (by simp), qF g (by simp)⟩
end Go.Proofs.Ytoiigplflmejmaa
