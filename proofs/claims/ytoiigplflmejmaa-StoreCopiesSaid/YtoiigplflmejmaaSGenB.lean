/-
  A LIST OF KEYS, one block: add, in general.
-/
import Derived.Test.YtoiigplflmejmaaSGenP
import Derived.Deep.RegionLaw
namespace Go.Proofs.Ytoiigplflmejmaa
open Go.RowKit
set_option linter.unusedVariables false
set_option linter.unusedSimpArgs false
set_option maxRecDepth 100000

section
variable {B : Nat} {W W' : World} {d o gb cb : Nat} {n : Int} {v : Value} {l : List Kt}
set_option maxHeartbeats 16000000 in
theorem sladd_end (h : Lm B W d o n gb cb v l) (hl : l.length ≤ 200) (hp : 0 < l.length) (hs : Rs n l) (k : Kt) (hk : k ∉ l) (hB : B ≤ W.heap.size) (hvd : v.ownBlock ≠ some d) (hdg : d ≠ gb) (hend : ∀ t, t < l.length → notA n l k t = false) :
    Calls Try.prog 24 #[.pointer (some ⟨d, o, none⟩), .agg #[.int .i64 k.a, .int .i64 k.b, .int .i64 k.c]] W (SladdPost B W d o n gb cb v l k) := by
  have hB1 : Below W.heap.size W (W.alloc (.cells #[.int .i64 k.a, .int .i64 k.b, .int .i64 k.c] 37)) := (Below.refl _ _).alloc (Nat.le_refl _) _
  have hkb := Fb.new W 37 #[.int .i64 k.a, .int .i64 k.b, .int .i64 k.c]
  have cF := sfind_any (h.below hB1) (by omega) hp hs k
  have HD := Lib.hid (fun (w : World) (hb : Below (W.alloc (.cells #[.int .i64 k.a, .int .i64 k.b, .int .i64 k.c] 37)).heap.size (W.alloc (.cells #[.int .i64 k.a, .int .i64 k.b, .int .i64 k.c] 37)) w) => (⟨(h.below hB1).below hb, hkb.below hb, hB1.trans (hb.mono hB1.size)⟩ : _ ∧ _ ∧ _))
  have cI := fun (w1 w : World) (j : Nat) (hm : Lm B w1 d o n gb cb v l) (hb1 : Below W.heap.size W w1) (hb : Below w1.heap.size w1 w) (hj : j ≤ l.length) (hu : Fb w w1.heap.size 37 #[.int .i64 k.a, .int .i64 k.b, .int .i64 k.c]) => kins_any (x := k) (i := j) (row_below hm.hr hb) (by omega) (by have := hb1.size; have := hb.size; omega) hj hu (fun e => by have := (World.ownsRow.lt hm.hr _ e).2; omega) rfl
  have HP := Lib.hid (fun (w1 w4 w5 : World) (v' : Value) (j : Nat) (hb1 : Below W.heap.size W w1) (hb4 : Below w1.heap.size w1 w4) (hr : KtR B w5 v' (l.take j ++ k :: l.drop j)) (hg : w4.grownBy w5 v.ownBlock) (hf : ∀ k, v'.ownBlock = some k → v.ownBlock = some k ∨ w4.heap.size ≤ k) => psa_of (k := k) (j := j) h hvd hdg hb1 hb4 hr hg hf)
  have HFB := Lib.hid (fun (w1 w4 w5 : World) (hb1 : Below W.heap.size W w1) (hb4 : Below w1.heap.size w1 w4) (hg : w4.grownBy w5 v.ownBlock) => psa_fb h hb1 hb4 hg)
  have HFC := Lib.hid (fun (w1 w4 w5 : World) (hb1 : Below W.heap.size W w1) (hb4 : Below w1.heap.size w1 w4) (hg : w4.grownBy w5 v.ownBlock) => psa_cell h hvd hb1 hb4 hg)
  have HI := Lib.hid (fun (j : Nat) (hj : j ≤ l.length) h1 h2 => ins_rs (n := n) (l := l) (k := k) (j := j) hs hk hj h1 h2)
  have HL := Lib.hid hl
  have HX := Lib.hid (And.intro hvd hdg)
  obtain ⟨g0, c0, hv0⟩ : ∃ g c, v = .slice (some ⟨g, 0, none⟩) l.length c := by
    obtain ⟨x, hx⟩ : ∃ x, l[0]? = some x := ⟨_, List.getElem?_eq_getElem hp⟩
    obtain ⟨g, c, hv, _⟩ := h.hr.at hx
    exact ⟨g, c, hv⟩
  have hz1 : (0 : Int) ≤ (l.length : Int) := by omega
  have hz2 : (l.length : Int) ≤ 200 := by omega
  have HEND := Lib.hid hend
  clear hend
  clear h hB1 hkb hs hl hk hvd hdg
  subst hv0
  have HW := Lib.hid (fun (j : Nat) => ins_perm l j k)
  have HN := Lib.hid (fun (j : Nat) (hj : j ≤ l.length) => len_insK l j k hj)
  go_enter Try.func24, Try.ntmps24
  go_upto_region 2 with (go_at_call 35; (with_reducible refine cF.mono ?_); rintro e w1 ⟨⟨b, j, rfl, hq⟩, hb1⟩; obtain ⟨hM, hK, hB⟩ := HD.out _ hb1; have HM := Lib.hid hM; have HK := Lib.hid hK; have HB := Lib.hid hB; have HQ := Lib.hid hq; clear hM hB hb1 hq hK)
  have y1 := HM.out.h1
  have z0 := HM.out.hb.cell 0
  have k0 := HK.out.cell 0
  have k1 := HK.out.cell 1
  have k2 := HK.out.cell 2
  clear cF HD
  rcases HQ.out with ⟨rfl, rfl, hn⟩ | ⟨rfl, i, rfl, hi, hsea⟩
  · obtain ⟨j, hj⟩ : ∃ j, j = l.length := ⟨_, rfl⟩
    have HJ := Lib.hid (show j ≤ l.length from by omega)
    have HRS := Lib.hid (HI.out j HJ.out (by rw [hj]; exact hn) (fun t h1 h2 => by omega))
    have hjz : (0 : Int) ≤ (j : Int) := by omega
    subst hj
    clear hn
    go_upto_region 7 with fail
    have yl := HM.out.hb.lt
    have dl : d < w1.heap.size := World.block_lt_of_cell? _ _ y1
    have kl := HK.out.lt
    have z0 : w1.cell? ⟨gb, 0, none⟩ = some (.slice (some ⟨g0, 0, none⟩) l.length c0) := HM.out.hb.cell 0
    have k0 : w1.cell? ⟨W.heap.size, 0, none⟩ = some (.int .i64 k.a) := HK.out.cell 0
    have k1 : w1.cell? ⟨W.heap.size, 1, none⟩ = some (.int .i64 k.b) := HK.out.cell 1
    have k2 : w1.cell? ⟨W.heap.size, 2, none⟩ = some (.int .i64 k.c) := HK.out.cell 2
    have ya := fun ob : Obj => cell_below y1 ((Below.refl _ w1).alloc (Nat.le_refl _) ob)
    have za := fun ob : Obj => cell_below z0 ((Below.refl _ w1).alloc (Nat.le_refl _) ob)
    have ka0 : ∀ ob : Obj, (w1.alloc ob).cell? ⟨W.heap.size, 0, none⟩ = some (.int .i64 k.a) := fun ob => cell_below k0 ((Below.refl _ w1).alloc (Nat.le_refl _) ob)
    have ka1 : ∀ ob : Obj, (w1.alloc ob).cell? ⟨W.heap.size, 1, none⟩ = some (.int .i64 k.b) := fun ob => cell_below k1 ((Below.refl _ w1).alloc (Nat.le_refl _) ob)
    have ka2 : ∀ ob : Obj, (w1.alloc ob).cell? ⟨W.heap.size, 2, none⟩ = some (.int .i64 k.c) := fun ob => cell_below k2 ((Below.refl _ w1).alloc (Nat.le_refl _) ob)
    have nd : ¬ d = w1.heap.size := by omega
    have ng : ¬ gb = w1.heap.size := by omega
    have nd2 : ¬ w1.heap.size = d := by omega
    have ng2 : ¬ w1.heap.size = gb := by omega
    have hz6 : ¬ ((256 : Int) < (l.length : Int) + 1) := by omega
    have e256 : decide ((256 : Int) < (l.length : Int) + 1) = false := decide_eq_false hz6
    go_cut [] from 37 (fun wx => ∃ v', PsA B W d o n gb cb (.slice (some ⟨g0, 0, none⟩) l.length c0) (l.take l.length ++ k :: l.drop l.length) v' wx)
    case first =>
      go_region_with (first
        | (go_at_call 36; (with_reducible refine (cI w1 _ l.length HM.out HB.out (by (repeat (first | exact Below.refl _ _ | assumption | refine Below.drew ?_ | refine below_drewP ?_ _ | refine Below.alloc ?_ (by first | exact Nat.le_refl _ | (simp; done) | (simp; omega)) _))) HJ.out (by first | exact Fb.new _ _ _ | exact Fb.drew (Fb.new _ _ _))).mono ?_); rintro e w5 ⟨v5, rfl, hr5, hg5, hf5⟩; have hs5 := row_shape hr5; rw [HN.out l.length HJ.out] at hs5; obtain ⟨A5, c5, hv5, _⟩ := hs5; subst hv5; have hF5 := HFB.out w1 _ w5 HB.out (by (repeat (first | exact Below.refl _ _ | assumption | refine Below.drew ?_ | refine below_drewP ?_ _ | refine Below.alloc ?_ (by first | exact Nat.le_refl _ | (simp; done) | (simp; omega)) _))) hg5; have F5 := hF5.free 0; have L5 := hF5.lt; have C5 := hF5.cell 0; obtain ⟨C6, L6⟩ := HFC.out w1 _ w5 HB.out (by (repeat (first | exact Below.refl _ _ | assumption | refine Below.drew ?_ | refine below_drewP ?_ _ | refine Below.alloc ?_ (by first | exact Nat.le_refl _ | (simp; done) | (simp; omega)) _))) hg5)
        | fail)
      all_goals (go_wp2_with fail; go_meet)
      all_goals exact ⟨_, HP.out w1 _ w5 _ l.length HB.out (by (repeat (first | exact Below.refl _ _ | assumption | refine Below.drew ?_ | refine below_drewP ?_ _ | refine Below.alloc ?_ (by first | exact Nat.le_refl _ | (simp; done) | (simp; omega)) _))) hr5 hg5 hf5⟩
    case rest =>
      obtain ⟨v', hP⟩ := hcut
      have q1 := hP.lm.h1
      have hs5 := row_shape hP.lm.hr
      rw [HN.out l.length HJ.out] at hs5
      obtain ⟨A5, c5, hv5, _⟩ := hs5
      subst hv5
      have q0 : wc.cell? ⟨gb, 0, none⟩ = some (.slice A5 (l.length + 1) c5) := hP.lm.hb.cell 0
      have HPP := Lib.hid hP
      clear hP
      go_wp2
      refine bodyPost_end (results_none rfl _ _ _) rfl ?_
      exact ⟨rfl, _, _, HPP.out.lm, HRS.out, HW.out l.length, HPP.out.tk⟩
  · exact absurd (hsea.2.2 i (Nat.le_refl _) hi) (by rw [HEND.out i hi]; decide)
end
end Go.Proofs.Ytoiigplflmejmaa
