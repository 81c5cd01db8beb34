/-
  StoreUndoes: the walk.
-/
import Derived.Test.YtjnhbgpjfkkpeaaSSumE
import Derived.Test.YtjnhbgpjfkkpeaaSKscan
import Derived.Test.YtjnhbgpjfkkpeaaSPut
import Derived.Test.YtjnhbgpjfkkpeaaSScanned
import Derived.Test.YtjnhbgpjfkkpeaaSRemS
import Derived.Test.YtjnhbgpjfkkpeaaSAgreesW
import Derived.Test.YtjnhbgpjfkkpeaaSActs
import Derived.Deep.RegionHeld3
import Derived.Deep.LoopGhost
import Derived.Deep.CutRange
import Derived.Deep.CutBlock
namespace Go.Proofs.Ytjnhbgpjfkkpeaa
open Go.RowKit
set_option linter.unusedVariables false
set_option linter.unusedSimpArgs false
set_option maxRecDepth 100000

def SuI (w : World) (B d gp gm n : Nat) (p : Kt) (g : Nat) (s36 : Value) (wr : World) : Prop := ∃ (i : Nat) (m L : List Kt) (A : Option Addr) (c : Nat), i + g = n ∧ s36 = .int .i64 i ∧ Su w B d gp gm p m L A c wr ∧ Hid (L.length ≤ i ∧ L.Perm m ∧ ∀ x ∈ m, nnK x)
def UnM (w : World) (B d gp gm : Nat) (p : Kt) (m L : List Kt) (A : Option Addr) (c : Nat) (g : Nat) (s54 : Value) (wr : World) : Prop := ∃ j : Nat, j + g = 8 ∧ s54 = .int .i64 j ∧ Su w B d gp gm p m L A c wr
set_option maxHeartbeats 16000000 in
theorem sundo_many (A : Option Addr) (n cap : Nat) (p : Kt) (w : World) (hz : (40 : Int) < (n : Int)) : Calls Try.prog 6 #[.slice A n cap, .agg #[.int .i64 p.a, .int .i64 p.b, .int .i64 p.c]] w fun e w' => e = .returned (.bool true) ∧ Below w.heap.size w w' := by
  have cA := fun W => sawake_ok W
  have hb : Below w.heap.size w (w.alloc (.cells #[.int .i64 p.a, .int .i64 p.b, .int .i64 p.c] 31)) := (Below.refl _ _).alloc (Nat.le_refl _) _
  have HB := Lib.hid hb
  clear hb
  go_enter Try.func6, Try.ntmps6
  go_wp2_with (first
    | (go_at_call 8; (with_reducible refine (cA (w.alloc (.cells #[.int .i64 p.a, .int .i64 p.b, .int .i64 p.c] 31))).mono ?_); rintro e w1 ⟨rfl, hB1⟩)
    | (go_at_call 8; (with_reducible refine (cA w1).mono ?_); rintro e w2 ⟨rfl, hB2⟩))
  go_ret
  exact ⟨rfl, HB.out.trans ((hB1.trans (hB2.mono hB1.size)).mono HB.out.size)⟩
set_option maxHeartbeats 64000000 in
theorem sundo_walk (l : List Sa) (hl : ∀ t ∈ l, t.ok) (A : Option Addr) (cap : Nat) (hc : l.length ≤ cap) (hm : cap ≤ maxLen) (p : Kt) (hpa : i64b p.a) (hpb : i64b p.b) (hpc : i64b p.c) (w : World) (hs : SlAt w A 5 (l.map Sa.cells)) :
    Calls Try.prog 6 #[.slice A l.length cap, .agg #[.int .i64 p.a, .int .i64 p.b, .int .i64 p.c]] w fun e w' => e = .returned (.bool true) ∧ Below w.heap.size w w' := by
  by_cases hz : 40 < l.length
  · exact sundo_many A l.length cap p w (by omega)
  have hzI : ¬ (40 : Int) < (l.length : Int) := by omega
  obtain ⟨n, hn⟩ : ∃ n, n = l.length := ⟨_, rfl⟩
  have hn40 : n ≤ 40 := by omega
  have hel : ∀ i, i < n → ∃ r : Sa, r.ok ∧ ∀ {W : World}, Below w.heap.size w W → ∃ g o, A = some ⟨g, o, none⟩ ∧ W.cell? ⟨g, o + i * 5, none⟩ = some (.int .u8 r.k) ∧ W.cell? ⟨g, o + i * 5 + 1, none⟩ = some (.int .u8 r.n) ∧ W.cell? ⟨g, o + i * 5 + 2, none⟩ = some (.int .i64 r.key.a) ∧ W.cell? ⟨g, o + i * 5 + 3, none⟩ = some (.int .i64 r.key.b) ∧ W.cell? ⟨g, o + i * 5 + 4, none⟩ = some (.int .i64 r.key.c) := fun i hi => by
    obtain ⟨r, hr⟩ : ∃ r, l[i]? = some r := ⟨_, List.getElem?_eq_getElem (by omega)⟩
    exact ⟨r, hl r (List.mem_of_getElem? hr), fun {W} hb => sl_at5 (hs.below hb) hr⟩
  have cA := fun W => sawake_ok W
  have cN := fun W => snew_any 50 (by decide) (by decide) W
  have hb0' : Below w.heap.size w (w.alloc (.cells #[.int .i64 p.a, .int .i64 p.b, .int .i64 p.c] 31)) := (Below.refl _ _).alloc (Nat.le_refl _) _
  have hk0 : Fb (w.alloc (.cells #[.int .i64 p.a, .int .i64 p.b, .int .i64 p.c] 31)) w.heap.size 31 #[.int .i64 p.a, .int .i64 p.b, .int .i64 p.c] := Fb.new _ _ _
  rw [← hn] at hzI ⊢
  have HEL := Lib.hid hel
  have HN := Lib.hid hn40
  have HB0 := Lib.hid hb0'
  have HK0 := Lib.hid hk0
  obtain ⟨gp, hgp⟩ : ∃ g, g = w.heap.size := ⟨_, rfl⟩
  have HGP := Lib.hid hgp
  clear hz hl hc hm hs hel hn40 hn hpa hpb hpc hb0' hk0 hgp
  go_enter Try.func6, Try.ntmps6
  go_wp2_with (first
    | (go_at_call 8; (with_reducible refine (cA _).mono ?_); rintro e w1 ⟨rfl, hB1⟩)
    | (go_at_call 9; (with_reducible refine (cN _).mono ?_); rintro e w2 ⟨d, rfl, hD2, hd2, hB2⟩))
  have hwB : w.heap.size < w1.heap.size := Nat.lt_of_lt_of_le (by simp) hB1.size
  have hst0 : Su w w1.heap.size d gp w2.heap.size p [] [] none 0 (w2.alloc (.cells #[.int .i64 50, .slice none 0 0] 30)) :=
    ⟨((HB0.out.trans (hB1.mono HB0.out.size)).trans (hB2.mono (Nat.le_of_lt hwB))).alloc (Nat.le_trans (Nat.le_of_lt hwB) hB2.size) _, (sx_new hD2 hd2).below ((Below.refl _ _).alloc (Nat.le_refl _) _), by rw [HGP.out]; exact ((HK0.out.below hB1).below hB2).alloc _, Fb.new _ _ _, ktD_nil _ _, hB2.size, by rw [HGP.out]; exact Nat.le_refl _, by rw [HGP.out]; exact hwB⟩
  have HST := Lib.hid hst0
  obtain ⟨B, hBB⟩ : ∃ B, B = w1.heap.size := ⟨_, rfl⟩
  obtain ⟨gm, hgm⟩ : ∃ g, g = w2.heap.size := ⟨_, rfl⟩
  rw [← hBB, ← hgm] at HST
  rw [← HGP.out, ← hgm]
  obtain ⟨w3, hw3⟩ : ∃ w3, w3 = w2.alloc (.cells #[.int .i64 50, .slice none 0 0] 30) := ⟨_, rfl⟩
  rw [← hw3] at HST ⊢
  clear hst0 hD2 hd2 hB1 hB2 hBB cA cN hwB hgm hw3
  go_loopg [28] n (fun g s36 wr => SuI w B d gp gm n p g s36 wr)
  case atStart => exact ⟨0, [], [], none, 0, by omega, rfl, HST.out, Lib.hid ⟨Nat.le_refl _, .refl _, fun x h => by cases h⟩⟩
  case round =>
    clear HST
    obtain ⟨i, m, L, A1, c1, hig, rfl, hG, HF⟩ := hrel
    cases gk with
    | succ g =>
      have hin : (i : Int) < (n : Int) := by omega
      have hiz : (0 : Int) ≤ (i : Int) := by omega
      obtain ⟨r, hrok, hcell⟩ := HEL.out i (by omega)
      obtain ⟨gg, og, rfl, q0, q1, q2, q3, q4⟩ := hcell hG.b
      obtain ⟨kd, kn, ⟨xa, xb, xc⟩⟩ := r
      dsimp only at q0 q1 q2 q3 q4
      have hG1 := hG.alloc (.cells #[.int .u8 kd, .int .u8 kn, .int .i64 xa, .int .i64 xb, .int .i64 xc] 33)
      have hA1 := Fb.new wr 33 #[.int .u8 kd, .int .u8 kn, .int .i64 xa, .int .i64 xb, .int .i64 xc]
      have hPM := addR_perm (x := ⟨xa, xb, xc⟩) HF.out.2.1 HF.out.2.2
      have hLN := addD_len (room := 50) (L := L) (k := ⟨xa, xb, xc⟩)
      obtain ⟨R, hR⟩ : ∃ R, R = addR 50 m ⟨xa, xb, xc⟩ := ⟨_, rfl⟩
      obtain ⟨D, hD⟩ : ∃ D, D = addD 50 L ⟨xa, xb, xc⟩ := ⟨_, rfl⟩
      have cS := sadd_sx hG1.sx (by have := HN.out; have := HF.out.1; have := HF.out.2.1.length_eq; omega) ⟨xa, xb, xc⟩
      rw [← hR] at cS hPM
      rw [← hD] at hPM hLN
      dsimp only at cS
      have HPM := Lib.hid hPM
      have HLN := Lib.hid hLN
      have cK2 := fun {W : World} (h : KtD B W (.slice A1 L.length c1) L) (hB : B ≤ W.heap.size) => kadd_any h hB (by have := HN.out; have := HF.out.1; omega) 50 ⟨xa, xb, xc⟩
      rw [← hD] at cK2
      have x2 := hA1.cell 2
      have x3 := hA1.cell 3
      have x4 := hA1.cell 4
      have HG1 := Lib.hid hG1
      have HA1 := Lib.hid hA1
      have HIG := Lib.hid (show i + 1 + g = n from by omega)
      have hwi : wrap64 ((i : Int) + 1) = ((i + 1 : Nat) : Int) := by rw [IntWalk.wrap64_in _ ⟨by omega, by have := HN.out; omega⟩, Int.natCast_succ]
      have HWI := Lib.hid hwi
      clear hG hG1 hA1 hR hD hig hrok hcell HEL hwi hPM hLN
      have HSG := Lib.hid (fun (e : Ending) (W : World) (h : SaddP B d 50 (wr.alloc (.cells #[.int .u8 kd, .int .u8 kn, .int .i64 xa, .int .i64 xb, .int .i64 xc] 33)) R e W) => (⟨HG1.out.add h, h.2.2.keep HA1.out (by decide) (by decide) (by decide)⟩ : Su w B d gp gm p R.1 L A1 c1 W ∧ Fb W wr.heap.size 33 #[.int .u8 kd, .int .u8 kn, .int .i64 xa, .int .i64 xb, .int .i64 xc]))
      obtain ⟨R1, R2⟩ := R
      obtain ⟨D1, D2⟩ := D
      dsimp only at cS HSG HPM HLN cK2
      go_wp2_with (first
        | (go_at_call 11; (with_reducible refine cS.mono ?_); rintro e w5 hS; have hEE : e = .returned (.int .i64 R2) := hS.1; obtain ⟨hG5, hA5⟩ := HSG.out _ _ hS; subst hEE; clear hS; obtain ⟨m0, m1, z0, z1⟩ := hG5.cm; have y2 := hA5.cell 2; have y3 := hA5.cell 3; have y4 := hA5.cell 4; have cK3 := cK2 hG5.mr (Nat.le_trans hG5.hm (Nat.le_of_lt hG5.mx.lt)); have HG5 := Lib.hid hG5; clear hG5 hA5)
        | (go_at_call 10; (with_reducible refine cK3.mono ?_); rintro e w6 ⟨v6, rfl, hr6, hb6⟩; obtain ⟨A6, c6, rfl⟩ := KtD.shape hr6; have hG6 := HG5.out.below hb6; have HG6 := Lib.hid (hG6.setm hr6); obtain ⟨m0', m1', z0', z1'⟩ := hG6.cm; have l6 := hG6.mx.lt; clear hG6 hr6 hb6))
      go_roundg g
      case measure => exact Nat.lt_succ_self g
      case rel => exact ⟨i + 1, R1, D1, A6, c6, HIG.out, (by first | exact congrArg _ HWI.out | rw [HWI.out] | rw [Int.natCast_succ]), HG6.out, Lib.hid ⟨by have := HLN.out; have := HF.out.1; omega, HPM.out⟩⟩
    | zero =>
      have hin : ¬ (i : Int) < (n : Int) := by omega
      have HG := Lib.hid hG
      have HLL := Lib.hid (show L.length ≤ 40 from by have := HN.out; have := HF.out.1; omega)
      obtain ⟨p0, p1, p2⟩ := hG.c3
      have hml : m.length ≤ 200 := by have := HF.out.2.1.length_eq; have := HLL.out; omega
      have cS := sadd_sx hG.sx hml p
      clear hG hig HEL hml
      by_cases h0 : (addR 50 m p).2 = 0
      · have hR : addR 50 m p = (p :: m, 0) := by
          unfold addR at h0 ⊢
          split at h0
          · cases h0
          · rename_i h1
            split at h0
            · cases h0
            · rename_i h2
              split at h0
              · cases h0
              · rename_i h3
                rw [if_neg h1, if_neg h2, if_neg h3]
        rw [hR] at cS
        have HSG := Lib.hid (fun (e : Ending) (W : World) (h : SaddP B d 50 wr (p :: m, 0) e W) => HG.out.add h)
        have HSH := Lib.hid (fun (e : Ending) (W : World) (r : List Kt × Int) (h0 : Su w B d gp gm p (p :: m) L A1 c1 W) (h : SaddP B d 50 W r e W) => h0.add h)
        have hRm : remR (p :: m) p = (m, 0) := by unfold remR; rw [if_pos (.head _), List.erase_cons_head]
        have HML := Lib.hid (show (p :: m).length ≤ 200 from by have := HF.out.2.1.length_eq; have := HLL.out; simp; omega)
        have HRM := Lib.hid hRm
        clear h0 hR hRm
        go_upto_region 13 with (first
          | (go_at_call 11; (with_reducible refine cS.mono ?_); rintro e w5 hS; have hEE : e = .returned (.int .i64 0) := hS.1; have hG5 := HSG.out _ _ hS; subst hEE; clear hS; obtain ⟨y0, y1, y2⟩ := hG5.c3; have cR := srem_sx hG5.sx HML.out p; rw [HRM.out] at cR; have HG5 := Lib.hid hG5; clear hG5)
          | (go_at_call 13; (with_reducible refine cR.mono ?_); rintro e w6 hS; have hEE : e = .returned (.int .i64 0) := hS.1; have HG6 := Lib.hid (HG5.out.add hS); subst hEE; clear hS))
        clear HG
        go_wp2
        go_loopg [54] 8 (fun g s54 wr => UnM w B d gp gm p m L A1 c1 g s54 wr)
        case atStart => exact ⟨0, by omega, rfl, HG6.out⟩
        case round =>
          clear HG6
          obtain ⟨j, hjg, rfl, hG⟩ := hrel
          cases gk with
          | zero =>
            have hin : ¬ (j : Int) < 8 := by omega
            have HG := Lib.hid hG
            have hlen : (m.length : Int) = (L.length : Int) := by have := HF.out.2.1.length_eq; omega
            have cN := slen_sx hG.sx
            rw [hlen] at cN
            have cN2 : Calls Try.prog 17 #[.pointer (some ⟨d, 0, none⟩)] wr fun e w' => e = .returned (.int .i64 (L.length : Nat)) ∧ Below wr.heap.size wr w' := cN.mono fun e w' ⟨h1, h2⟩ => ⟨h1, h2 ▸ Below.refl _ _⟩
            have cN3 : ∀ w', Below wr.heap.size wr w' → Calls Try.prog 17 #[.pointer (some ⟨d, 0, none⟩)] w' fun e w2 => e = .returned (.int .i64 (L.length : Nat)) ∧ Below w'.heap.size w' w2 := fun w' hb => (slen_sx (HG.out.below hb).sx).mono fun e w2 ⟨h1, h2⟩ => ⟨by rw [← hlen]; exact h1, h2 ▸ Below.refl _ _⟩
            have K : ∀ w', Below wr.heap.size wr w' → w'.cell? ⟨gm, 1, none⟩ = some (.slice A1 L.length c1) := fun w' hb => (HG.out.below hb).mx.cell 1
            have HK := Lib.hid K
            have k0 := K _ (Below.refl _ _)
            clear hG hjg hlen cN cN2 K
            go_wp2
            go_region_held3 (fun w => w.cell? ⟨gm, 1, none⟩ = some (.slice A1 L.length c1))
              (first | (refine HK.out _ ?_; repeat (first | assumption | exact Below.refl _ _ | refine Below.drew ?_)))
              (first | (go_at_call 17; (with_reducible refine (cN3 _ (by repeat (first | assumption | exact Below.refl _ _ | refine Below.drew ?_))).mono ?_); rintro e w8 ⟨rfl, hb8⟩; have hB8 : Below wr.heap.size wr w8 := Below.trans (by repeat (first | assumption | exact Below.refl _ _ | refine Below.drew ?_)) (hb8.mono (by simp))))
            all_goals
              go_wp2
              go_ret
              exact ⟨rfl, HG.out.b.trans ((show Below wr.heap.size wr _ from by repeat (first | assumption | exact Below.refl _ _ | refine Below.drew ?_)).mono HG.out.b.size)⟩
          | succ g =>
            have hin : (j : Int) < 8 := by omega
            obtain ⟨k0, k1, k2⟩ := hG.c3
            have hP0 : Fb (wr.alloc (.cells #[.int .i64 p.a, .int .i64 p.b, .int .i64 p.c] 31)) wr.heap.size 31 #[.int .i64 p.a, .int .i64 p.b, .int .i64 p.c] := Fb.new _ _ _
            have hb0 : Below wr.heap.size wr (wr.alloc (.cells #[.int .i64 p.a, .int .i64 p.b, .int .i64 p.c] 31)) := (Below.refl _ _).alloc (Nat.le_refl _) _
            have HG := Lib.hid hG
            have HP0 := Lib.hid (And.intro hb0 hP0)
            have HJ := Lib.hid hjg
            have HWJ := Lib.hid (show wrap64 ((j : Int) + 1) = ((j + 1 : Nat) : Int) from by rw [IntWalk.wrap64_in _ ⟨by omega, by omega⟩, Int.natCast_succ])
            clear hG hjg hP0 hb0
            go_wp2
            go_loopg [58] 3 (fun g s58 wq => AgP wr p g s58 wq)
            case atStart => exact ⟨0, p, by omega, rfl, HP0.out.1, HP0.out.2, Lib.hid ⟨.inl rfl, .inl rfl, .inl rfl⟩⟩
            case round =>
              clear HP0 k0 k1 k2
              obtain ⟨i2, q, hig2, rfl, hb, hp, HQ⟩ := hrel
              cases gk with
              | zero =>
                have hi3 : ¬ (i2 : Int) < 3 := by omega
                have hGq := HG.out.below hb
                have q0 := hp.cell 0
                have q1 := hp.cell 1
                have q2 := hp.cell 2
                obtain ⟨m0, m1, _, _⟩ := hGq.cm
                have cSn := scanned_any hGq.sx (by have := HF.out.2.1.length_eq; have := HLL.out; omega) hGq.mr HF.out.2.1 HF.out.2.2 q 50 1000
                have HGQ := Lib.hid hGq
                clear hGq hb hp hig2
                go_wp2_with (go_at_call 14; (with_reducible refine cSn.mono ?_); rintro e w9 ⟨rfl, hb9⟩; have HG9 := Lib.hid (HGQ.out.below hb9); clear hb9)
                go_roundg g
                case measure => exact Nat.lt_succ_self g
                case rel => exact ⟨j + 1, (by have := HJ.out; omega), (by first | exact congrArg _ HWJ.out | rw [Int.natCast_succ]), HG9.out⟩
              | succ g2 =>
                have hi3 : (i2 : Int) < 3 := by omega
                have hi0 : (0 : Int) ≤ (i2 : Int) := by omega
                obtain ⟨pv, hcl⟩ := pcell hp (show i2 < 3 by omega)
                have hfz := hp.free i2
                have HW2 := Lib.hid (show wrap64 ((i2 : Int) + 1) = ((i2 + 1 : Nat) : Int) from by rw [IntWalk.wrap64_in _ ⟨by omega, by omega⟩, Int.natCast_succ])
                have HB := Lib.hid hb
                have HPP := Lib.hid (And.intro hp (pset hp (show i2 < 3 by omega) HQ.out))
                have HI2 := Lib.hid (show i2 + 1 + g2 = 3 by omega)
                clear hb hp hig2
                go_wp2
                · go_roundg g2
                  case measure => exact Nat.lt_succ_self g2
                  case rel =>
                    obtain ⟨q', hq1, hq2⟩ := HPP.out.2
                    exact ⟨i2 + 1, q', HI2.out, (by first | exact congrArg _ HW2.out | rw [Int.natCast_succ]), HB.out.setCell (p := ⟨_, i2, none⟩) (Nat.le_refl _) _, hq1, Lib.hid hq2⟩
                · go_roundg g2
                  case measure => exact Nat.lt_succ_self g2
                  case rel => exact ⟨i2 + 1, q, HI2.out, (by first | exact congrArg _ HW2.out | rw [Int.natCast_succ]), HB.out, HPP.out.1, HQ⟩
      · have hz : ¬ (addR 50 m p).2 = 0 := h0
        have hz2 : ((addR 50 m p).2 == 0) = false := by rw [beq_eq_false_iff_ne]; exact h0
        have hM : (addR 50 m p).1 = m := by
          unfold addR at h0 ⊢
          split
          · rfl
          · rename_i h1
            split
            · rfl
            · rename_i h2
              split
              · rfl
              · rename_i h3
                rw [if_neg h1, if_neg h2, if_neg h3] at h0
                exact absurd rfl h0
        obtain ⟨r, hr⟩ : ∃ r, r = (addR 50 m p).2 := ⟨_, rfl⟩
        have hR : addR 50 m p = (m, r) := by rw [hr]; exact Prod.ext hM rfl
        rw [hR] at cS
        rw [← hr] at hz hz2
        have HSG := Lib.hid (fun (e : Ending) (W : World) (h : SaddP B d 50 wr (m, r) e W) => HG.out.add h)
        clear h0 hR hM hr
        go_upto_region 13 with (go_at_call 11; (with_reducible refine cS.mono ?_); rintro e w5 hS; have hEE : e = .returned (.int .i64 r) := hS.1; have HG6 := Lib.hid (HSG.out _ _ hS); subst hEE; clear hS)
        clear HG
        go_wp2
        go_loopg [54] 8 (fun g s54 wr => UnM w B d gp gm p m L A1 c1 g s54 wr)
        case atStart => exact ⟨0, by omega, rfl, HG6.out⟩
        case round =>
          clear HG6
          obtain ⟨j, hjg, rfl, hG⟩ := hrel
          cases gk with
          | zero =>
            have hin : ¬ (j : Int) < 8 := by omega
            have HG := Lib.hid hG
            have hlen : (m.length : Int) = (L.length : Int) := by have := HF.out.2.1.length_eq; omega
            have cN := slen_sx hG.sx
            rw [hlen] at cN
            have cN2 : Calls Try.prog 17 #[.pointer (some ⟨d, 0, none⟩)] wr fun e w' => e = .returned (.int .i64 (L.length : Nat)) ∧ Below wr.heap.size wr w' := cN.mono fun e w' ⟨h1, h2⟩ => ⟨h1, h2 ▸ Below.refl _ _⟩
            have cN3 : ∀ w', Below wr.heap.size wr w' → Calls Try.prog 17 #[.pointer (some ⟨d, 0, none⟩)] w' fun e w2 => e = .returned (.int .i64 (L.length : Nat)) ∧ Below w'.heap.size w' w2 := fun w' hb => (slen_sx (HG.out.below hb).sx).mono fun e w2 ⟨h1, h2⟩ => ⟨by rw [← hlen]; exact h1, h2 ▸ Below.refl _ _⟩
            have K : ∀ w', Below wr.heap.size wr w' → w'.cell? ⟨gm, 1, none⟩ = some (.slice A1 L.length c1) := fun w' hb => (HG.out.below hb).mx.cell 1
            have HK := Lib.hid K
            have k0 := K _ (Below.refl _ _)
            clear hG hjg hlen cN cN2 K
            go_wp2
            go_region_held3 (fun w => w.cell? ⟨gm, 1, none⟩ = some (.slice A1 L.length c1))
              (first | (refine HK.out _ ?_; repeat (first | assumption | exact Below.refl _ _ | refine Below.drew ?_)))
              (first | (go_at_call 17; (with_reducible refine (cN3 _ (by repeat (first | assumption | exact Below.refl _ _ | refine Below.drew ?_))).mono ?_); rintro e w8 ⟨rfl, hb8⟩; have hB8 : Below wr.heap.size wr w8 := Below.trans (by repeat (first | assumption | exact Below.refl _ _ | refine Below.drew ?_)) (hb8.mono (by simp))))
            all_goals
              go_wp2
              go_ret
              exact ⟨rfl, HG.out.b.trans ((show Below wr.heap.size wr _ from by repeat (first | assumption | exact Below.refl _ _ | refine Below.drew ?_)).mono HG.out.b.size)⟩
          | succ g =>
            have hin : (j : Int) < 8 := by omega
            obtain ⟨k0, k1, k2⟩ := hG.c3
            have hP0 : Fb (wr.alloc (.cells #[.int .i64 p.a, .int .i64 p.b, .int .i64 p.c] 31)) wr.heap.size 31 #[.int .i64 p.a, .int .i64 p.b, .int .i64 p.c] := Fb.new _ _ _
            have hb0 : Below wr.heap.size wr (wr.alloc (.cells #[.int .i64 p.a, .int .i64 p.b, .int .i64 p.c] 31)) := (Below.refl _ _).alloc (Nat.le_refl _) _
            have HG := Lib.hid hG
            have HP0 := Lib.hid (And.intro hb0 hP0)
            have HJ := Lib.hid hjg
            have HWJ := Lib.hid (show wrap64 ((j : Int) + 1) = ((j + 1 : Nat) : Int) from by rw [IntWalk.wrap64_in _ ⟨by omega, by omega⟩, Int.natCast_succ])
            clear hG hjg hP0 hb0
            go_wp2
            go_loopg [58] 3 (fun g s58 wq => AgP wr p g s58 wq)
            case atStart => exact ⟨0, p, by omega, rfl, HP0.out.1, HP0.out.2, Lib.hid ⟨.inl rfl, .inl rfl, .inl rfl⟩⟩
            case round =>
              clear HP0 k0 k1 k2
              obtain ⟨i2, q, hig2, rfl, hb, hp, HQ⟩ := hrel
              cases gk with
              | zero =>
                have hi3 : ¬ (i2 : Int) < 3 := by omega
                have hGq := HG.out.below hb
                have q0 := hp.cell 0
                have q1 := hp.cell 1
                have q2 := hp.cell 2
                obtain ⟨m0, m1, _, _⟩ := hGq.cm
                have cSn := scanned_any hGq.sx (by have := HF.out.2.1.length_eq; have := HLL.out; omega) hGq.mr HF.out.2.1 HF.out.2.2 q 50 1000
                have HGQ := Lib.hid hGq
                clear hGq hb hp hig2
                go_wp2_with (go_at_call 14; (with_reducible refine cSn.mono ?_); rintro e w9 ⟨rfl, hb9⟩; have HG9 := Lib.hid (HGQ.out.below hb9); clear hb9)
                go_roundg g
                case measure => exact Nat.lt_succ_self g
                case rel => exact ⟨j + 1, (by have := HJ.out; omega), (by first | exact congrArg _ HWJ.out | rw [Int.natCast_succ]), HG9.out⟩
              | succ g2 =>
                have hi3 : (i2 : Int) < 3 := by omega
                have hi0 : (0 : Int) ≤ (i2 : Int) := by omega
                obtain ⟨pv, hcl⟩ := pcell hp (show i2 < 3 by omega)
                have hfz := hp.free i2
                have HW2 := Lib.hid (show wrap64 ((i2 : Int) + 1) = ((i2 + 1 : Nat) : Int) from by rw [IntWalk.wrap64_in _ ⟨by omega, by omega⟩, Int.natCast_succ])
                have HB := Lib.hid hb
                have HPP := Lib.hid (And.intro hp (pset hp (show i2 < 3 by omega) HQ.out))
                have HI2 := Lib.hid (show i2 + 1 + g2 = 3 by omega)
                clear hb hp hig2
                go_wp2
                · go_roundg g2
                  case measure => exact Nat.lt_succ_self g2
                  case rel =>
                    obtain ⟨q', hq1, hq2⟩ := HPP.out.2
                    exact ⟨i2 + 1, q', HI2.out, (by first | exact congrArg _ HW2.out | rw [Int.natCast_succ]), HB.out.setCell (p := ⟨_, i2, none⟩) (Nat.le_refl _) _, hq1, Lib.hid hq2⟩
                · go_roundg g2
                  case measure => exact Nat.lt_succ_self g2
                  case rel => exact ⟨i2 + 1, q, HI2.out, (by first | exact congrArg _ HW2.out | rw [Int.natCast_succ]), HB.out, HPP.out.1, HQ⟩
end Go.Proofs.Ytjnhbgpjfkkpeaa
