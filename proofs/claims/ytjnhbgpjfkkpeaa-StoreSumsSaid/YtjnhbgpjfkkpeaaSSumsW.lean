/-
  StoreSums: the walk.
-/
import Derived.Test.YtjnhbgpjfkkpeaaSSumE
import Derived.Test.YtjnhbgpjfkkpeaaSKscan
import Derived.Test.YtjnhbgpjfkkpeaaSPut
import Derived.Test.YtjnhbgpjfkkpeaaSActs
import Derived.Deep.RegionHeld3
import Derived.Deep.LoopGhost
import Derived.Deep.CutRange
import Derived.Deep.CutBlock
namespace Go.Proofs.Ytjnhbgpjfkkpeaa
open Go.RowKit
set_option linter.unusedVariables false
set_option linter.unusedSimpArgs false
set_option maxRecDepth 100000

def SuI (w : World) (B d gp gm n : Nat) (p : Kt) (g : Nat) (s36 : Value) (wr : World) : Prop := ∃ (i : Nat) (m L : List Kt) (A : Option Addr) (c : Nat), i + g = n ∧ s36 = .int .i64 i ∧ Su w B d gp gm p m L A c wr ∧ Hid (L.length ≤ i ∧ L.Perm m ∧ ∀ x ∈ m, nnK x)
def SuJ (w : World) (B d gp gm : Nat) (p : Kt) (m L : List Kt) (A : Option Addr) (c j : Nat) (q : Kt) (g : Nat) (s13 s14 s60 : Value) (wr : World) : Prop :=
  ∃ (i : Nat) (S : List Int) (A2 : Option Addr) (c2 t : Nat), i + g = L.length ∧ s60 = .int .i64 i ∧ s13 = .int .i64 t ∧ s14 = .slice A2 S.length c2 ∧ TmR B wr (.slice A2 S.length c2) S ∧ Su w B d gp gm p m L A c wr ∧ Hid (t = sumS L j q S ∧ S.length ≤ i ∧ ∀ k ∈ L.take i, cK j k ∈ S)
def SuK (wb : World) (S : List Int) (n : Int) (g : Nat) (s17 s66 : Value) (wq : World) : Prop := ∃ i : Nat, i + g = S.length ∧ s66 = .int .i64 i ∧ s17 = .bool (!((S.take i).contains n)) ∧ wq = wb
theorem fresh_step {S : List Int} {i : Nat} {x n : Int} (h : S[i]? = some x) : (!((S.take (i + 1)).contains n)) = (!((S.take i).contains n) && !(decide (x = n))) := by
  rw [List.take_add_one, h]
  have : (S.take i ++ (some x).toList).contains n = ((S.take i).contains n || decide (x = n)) := by
    rw [List.contains_append]
    congr 1
    show ([x] : List Int).contains n = _
    by_cases e : x = n
    · subst e; simp
    · have : ¬ n = x := fun h => e h.symm
      simp [e, this]
  rw [this, Bool.not_or]
set_option maxHeartbeats 16000000 in
theorem ssums_many (A : Option Addr) (n cap : Nat) (p : Kt) (b : Int) (w : World) (hz : (40 : Int) < (n : Int)) : Calls Try.prog 5 #[.slice A n cap, .agg #[.int .i64 p.a, .int .i64 p.b, .int .i64 p.c], .int .u8 b] w fun e w' => e = .returned (.bool true) ∧ Below w.heap.size w w' := by
  have cA := fun W => sawake_ok W
  have hb : Below w.heap.size w (w.alloc (.cells #[.int .i64 p.a, .int .i64 p.b, .int .i64 p.c] 31)) := (Below.refl _ _).alloc (Nat.le_refl _) _
  have HB := Lib.hid hb
  clear hb
  go_enter Try.func5, Try.ntmps5
  go_wp2_with (first
    | (go_at_call 8; (with_reducible refine (cA (w.alloc (.cells #[.int .i64 p.a, .int .i64 p.b, .int .i64 p.c] 31))).mono ?_); rintro e w1 ⟨rfl, hB1⟩)
    | (go_at_call 8; (with_reducible refine (cA w1).mono ?_); rintro e w2 ⟨rfl, hB2⟩))
  go_ret
  exact ⟨rfl, HB.out.trans ((hB1.trans (hB2.mono hB1.size)).mono HB.out.size)⟩
set_option maxHeartbeats 64000000 in
theorem ssums_walk (l : List Sa) (hl : ∀ t ∈ l, t.ok) (A : Option Addr) (cap : Nat) (hc : l.length ≤ cap) (hm : cap ≤ maxLen) (p : Kt) (hpa : i64b p.a) (hpb : i64b p.b) (hpc : i64b p.c) (b : Int) (hb0 : 0 ≤ b) (hb1 : b ≤ 255) (w : World) (hs : SlAt w A 5 (l.map Sa.cells)) :
    Calls Try.prog 5 #[.slice A l.length cap, .agg #[.int .i64 p.a, .int .i64 p.b, .int .i64 p.c], .int .u8 b] w fun e w' => e = .returned (.bool true) ∧ Below w.heap.size w w' := by
  by_cases hz : 40 < l.length
  · exact ssums_many A l.length cap p b w (by omega)
  have hzI : ¬ (40 : Int) < (l.length : Int) := by omega
  obtain ⟨n, hn⟩ : ∃ n, n = l.length := ⟨_, rfl⟩
  have hn40 : n ≤ 40 := by omega
  have hel : ∀ i, i < n → ∃ r : Sa, r.ok ∧ ∀ {W : World}, Below w.heap.size w W → ∃ g o, A = some ⟨g, o, none⟩ ∧ W.cell? ⟨g, o + i * 5, none⟩ = some (.int .u8 r.k) ∧ W.cell? ⟨g, o + i * 5 + 1, none⟩ = some (.int .u8 r.n) ∧ W.cell? ⟨g, o + i * 5 + 2, none⟩ = some (.int .i64 r.key.a) ∧ W.cell? ⟨g, o + i * 5 + 3, none⟩ = some (.int .i64 r.key.b) ∧ W.cell? ⟨g, o + i * 5 + 4, none⟩ = some (.int .i64 r.key.c) := fun i hi => by
    obtain ⟨r, hr⟩ : ∃ r, l[i]? = some r := ⟨_, List.getElem?_eq_getElem (by omega)⟩
    exact ⟨r, hl r (List.mem_of_getElem? hr), fun {W} hb => sl_at5 (hs.below hb) hr⟩
  have cA := fun W => sawake_ok W
  have cN := fun W => snew_any 50 (by decide) (by decide) W
  have hb0' : Below w.heap.size w (w.alloc (.cells #[.int .i64 p.a, .int .i64 p.b, .int .i64 p.c] 31)) := (Below.refl _ _).alloc (Nat.le_refl _) _
  have hk0 : Fb (w.alloc (.cells #[.int .i64 p.a, .int .i64 p.b, .int .i64 p.c] 31)) w.heap.size 31 #[.int .i64 p.a, .int .i64 p.b, .int .i64 p.c] := Fb.new _ _ _
  rw [← hn] at hzI ⊢
  have HEL := Lib.hid hel
  have HN := Lib.hid hn40
  have HB0 := Lib.hid hb0'
  have HK0 := Lib.hid hk0
  have HBB0 := Lib.hid hb0
  have HBB1 := Lib.hid hb1
  obtain ⟨gp, hgp⟩ : ∃ g, g = w.heap.size := ⟨_, rfl⟩
  have HGP := Lib.hid hgp
  clear hz hl hc hm hs hel hn40 hn hpa hpb hpc hb0' hk0 hgp hb0 hb1
  go_enter Try.func5, Try.ntmps5
  go_wp2_with (first
    | (go_at_call 8; (with_reducible refine (cA _).mono ?_); rintro e w1 ⟨rfl, hB1⟩)
    | (go_at_call 9; (with_reducible refine (cN _).mono ?_); rintro e w2 ⟨d, rfl, hD2, hd2, hB2⟩))
  have hwB : w.heap.size < w1.heap.size := Nat.lt_of_lt_of_le (by simp) hB1.size
  have hst0 : Su w w1.heap.size d gp w2.heap.size p [] [] none 0 (w2.alloc (.cells #[.int .i64 50, .slice none 0 0] 30)) :=
    ⟨((HB0.out.trans (hB1.mono HB0.out.size)).trans (hB2.mono (Nat.le_of_lt hwB))).alloc (Nat.le_trans (Nat.le_of_lt hwB) hB2.size) _, (sx_new hD2 hd2).below ((Below.refl _ _).alloc (Nat.le_refl _) _), by rw [HGP.out]; exact ((HK0.out.below hB1).below hB2).alloc _, Fb.new _ _ _, ktD_nil _ _, hB2.size, by rw [HGP.out]; exact Nat.le_refl _, by rw [HGP.out]; exact hwB⟩
  have HST := Lib.hid hst0
  obtain ⟨B, hBB⟩ : ∃ B, B = w1.heap.size := ⟨_, rfl⟩
  obtain ⟨gm, hgm⟩ : ∃ g, g = w2.heap.size := ⟨_, rfl⟩
  rw [← hBB, ← hgm] at HST
  rw [← HGP.out, ← hgm]
  obtain ⟨w3, hw3⟩ : ∃ w3, w3 = w2.alloc (.cells #[.int .i64 50, .slice none 0 0] 30) := ⟨_, rfl⟩
  rw [← hw3] at HST ⊢
  clear hst0 hD2 hd2 hB1 hB2 hBB cA cN hwB hgm hw3
  go_loopg [36] n (fun g s36 wr => SuI w B d gp gm n p g s36 wr)
  case atStart => exact ⟨0, [], [], none, 0, by omega, rfl, HST.out, Lib.hid ⟨Nat.le_refl _, .refl _, fun x h => by cases h⟩⟩
  case round =>
    clear HST
    obtain ⟨i, m, L, A1, c1, hig, rfl, hG, HF⟩ := hrel
    cases gk with
    | succ g =>
      have hin : (i : Int) < (n : Int) := by omega
      have hiz : (0 : Int) ≤ (i : Int) := by omega
      obtain ⟨r, hrok, hcell⟩ := HEL.out i (by omega)
      obtain ⟨gg, og, rfl, q0, q1, q2, q3, q4⟩ := hcell hG.b
      obtain ⟨kd, kn, ⟨xa, xb, xc⟩⟩ := r
      dsimp only at q0 q1 q2 q3 q4
      have hG1 := hG.alloc (.cells #[.int .u8 kd, .int .u8 kn, .int .i64 xa, .int .i64 xb, .int .i64 xc] 33)
      have hA1 := Fb.new wr 33 #[.int .u8 kd, .int .u8 kn, .int .i64 xa, .int .i64 xb, .int .i64 xc]
      have hPM := addR_perm (x := ⟨xa, xb, xc⟩) HF.out.2.1 HF.out.2.2
      have hLN := addD_len (room := 50) (L := L) (k := ⟨xa, xb, xc⟩)
      obtain ⟨R, hR⟩ : ∃ R, R = addR 50 m ⟨xa, xb, xc⟩ := ⟨_, rfl⟩
      obtain ⟨D, hD⟩ : ∃ D, D = addD 50 L ⟨xa, xb, xc⟩ := ⟨_, rfl⟩
      have cS := sadd_sx hG1.sx (by have := HN.out; have := HF.out.1; have := HF.out.2.1.length_eq; omega) ⟨xa, xb, xc⟩
      rw [← hR] at cS hPM
      rw [← hD] at hPM hLN
      dsimp only at cS
      have HPM := Lib.hid hPM
      have HLN := Lib.hid hLN
      have cK2 := fun {W : World} (h : KtD B W (.slice A1 L.length c1) L) (hB : B ≤ W.heap.size) => kadd_any h hB (by have := HN.out; have := HF.out.1; omega) 50 ⟨xa, xb, xc⟩
      rw [← hD] at cK2
      have x2 := hA1.cell 2
      have x3 := hA1.cell 3
      have x4 := hA1.cell 4
      have HG1 := Lib.hid hG1
      have HA1 := Lib.hid hA1
      have HIG := Lib.hid (show i + 1 + g = n from by omega)
      have hwi : wrap64 ((i : Int) + 1) = ((i + 1 : Nat) : Int) := by rw [IntWalk.wrap64_in _ ⟨by omega, by have := HN.out; omega⟩, Int.natCast_succ]
      have HWI := Lib.hid hwi
      clear hG hG1 hA1 hR hD hig hrok hcell HEL hwi hPM hLN
      have HSG := Lib.hid (fun (e : Ending) (W : World) (h : SaddP B d 50 (wr.alloc (.cells #[.int .u8 kd, .int .u8 kn, .int .i64 xa, .int .i64 xb, .int .i64 xc] 33)) R e W) => (⟨HG1.out.add h, h.2.2.keep HA1.out (by decide) (by decide) (by decide)⟩ : Su w B d gp gm p R.1 L A1 c1 W ∧ Fb W wr.heap.size 33 #[.int .u8 kd, .int .u8 kn, .int .i64 xa, .int .i64 xb, .int .i64 xc]))
      obtain ⟨R1, R2⟩ := R
      obtain ⟨D1, D2⟩ := D
      dsimp only at cS HSG HPM HLN cK2
      go_wp2_with (first
        | (go_at_call 11; (with_reducible refine cS.mono ?_); rintro e w5 hS; have hEE : e = .returned (.int .i64 R2) := hS.1; obtain ⟨hG5, hA5⟩ := HSG.out _ _ hS; subst hEE; clear hS; obtain ⟨m0, m1, z0, z1⟩ := hG5.cm; have y2 := hA5.cell 2; have y3 := hA5.cell 3; have y4 := hA5.cell 4; have cK3 := cK2 hG5.mr (Nat.le_trans hG5.hm (Nat.le_of_lt hG5.mx.lt)); have HG5 := Lib.hid hG5; clear hG5 hA5)
        | (go_at_call 10; (with_reducible refine cK3.mono ?_); rintro e w6 ⟨v6, rfl, hr6, hb6⟩; obtain ⟨A6, c6, rfl⟩ := KtD.shape hr6; have hG6 := HG5.out.below hb6; have HG6 := Lib.hid (hG6.setm hr6); obtain ⟨m0', m1', z0', z1'⟩ := hG6.cm; have l6 := hG6.mx.lt; clear hG6 hr6 hb6))
      go_roundg g
      case measure => exact Nat.lt_succ_self g
      case rel => exact ⟨i + 1, R1, D1, A6, c6, HIG.out, (by first | exact congrArg _ HWI.out | rw [HWI.out] | rw [Int.natCast_succ]), HG6.out, Lib.hid ⟨by have := HLN.out; have := HF.out.1; omega, HPM.out⟩⟩
    | zero =>
      have hin : ¬ (i : Int) < (n : Int) := by omega
      have HG := Lib.hid hG
      have HLL := Lib.hid (show L.length ≤ 40 from by have := HN.out; have := HF.out.1; omega)
      obtain ⟨j, hj⟩ : ∃ j : Nat, b % 3 = (j : Int) := ⟨(b % 3).toNat, by have := HBB0.out; omega⟩
      have hjt : b.tmod 3 = (j : Int) := by rw [Int.tmod_eq_emod_of_nonneg HBB0.out]; exact hj
      have hj3 : (j : Int) < 3 := by omega
      have hj0 : (0 : Int) ≤ (j : Int) := by omega
      have hcl := fb_three HG.out.px (i := j) (by omega)
      have hfz := HG.out.px.free j
      have HG8 := Lib.hid (HG.out.setp (i := j) (x := -1) (by omega))
      have HJ := Lib.hid (show j < 3 by omega)
      clear hG hig HEL
      go_upto_region 15 with (fail)
      obtain ⟨w8, hw8⟩ : ∃ w8, w8 = wr.setCell ⟨gp, j, none⟩ (.int .i64 (-1)) := ⟨_, rfl⟩
      rw [← hw8] at HG8 ⊢
      have m1 := HG8.out.mx.cell 1
      obtain ⟨q, hq⟩ : ∃ q, q = setK j p (-1) := ⟨_, rfl⟩
      rw [← hq] at HG8
      have HQ := Lib.hid hq
      clear hcl hfz hw8 hj hjt HG hq hin
      go_wp2
      go_loopg [13, 14, 60] L.length (fun g s13 s14 s60 wr => SuJ w B d gp gm q m L A1 c1 j p g s13 s14 s60 wr)
      case atStart => exact ⟨0, [], none, 0, 0, by omega, rfl, rfl, rfl, tmR_nil _ _, HG8.out, Lib.hid ⟨(sumS_nil _ _ _).symm, Nat.le_refl _, fun k h => by simp at h⟩⟩
      case round =>
        clear HG8 m1
        obtain ⟨i2, S, A2, c2, t, hig, rfl, rfl, rfl, hT, hG, HF2⟩ := hrel
        cases gk with
        | zero =>
          have hin : ¬ (i2 : Int) < (L.length : Int) := by omega
          obtain ⟨s, hs⟩ : ∃ s, s = (scanD q L).length := ⟨_, rfl⟩
          obtain rfl : t = s := by
            rw [hs, HQ.out, HF2.out.1]
            exact sumS_all (fun k hk => HF2.out.2.2 k (by rw [List.take_of_length_le (by omega)]; exact hk))
          have cC := scount_D hG.sx (by have := HF.out.2.1.length_eq; have := HLL.out; omega) HF.out.2.1 HF.out.2.2 q
          rw [← hs] at cC
          have cSc := fun {W : World} (h : KtD B W (.slice A1 L.length c1) L) => kscan_any h (by have := HLL.out; omega) 50 q.a q.b q.c
          obtain ⟨p0, p1, p2⟩ := hG.c3
          have HG := Lib.hid hG
          have HS := Lib.hid hs
          clear hG hig hT hs
          go_wp2_with (first
            | (go_at_call 19; (with_reducible refine cC.mono ?_); rintro e w9 ⟨rfl, hb9⟩; have hG9 := HG.out.below hb9; obtain ⟨p0', p1', p2'⟩ := hG9.c3; obtain ⟨m0', m1', _, _⟩ := hG9.cm; have cSc9 := cSc hG9.mr; have HG9 := Lib.hid hG9; clear hG9 hb9)
            | (go_at_call 20; (with_reducible refine cSc9.mono ?_); rintro e w10 ⟨v10, rfl, hr10, hb10⟩; obtain ⟨A10, c10, rfl⟩ := KtD.shape hr10; rw [← HS.out]; have HG10 := Lib.hid (HG9.out.below hb10); clear hr10 hb10))
          go_ret
          exact ⟨rfl, HG10.out.b⟩
        | succ g =>
          have hin : (i2 : Int) < (L.length : Int) := by omega
          have hi0 : (0 : Int) ≤ (i2 : Int) := by omega
          obtain ⟨k, hk⟩ : ∃ k, L[i2]? = some k := ⟨_, List.getElem?_eq_getElem (by omega)⟩
          obtain ⟨gb, cb, ev, hgb, q0, q1, q2⟩ := ktD_at hG.mr hk
          injection ev with ev1 ev2 ev3
          subst ev1
          clear ev2 ev3
          obtain ⟨wb, hwb⟩ : ∃ wb, wb = wr.alloc (.cells #[.int .i64 k.a, .int .i64 k.b, .int .i64 k.c] 31) := ⟨_, rfl⟩
          obtain ⟨gk, hgk⟩ : ∃ g, g = wr.heap.size := ⟨_, rfl⟩
          have hGb : Su w B d gp gm q m L (some ⟨gb, 0, none⟩) c1 wb := by rw [hwb]; exact hG.alloc _
          have hTb : TmR B wb (.slice A2 S.length c2) S := by rw [hwb]; exact hT.below ((Below.refl _ _).alloc (Nat.le_refl _) _)
          have hkb : Fb wb gk 31 #[.int .i64 k.a, .int .i64 k.b, .int .i64 k.c] := by rw [hwb, hgk]; exact Fb.new _ _ _
          have HGb := Lib.hid hGb
          have HTb := Lib.hid hTb
          have HKb := Lib.hid hkb
          have HWB := Lib.hid (And.intro hwb hgk)
          have HI2 := Lib.hid (show i2 + 1 + g = L.length by omega)
          have HK := Lib.hid hk
          have HI40 := Lib.hid (show i2 < 40 by have := HLL.out; omega)
          obtain ⟨n, hn⟩ : ∃ n, n = cK j k := ⟨_, rfl⟩
          have hkj := fb_three hkb (i := j) HJ.out
          rw [← hn] at hkj
          have HNk := Lib.hid hn
          clear hG hT hGb hTb hkb hwb hgk hig hk hn hgb
          go_wp2
          rw [← HWB.out.1, ← HWB.out.2]
          clear q0 q1 q2
          go_loopg [17, 66] S.length (fun g s17 s66 wq => SuK wb S n g s17 s66 wq)
          case atStart => exact ⟨0, by omega, rfl, rfl, rfl⟩
          case round =>
            obtain ⟨i3, hig3, rfl, rfl, rfl⟩ := hrel
            cases gk with
            | zero =>
              have hi3 : ¬ (i3 : Int) < (S.length : Int) := by omega
              have hST : S.take i3 = S := List.take_of_length_le (by omega)
              rw [hST]
              clear hST hig3
              cases hf : S.contains n with
              | true =>
                have HFX := Lib.hid hf
                clear hf
                go_wp2
                go_roundg g
                case measure => exact Nat.lt_succ_self _
                case rel => exact ⟨i2 + 1, S, A2, c2, t, HI2.out, by have := HI40.out; first | rfl | (rw [IntWalk.wrap64_in _ ⟨by omega, by omega⟩, Int.natCast_succ]), rfl, rfl, HTb.out, HGb.out, Lib.hid ⟨HF2.out.1, Nat.le_succ_of_le HF2.out.2.1, by
                  intro y hy
                  rw [List.take_add_one, HK.out] at hy
                  rcases List.mem_append.1 hy with hy | hy
                  · exact HF2.out.2.2 y hy
                  · simp at hy
                    subst hy
                    rw [← HNk.out]
                    exact List.contains_iff_mem.1 HFX.out⟩⟩
              | false =>
                have HFX := Lib.hid hf
                clear hf
                have HZ := Lib.hid (show S.length + [n].length ≤ 100000 from by have := HF2.out.2.1; have := HI40.out; simp; omega)
                go_upto_region 26 with (at_builtin; refine wpList_app_ints rfl (.tmp 81) (.tmp 85) rfl (B := B) (l := S) (new := [n]) rfl rfl (HTb.out.below ((Below.refl _ _).alloc (Nat.le_refl _) _)) (tmR_one n) HZ.out (by have := HGb.out.mx.lt; have := HGb.out.hm; simp; omega) ?_; intro v7 w7 hr7 hg7 hf7; have HG7 := Lib.hid ((HGb.out.alloc (.cells #[.int .i64 n] 3)).grown hg7 (HTb.out.below ((Below.refl _ _).alloc (Nat.le_refl _) _))); have HR7 := Lib.hid hr7; have HK7 := Lib.hid (tmR_far (HTb.out.below ((Below.refl _ _).alloc (Nat.le_refl _) _)) hg7 (HKb.out.alloc (.cells #[.int .i64 n] 3)) (by decide)); clear hr7 hg7 hf7)
                obtain ⟨A7, c7, rfl⟩ := HR7.out.shape
                obtain ⟨p0, p1, p2⟩ := HG7.out.c3
                have hk7 := fb_three HK7.out (i := j) HJ.out
                rw [← HNk.out] at hk7
                have hq7 := fb_three (Fb.new w7 31 #[.int .i64 q.a, .int .i64 q.b, .int .i64 q.c]) (i := j) HJ.out
                have hz7 := (Fb.new w7 31 #[.int .i64 q.a, .int .i64 q.b, .int .i64 q.c]).free j
                have hk8 := fb_three (HK7.out.alloc (.cells #[.int .i64 q.a, .int .i64 q.b, .int .i64 q.c] 31)) (i := j) HJ.out
                rw [← HNk.out] at hk8
                have hAS := arr_setK (p := q) n HJ.out
                have HAS := Lib.hid hAS
                clear hAS
                go_upto_region 28 with (fail)
                rw [HAS.out]
                have HQ9 := Lib.hid (Fb.new w7 31 #[.int .i64 (setK j q n).a, .int .i64 (setK j q n).b, .int .i64 (setK j q n).c])
                have HB9 := Lib.hid ((Below.refl w7.heap.size w7).alloc (Nat.le_refl _) (.cells #[.int .i64 (setK j q n).a, .int .i64 (setK j q n).b, .int .i64 (setK j q n).c] 31))
                obtain ⟨w9, hw9⟩ : ∃ w9, w9 = w7.alloc (.cells #[.int .i64 (setK j q n).a, .int .i64 (setK j q n).b, .int .i64 (setK j q n).c] 31) := ⟨_, rfl⟩
                rw [← hw9] at HQ9 HB9 ⊢
                have r0 := HQ9.out.cell 0
                have r1 := HQ9.out.cell 1
                have r2 := HQ9.out.cell 2
                have HG9 := Lib.hid (HG7.out.below HB9.out)
                have HR9 := Lib.hid (HR7.out.below HB9.out)
                have cC := scount_D HG9.out.sx (by have := HF.out.2.1.length_eq; have := HLL.out; omega) HF.out.2.1 HF.out.2.2 (setK j q n)
                obtain ⟨y, hy⟩ : ∃ y, y = (scanD (setK j q n) L).length := ⟨_, rfl⟩
                rw [← hy] at cC
                have hsum : t + y = sumS L j p (S ++ [n]) := by
                  rw [HF2.out.1, hy, HQ.out, setK_setK]
                  refine (sumS_step (n := n) (by rw [HNk.out]; exact nn_cK (HF.out.2.2 k (HF.out.2.1.mem_iff.1 (List.mem_of_getElem? HK.out))) j) (fun hm => ?_) L).symm
                  rw [List.contains_iff_mem.2 hm] at HFX
                  exact absurd HFX.out (by decide)
                have hle : t + y ≤ 40 := by
                  rw [hsum]
                  unfold sumS
                  exact Nat.le_trans (List.length_filter_le _ _) HLL.out
                have HTY := Lib.hid (And.intro hsum hle)
                have hwt : wrap64 ((t : Int) + (y : Int)) = ((t + y : Nat) : Int) := by rw [IntWalk.wrap64_in _ ⟨by omega, by omega⟩, Int.natCast_add]
                have HWT := Lib.hid hwt
                clear hw9 hq7 hz7 hk7 hk8 p0 p1 p2 hkj hy hsum hle hwt hi3 hin
                go_wp2_with (go_at_call 19; (with_reducible refine cC.mono ?_); rintro e w10 ⟨rfl, hb10⟩; have HG10 := Lib.hid (HG9.out.below hb10); have HR10 := Lib.hid (HR9.out.below hb10); clear hb10)
                go_roundg g
                case measure => exact Nat.lt_succ_self _
                case rel => exact ⟨i2 + 1, S ++ [n], A7, c7, t + y, HI2.out, by have := HI40.out; first | rfl | (rw [IntWalk.wrap64_in _ ⟨by omega, by omega⟩, Int.natCast_succ]), by first | rfl | rw [HWT.out] | rw [Int.natCast_add], by first | rfl | (rw [List.length_append]; rfl), HR10.out, HG10.out, Lib.hid ⟨HTY.out.1, by rw [List.length_append]; have := HF2.out.2.1; simp; omega, by
                  intro z hz
                  rw [List.take_add_one, HK.out] at hz
                  rcases List.mem_append.1 hz with hz | hz
                  · exact List.mem_append_left _ (HF2.out.2.2 z hz)
                  · simp at hz
                    subst hz
                    rw [← HNk.out]
                    exact List.mem_append_right _ (.head _)⟩⟩
            | succ g3 =>
              have hi3 : (i3 : Int) < (S.length : Int) := by omega
              have hi30 : (0 : Int) ≤ (i3 : Int) := by omega
              obtain ⟨x, hx⟩ : ∃ x, S[i3]? = some x := ⟨_, List.getElem?_eq_getElem (by omega)⟩
              obtain ⟨ga, rfl, _, hxa⟩ := HTb.out.at hx
              have HX := Lib.hid (fresh_step (n := n) hx)
              have HI3 := Lib.hid (show i3 + 1 + g3 = S.length by omega)
              have HS40 := Lib.hid (show i3 < 40 by have := HF2.out.2.1; have := HI40.out; omega)
              clear hx hig3
              cases hf : (S.take i3).contains n with
              | true =>
                rw [hf] at HX
                clear hf
                go_wp2
                go_roundg g3
                case measure => exact Nat.lt_succ_self _
                case rel => exact ⟨i3 + 1, HI3.out, by have := HS40.out; first | rfl | (rw [IntWalk.wrap64_in _ ⟨by omega, by omega⟩, Int.natCast_succ]), by rw [HX.out]; rfl, rfl⟩
              | false =>
                rw [hf] at HX
                clear hf
                by_cases hxn : x = n
                · have e1 : (x == n) = true := by rw [beq_iff_eq]; exact hxn
                  have e2 : (x != n) = false := by rw [bne, e1]; rfl
                  rw [decide_eq_true hxn] at HX
                  clear hxn
                  go_wp2
                  go_roundg g3
                  case measure => exact Nat.lt_succ_self _
                  case rel => exact ⟨i3 + 1, HI3.out, by have := HS40.out; first | rfl | (rw [IntWalk.wrap64_in _ ⟨by omega, by omega⟩, Int.natCast_succ]), by rw [HX.out]; rfl, rfl⟩
                · have e1 : (x == n) = false := by rw [beq_eq_false_iff_ne]; exact hxn
                  have e2 : (x != n) = true := by rw [bne, e1]; rfl
                  rw [decide_eq_false hxn] at HX
                  go_wp2
                  go_roundg g3
                  case measure => exact Nat.lt_succ_self _
                  case rel => exact ⟨i3 + 1, HI3.out, by have := HS40.out; first | rfl | (rw [IntWalk.wrap64_in _ ⟨by omega, by omega⟩, Int.natCast_succ]), by rw [HX.out]; rfl, rfl⟩
end Go.Proofs.Ytjnhbgpjfkkpeaa
