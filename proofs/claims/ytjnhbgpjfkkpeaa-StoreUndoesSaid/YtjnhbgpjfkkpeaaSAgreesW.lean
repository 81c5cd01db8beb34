/-
  StoreAgrees: the walk. (Out of sagrees.py.)
-/
import Derived.Test.YtjnhbgpjfkkpeaaSAgE
import Derived.Deep.RegionHeld3
import Derived.Deep.LoopGhost
import Derived.Deep.CutRange
import Derived.Deep.CutBlock
namespace Go.Proofs.Ytjnhbgpjfkkpeaa
open Go.RowKit
set_option linter.unusedVariables false
set_option linter.unusedSimpArgs false
set_option maxRecDepth 100000

def AgI (w : World) (B d gk : Nat) (k : Kt) (n : Nat) (g : Nat) (s7 s28 : Value) (wr : World) : Prop := ∃ (i : Nat) (m : List Kt) (t : Int), i + g = n ∧ s28 = .int .i64 i ∧ m.length ≤ i ∧ s7 = .int .i64 t ∧ Hid (t = if k ∈ m then 1 else 0) ∧ Sg w B d gk k m wr
def AgM (w : World) (B d gk : Nat) (k : Kt) (m : List Kt) (g : Nat) (s59 : Value) (wr : World) : Prop := ∃ j : Nat, j + g = 8 ∧ s59 = .int .i64 j ∧ Sg w B d gk k m wr
def cndP (k p : Kt) : Prop := (p.a = k.a ∨ p.a = -1) ∧ (p.b = k.b ∨ p.b = -1) ∧ (p.c = k.c ∨ p.c = -1)
def AgP (w0 : World) (k : Kt) (g : Nat) (s63 : Value) (wr : World) : Prop := ∃ (i : Nat) (p : Kt), i + g = 3 ∧ s63 = .int .i64 i ∧ Below w0.heap.size w0 wr ∧ Fb wr w0.heap.size 31 #[.int .i64 p.a, .int .i64 p.b, .int .i64 p.c] ∧ Hid (cndP k p)
theorem cnd_fit {k p : Kt} (h : cndP k p) : fitK p k = true := by
  obtain ⟨h1, h2, h3⟩ := h
  rw [fitK_iff]
  refine ⟨?_, ?_, ?_⟩
  · rcases h1 with h | h <;> omega
  · rcases h2 with h | h <;> omega
  · rcases h3 with h | h <;> omega
theorem pcell {w : World} {g i : Nat} {p : Kt} (h : Fb w g 31 #[.int .i64 p.a, .int .i64 p.b, .int .i64 p.c]) (hi : i < 3) : ∃ v : Int, w.cell? ⟨g, i, none⟩ = some (.int .i64 v) := by
  obtain rfl | rfl | rfl : i = 0 ∨ i = 1 ∨ i = 2 := by omega
  · exact ⟨_, h.cell 0⟩
  · exact ⟨_, h.cell 1⟩
  · exact ⟨_, h.cell 2⟩
theorem pset {w : World} {g i : Nat} {k p : Kt} (h : Fb w g 31 #[.int .i64 p.a, .int .i64 p.b, .int .i64 p.c]) (hi : i < 3) (hc : cndP k p) : ∃ q : Kt, Fb (w.setCell ⟨g, i, none⟩ (.int .i64 (-1))) g 31 #[.int .i64 q.a, .int .i64 q.b, .int .i64 q.c] ∧ cndP k q := by
  obtain ⟨h1, h2, h3⟩ := hc
  obtain rfl | rfl | rfl : i = 0 ∨ i = 1 ∨ i = 2 := by omega
  · exact ⟨⟨-1, p.b, p.c⟩, h.set 0 (.int .i64 (-1)), .inr rfl, h2, h3⟩
  · exact ⟨⟨p.a, -1, p.c⟩, h.set 1 (.int .i64 (-1)), h1, .inr rfl, h3⟩
  · exact ⟨⟨p.a, p.b, -1⟩, h.set 2 (.int .i64 (-1)), h1, h2, .inr rfl⟩
theorem ag_same {t : Int} {m R : List Kt} {k : Kt} {P : Prop} (h : t = if k ∈ m then 1 else 0) (hr : k ∈ R ↔ k ∈ m ∨ P) (hp : ¬ P) : t = if k ∈ R then 1 else 0 := by
  have e : k ∈ R ↔ k ∈ m := hr.trans ⟨fun h => h.elim id (fun h => (hp h).elim), .inl⟩
  rw [h]
  by_cases hm : k ∈ m
  · rw [if_pos hm, if_pos (e.2 hm)]
  · rw [if_neg hm, if_neg (fun h => hm (e.1 h))]
set_option maxHeartbeats 16000000 in
theorem sagrees_many (A : Option Addr) (n cap : Nat) (k : Kt) (w : World) (hz : (40 : Int) < (n : Int)) : Calls Try.prog 7 #[.slice A n cap, .agg #[.int .i64 k.a, .int .i64 k.b, .int .i64 k.c]] w fun e w' => e = .returned (.bool true) ∧ Below w.heap.size w w' := by
  have cA := fun W => sawake_ok W
  have hb : Below w.heap.size w (w.alloc (.cells #[.int .i64 k.a, .int .i64 k.b, .int .i64 k.c] 31)) := (Below.refl _ _).alloc (Nat.le_refl _) _
  have HB := Lib.hid hb
  clear hb
  go_enter Try.func7, Try.ntmps7
  go_wp2_with (first
    | (go_at_call 8; (with_reducible refine (cA (w.alloc (.cells #[.int .i64 k.a, .int .i64 k.b, .int .i64 k.c] 31))).mono ?_); rintro e w1 ⟨rfl, hB1⟩)
    | (go_at_call 8; (with_reducible refine (cA w1).mono ?_); rintro e w2 ⟨rfl, hB2⟩))
  go_ret
  exact ⟨rfl, HB.out.trans ((hB1.trans (hB2.mono hB1.size)).mono HB.out.size)⟩
set_option maxHeartbeats 64000000 in
theorem sagrees_walk (l : List Sa) (hl : ∀ t ∈ l, t.ok) (A : Option Addr) (cap : Nat) (hc : l.length ≤ cap) (hm : cap ≤ maxLen) (k : Kt) (hka : i64b k.a) (hkb : i64b k.b) (hkc : i64b k.c) (w : World) (hs : SlAt w A 5 (l.map Sa.cells)) :
    Calls Try.prog 7 #[.slice A l.length cap, .agg #[.int .i64 k.a, .int .i64 k.b, .int .i64 k.c]] w fun e w' => e = .returned (.bool true) ∧ Below w.heap.size w w' := by
  by_cases hz : 40 < l.length
  · exact sagrees_many A l.length cap k w (by omega)
  have hzI : ¬ (40 : Int) < (l.length : Int) := by omega
  obtain ⟨n, hn⟩ : ∃ n, n = l.length := ⟨_, rfl⟩
  have hn40 : n ≤ 40 := by omega
  have hel : ∀ i, i < n → ∃ r : Sa, r.ok ∧ ∀ {W : World}, Below w.heap.size w W → ∃ g o, A = some ⟨g, o, none⟩ ∧ W.cell? ⟨g, o + i * 5, none⟩ = some (.int .u8 r.k) ∧ W.cell? ⟨g, o + i * 5 + 1, none⟩ = some (.int .u8 r.n) ∧ W.cell? ⟨g, o + i * 5 + 2, none⟩ = some (.int .i64 r.key.a) ∧ W.cell? ⟨g, o + i * 5 + 3, none⟩ = some (.int .i64 r.key.b) ∧ W.cell? ⟨g, o + i * 5 + 4, none⟩ = some (.int .i64 r.key.c) := fun i hi => by
    obtain ⟨r, hr⟩ : ∃ r, l[i]? = some r := ⟨_, List.getElem?_eq_getElem (by omega)⟩
    exact ⟨r, hl r (List.mem_of_getElem? hr), fun {W} hb => sl_at5 (hs.below hb) hr⟩
  have cA := fun W => sawake_ok W
  have cN := fun W => snew_any 50 (by decide) (by decide) W
  have hb0 : Below w.heap.size w (w.alloc (.cells #[.int .i64 k.a, .int .i64 k.b, .int .i64 k.c] 31)) := (Below.refl _ _).alloc (Nat.le_refl _) _
  have hk0 : Fb (w.alloc (.cells #[.int .i64 k.a, .int .i64 k.b, .int .i64 k.c] 31)) w.heap.size 31 #[.int .i64 k.a, .int .i64 k.b, .int .i64 k.c] := Fb.new _ _ _
  rw [← hn] at hzI ⊢
  have HEL := Lib.hid hel
  have HN := Lib.hid hn40
  have HB0 := Lib.hid hb0
  have HK0 := Lib.hid hk0
  obtain ⟨bq, hgk⟩ : ∃ g, g = w.heap.size := ⟨_, rfl⟩
  have HGK := Lib.hid hgk
  clear hz hl hc hm hs hel hn40 hn hka hkb hkc hb0 hk0 hgk
  go_enter Try.func7, Try.ntmps7
  go_wp2_with (first
    | (go_at_call 8; (with_reducible refine (cA _).mono ?_); rintro e w1 ⟨rfl, hB1⟩)
    | (go_at_call 9; (with_reducible refine (cN _).mono ?_); rintro e w2 ⟨d, rfl, hD2, hd2, hB2⟩))
  have hst : Sg w w1.heap.size d bq k [] w2 := ⟨(HB0.out.trans (hB1.mono HB0.out.size)).trans (hB2.mono (Nat.le_trans HB0.out.size hB1.size)), sx_new hD2 hd2, by rw [HGK.out]; exact (HK0.out.below hB1).below hB2, fun x h => (by cases h)⟩
  have HST := Lib.hid hst
  have HWB := Lib.hid (show w.heap.size ≤ w1.heap.size from Nat.le_trans HB0.out.size hB1.size)
  obtain ⟨B, hBB⟩ : ∃ B, B = w1.heap.size := ⟨_, rfl⟩
  rw [← hBB] at HST HWB
  rw [← HGK.out]
  clear hst hD2 hd2 hB1 hB2 hBB cA cN
  go_loopg [7, 28] n (fun g s7 s28 wr => AgI w B d bq k n g s7 s28 wr)
  case atStart => exact ⟨0, [], 0, by omega, rfl, Nat.le_refl _, rfl, Lib.hid (by simp), HST.out⟩
  case round =>
    clear HST
    obtain ⟨i, m, t, hig, rfl, hmi, rfl, HT, hG⟩ := hrel
    cases gk with
    | zero =>
      have hin : ¬ (i : Int) < (n : Int) := by omega
      have HG := Lib.hid hG
      have HML := Lib.hid (show m.length ≤ 40 from by have := HN.out; omega)
      clear hG hig hmi HEL
      go_wp2
      clear hin
      go_loopg [59] 8 (fun g s59 wr => AgM w B d bq k m g s59 wr)
      case atStart => exact ⟨0, by omega, rfl, HG.out⟩
      case round =>
        clear HG
        obtain ⟨j, hjg, rfl, hG⟩ := hrel
        cases gk with
        | zero =>
          have hin : ¬ (j : Int) < 8 := by omega
          obtain ⟨k0, k1, k2⟩ := hG.c
          have cH := shas_sx hG.sx (by have := HML.out; omega) k
          have HG := Lib.hid hG
          have HT2 := HT.out
          by_cases hk : k ∈ m
          · rw [if_pos hk] at HT2
            subst HT2
            rw [decide_eq_true hk] at cH
            clear hG hjg hk
            go_wp2_with (go_at_call 15; (with_reducible refine cH.mono ?_); rintro e w6 ⟨rfl, hb6⟩)
            go_ret
            exact ⟨rfl, HG.out.b.trans (hb6.mono HG.out.b.size)⟩
          · rw [if_neg hk] at HT2
            subst HT2
            rw [decide_eq_false hk] at cH
            clear hG hjg hk
            go_wp2_with (go_at_call 15; (with_reducible refine cH.mono ?_); rintro e w6 ⟨rfl, hb6⟩)
            go_ret
            exact ⟨rfl, HG.out.b.trans (hb6.mono HG.out.b.size)⟩
        | succ g =>
          have hin : (j : Int) < 8 := by omega
          obtain ⟨k0, k1, k2⟩ := hG.c
          have hP0 : Fb (wr.alloc (.cells #[.int .i64 k.a, .int .i64 k.b, .int .i64 k.c] 31)) wr.heap.size 31 #[.int .i64 k.a, .int .i64 k.b, .int .i64 k.c] := Fb.new _ _ _
          have hb0 : Below wr.heap.size wr (wr.alloc (.cells #[.int .i64 k.a, .int .i64 k.b, .int .i64 k.c] 31)) := (Below.refl _ _).alloc (Nat.le_refl _) _
          have HG := Lib.hid hG
          have HP0 := Lib.hid (And.intro hb0 hP0)
          have HJ := Lib.hid hjg
          have HWJ := Lib.hid (show wrap64 ((j : Int) + 1) = ((j + 1 : Nat) : Int) from by rw [IntWalk.wrap64_in _ ⟨by omega, by omega⟩, Int.natCast_succ])
          clear hG hjg hP0 hb0
          go_wp2
          go_loopg [63] 3 (fun g s63 wq => AgP wr k g s63 wq)
          case atStart => exact ⟨0, k, by omega, rfl, HP0.out.1, HP0.out.2, Lib.hid ⟨.inl rfl, .inl rfl, .inl rfl⟩⟩
          case round =>
            clear HP0 k0 k1 k2
            obtain ⟨i2, p, hig2, rfl, hb, hp, HQ⟩ := hrel
            cases gk with
            | zero =>
              have hi3 : ¬ (i2 : Int) < 3 := by omega
              have hGq := HG.out.below hb
              have hn1 : Fb (wr.alloc (.cells #[.int .i64 0] 3)) wr.heap.size 3 #[.int .i64 0] := Fb.new _ _ _
              have hp1 := hp.alloc (.cells #[.int .i64 0] 3)
              have p0 := hp1.cell 0
              have p1 := hp1.cell 1
              have p2 := hp1.cell 2
              have cSc := sscan_any (.int .i64 0) p.a p.b p.c d (wr.alloc (.cells #[.int .i64 0] 3))
              obtain ⟨W8, hW8⟩ : ∃ W8, W8 = ((wr.alloc (.cells #[.int .i64 0] 3)).alloc (.cells #[.pointer (some ⟨d, 0, none⟩)] 24)).alloc (.cells #[.int .i64 p.a, .int .i64 p.b, .int .i64 p.c] 48) := ⟨_, rfl⟩
              rw [← hW8] at cSc
              have hb8 : Below wr.heap.size wr W8 := by rw [hW8]; exact (((Below.refl _ _).alloc (Nat.le_refl _) _).alloc (by simp) _).alloc (by simp; omega) _
              have hG8 := hGq.below hb8
              have hn8 : Fb W8 wr.heap.size 3 #[.int .i64 0] := by rw [hW8]; exact (hn1.alloc _).alloc _
              have hbs8 : Fb W8 (wr.heap.size + 1) 24 #[.pointer (some ⟨d, 0, none⟩)] := by
                have := (Fb.new (wr.alloc (.cells #[.int .i64 0] 3)) 24 #[.pointer (some ⟨d, 0, none⟩)]).alloc (.cells #[.int .i64 p.a, .int .i64 p.b, .int .i64 p.c] 48)
                rw [World.size_alloc] at this
                rw [hW8]; exact this
              have hbp8 : Fb W8 (wr.heap.size + 1 + 1) 48 #[.int .i64 p.a, .int .i64 p.b, .int .i64 p.c] := by
                have := Fb.new ((wr.alloc (.cells #[.int .i64 0] 3)).alloc (.cells #[.pointer (some ⟨d, 0, none⟩)] 24)) 48 #[.int .i64 p.a, .int .i64 p.b, .int .i64 p.c]
                rw [World.size_alloc, World.size_alloc] at this
                rw [hW8]; exact this
              have cF := sscanF_any hG8.sx (by have := HML.out; omega) p k hbs8 hbp8 hG8.kx hn8 (by decide) (by decide)
              have HC := Lib.hid (fun (W9 : World) (h : ScanIs wr.heap.size 0 m p k W8 W9) => (scan_count hG8 h (cnd_fit HQ.out)))
              have HS := Lib.hid (fun (W9 : World) (h : Cn wr.heap.size (if k ∈ m then 1 else 0) W8 W9) => hG8.scan h hn8 hGq.b.size)
              have hsz8 : (wr.alloc (.cells #[.int .i64 0] 3)).heap.size = wr.heap.size + 1 := by simp
              rw [hsz8] at cSc
              clear hGq hn1 hp1 hb hp hb8 hG8 hn8 hbs8 hbp8 hW8 hsz8
              rw [← HT.out] at HC HS
              go_wp2_with (first
                | (go_at_call 21; (with_reducible refine cSc.mono ?_); rintro e w8 ⟨rfl, rfl⟩)
                | (go_at_call 31; (with_reducible refine cF.mono ?_); rintro e w9 ⟨⟨v9, rfl⟩, hsc⟩; have hcn := HC.out _ hsc; have n9 := hcn.cn.cell 0; have hS9 := Lib.hid (HS.out _ hcn); clear hsc hcn))
              go_roundg g
              case measure => exact Nat.lt_succ_self g
              case rel => exact ⟨j + 1, (by have := HJ.out; omega), (by first | exact congrArg _ HWJ.out | rw [Int.natCast_succ]), hS9.out⟩
            | succ g2 =>
              have hi3 : (i2 : Int) < 3 := by omega
              have hi0 : (0 : Int) ≤ (i2 : Int) := by omega
              obtain ⟨pv, hcl⟩ := pcell hp (show i2 < 3 by omega)
              have hfz := hp.free i2
              have HW2 := Lib.hid (show wrap64 ((i2 : Int) + 1) = ((i2 + 1 : Nat) : Int) from by rw [IntWalk.wrap64_in _ ⟨by omega, by omega⟩, Int.natCast_succ])
              have HB := Lib.hid hb
              have HPP := Lib.hid (And.intro hp (pset hp (show i2 < 3 by omega) HQ.out))
              have HI2 := Lib.hid (show i2 + 1 + g2 = 3 by omega)
              clear hb hp hig2
              go_wp2
              · go_roundg g2
                case measure => exact Nat.lt_succ_self g2
                case rel =>
                  obtain ⟨q, hq1, hq2⟩ := HPP.out.2
                  exact ⟨i2 + 1, q, HI2.out, (by first | exact congrArg _ HW2.out | rw [Int.natCast_succ]), HB.out.setCell (p := ⟨_, i2, none⟩) (Nat.le_refl _) _, hq1, Lib.hid hq2⟩
              · go_roundg g2
                case measure => exact Nat.lt_succ_self g2
                case rel => exact ⟨i2 + 1, p, HI2.out, (by first | exact congrArg _ HW2.out | rw [Int.natCast_succ]), HB.out, HPP.out.1, HQ⟩
    | succ g =>
      have hin : (i : Int) < (n : Int) := by omega
      have hiz : (0 : Int) ≤ (i : Int) := by omega
      have hi50 : ¬ (i : Int) = 50 := by have := HN.out; omega
      obtain ⟨r, hrok, hcell⟩ := HEL.out i (by omega)
      obtain ⟨gg, og, rfl, q0, q1, q2, q3, q4⟩ := hcell hG.b
      obtain ⟨kd, kn, ⟨xa, xb, xc⟩⟩ := r
      dsimp only at q0 q1 q2 q3 q4
      have hG1 := hG.alloc (.cells #[.int .u8 kd, .int .u8 kn, .int .i64 xa, .int .i64 xb, .int .i64 xc] 33)
      have hA1 := Fb.new wr 33 #[.int .u8 kd, .int .u8 kn, .int .i64 xa, .int .i64 xb, .int .i64 xc]
      obtain ⟨R, hR⟩ : ∃ R, R = addR 50 m ⟨xa, xb, xc⟩ := ⟨_, rfl⟩
      have cS := sadd_sx hG1.sx (by have := HN.out; omega) ⟨xa, xb, xc⟩
      rw [← hR] at cS
      dsimp only at cS
      have x2 := hA1.cell 2
      have x3 := hA1.cell 3
      have x4 := hA1.cell 4
      have HG1 := Lib.hid hG1
      have HA1 := Lib.hid hA1
      have HR := Lib.hid hR
      have HIG := Lib.hid (show i + 1 + g = n from by omega)
      have HMI := Lib.hid hmi
      have HI40 := Lib.hid (show i < 40 from by have := HN.out; omega)
      have HE := Lib.hid (fun W => eqArr2 ⟨xa, xb, xc⟩ k W)
      have hwi : wrap64 ((i : Int) + 1) = ((i + 1 : Nat) : Int) := by rw [IntWalk.wrap64_in _ ⟨by omega, by have := HN.out; omega⟩, Int.natCast_succ]
      have HWI := Lib.hid hwi
      clear hG hG1 hA1 hR hig hmi hrok hcell HEL hwi
      have hsx : Hid (R.1.length ≤ i + 1 ∧ (k ∈ R.1 ↔ k ∈ m ∨ ((⟨xa, xb, xc⟩ : Kt) = k ∧ nnK k))) := Lib.hid ⟨by rw [HR.out]; have := addR_len (room := 50) (m := m) (k := ⟨xa, xb, xc⟩); have := HMI.out; omega, by rw [HR.out]; exact addR_mem (by have := HMI.out; have := HI40.out; omega)⟩
      have HSG := Lib.hid (fun (e : Ending) (W : World) (h : SaddP B d 50 (wr.alloc (.cells #[.int .u8 kd, .int .u8 kn, .int .i64 xa, .int .i64 xb, .int .i64 xc] 33)) R e W) => (⟨(by have := HG1.out.add HWB.out (HR.out ▸ h); rw [← HR.out] at this; exact this), h.2.2.keep HA1.out (by decide) (by decide) (by decide)⟩ : Sg w B d bq k R.1 W ∧ Fb W wr.heap.size 33 #[.int .u8 kd, .int .u8 kn, .int .i64 xa, .int .i64 xb, .int .i64 xc]))
      obtain ⟨R1, R2⟩ := R
      dsimp only at cS hsx HSG
      go_upto_region 10 with (go_at_call 11; (with_reducible refine cS.mono ?_); rintro e w5 hS; have hEE : e = .returned (.int .i64 R2) := hS.1; obtain ⟨hG5, hA5⟩ := HSG.out _ _ hS; subst hEE; clear hS; obtain ⟨k0, k1, k2⟩ := hG5.c; have y2 := hA5.cell 2; have y3 := hA5.cell 3; have y4 := hA5.cell 4)
      have HG5 := Lib.hid hG5
      have hE := HE.out
      clear hG5 hA5
      by_cases hx : (⟨xa, xb, xc⟩ : Kt) = k
      · rw [decide_eq_true hx] at hE
        by_cases h0 : 0 ≤ k.a
        · have e0 : decide (0 ≤ k.a) = true := decide_eq_true h0
          by_cases h1 : 0 ≤ k.b
          · have e1 : decide (0 ≤ k.b) = true := decide_eq_true h1
            by_cases h2 : 0 ≤ k.c
            · have e2 : decide (0 ≤ k.c) = true := decide_eq_true h2
              have HTN : Hid ((1 : Int) = if k ∈ R1 then 1 else 0) := Lib.hid (by rw [if_pos (hsx.out.2.2 (.inr ⟨hx, h0, h1, h2⟩))])
              clear hx h0 h1 h2
              go_wp2
              go_roundg g
              case measure => exact Nat.lt_succ_self g
              case rel => exact ⟨i + 1, R1, _, HIG.out, (by first | exact congrArg _ HWI.out | rw [HWI.out] | rw [Int.natCast_succ]), hsx.out.1, rfl, HTN, HG5.out⟩
            · have e2 : decide (0 ≤ k.c) = false := decide_eq_false h2
              have HTN : Hid (t = if k ∈ R1 then 1 else 0) := Lib.hid (ag_same HT.out hsx.out.2 (fun h => h2 h.2.2.2))
              clear hx h0 h1 h2
              go_wp2
              go_roundg g
              case measure => exact Nat.lt_succ_self g
              case rel => exact ⟨i + 1, R1, _, HIG.out, (by first | exact congrArg _ HWI.out | rw [HWI.out] | rw [Int.natCast_succ]), hsx.out.1, rfl, HTN, HG5.out⟩
          · have e1 : decide (0 ≤ k.b) = false := decide_eq_false h1
            have HTN : Hid (t = if k ∈ R1 then 1 else 0) := Lib.hid (ag_same HT.out hsx.out.2 (fun h => h1 h.2.2.1))
            clear hx h0 h1
            go_wp2
            go_roundg g
            case measure => exact Nat.lt_succ_self g
            case rel => exact ⟨i + 1, R1, _, HIG.out, (by first | exact congrArg _ HWI.out | rw [HWI.out] | rw [Int.natCast_succ]), hsx.out.1, rfl, HTN, HG5.out⟩
        · have e0 : decide (0 ≤ k.a) = false := decide_eq_false h0
          have HTN : Hid (t = if k ∈ R1 then 1 else 0) := Lib.hid (ag_same HT.out hsx.out.2 (fun h => h0 h.2.1))
          clear hx h0
          go_wp2
          go_roundg g
          case measure => exact Nat.lt_succ_self g
          case rel => exact ⟨i + 1, R1, _, HIG.out, (by first | exact congrArg _ HWI.out | rw [HWI.out] | rw [Int.natCast_succ]), hsx.out.1, rfl, HTN, HG5.out⟩
      · rw [decide_eq_false hx] at hE
        have HTN : Hid (t = if k ∈ R1 then 1 else 0) := Lib.hid (ag_same HT.out hsx.out.2 (fun h => hx h.1))
        clear hx
        go_wp2
        go_roundg g
        case measure => exact Nat.lt_succ_self g
        case rel => exact ⟨i + 1, R1, _, HIG.out, (by first | exact congrArg _ HWI.out | rw [HWI.out] | rw [Int.natCast_succ]), hsx.out.1, rfl, HTN, HG5.out⟩
end Go.Proofs.Ytjnhbgpjfkkpeaa
