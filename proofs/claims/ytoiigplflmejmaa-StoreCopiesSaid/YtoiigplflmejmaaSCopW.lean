/-
  StoreCopies: the walk.
-/
import Derived.Test.YtoiigplflmejmaaSTwo
import Derived.Test.YtoiigplflmejmaaSPut
import Derived.Test.YtoiigplflmejmaaSActs
import Derived.Test.YtoiigplflmejmaaSAgE
import Derived.Deep.RegionHeld3
import Derived.Deep.LoopGhost
import Derived.Deep.CutRange
import Derived.Deep.CutBlock
namespace Go.Proofs.Ytoiigplflmejmaa
open Go.RowKit
set_option linter.unusedVariables false
set_option linter.unusedSimpArgs false
set_option maxRecDepth 100000

/-- Both stores, of any room. -/
structure Sq (w : World) (B d gm : Nat) (room : Int) (m L : List Kt) (A : Option Addr) (c : Nat) (W : World) : Prop where
  b : Below w.heap.size w W
  sx : Sx B d room (m.length : Int) m m m W
  mx : Fb W gm 30 #[.int .i64 room, .slice A L.length c]
  mr : KtD B W (.slice A L.length c) L
  hm : B ≤ gm
  wB : w.heap.size ≤ B
section
variable {w : World} {B d gm : Nat} {room : Int} {m L : List Kt} {A : Option Addr} {c : Nat}
theorem Sq.below {W W' : World} (h : Sq w B d gm room m L A c W) (hb : Below W.heap.size W W') : Sq w B d gm room m L A c W' := ⟨h.b.trans (hb.mono h.b.size), h.sx.below hb, h.mx.below hb, h.mr.below hb, h.hm, h.wB⟩
theorem Sq.alloc {W : World} (h : Sq w B d gm room m L A c W) (o : Obj) : Sq w B d gm room m L A c (W.alloc o) := h.below ((Below.refl _ _).alloc (Nat.le_refl _) o)
theorem Sq.add {W W' : World} {e : Ending} {r : List Kt × Int} (h : Sq w B d gm room m L A c W) (ha : SaddP B d room W r e W') : Sq w B d gm room r.1 L A c W' := by
  obtain ⟨_, h1, h2⟩ := ha
  exact ⟨⟨h2.os.trans h.b.os, h2.tape.trans h.b.tape, h2.output.trans h.b.output, Nat.le_trans h.b.size h2.size, fun q hq => (h2.low q (Nat.lt_of_lt_of_le hq h.wB)).trans (h.b.block q hq)⟩, h1, h2.keep h.mx (by decide) (by decide) (by decide), row_heapB h.mr (fun g cur _ hg => h2.keep (t := 31) hg (by decide) (by decide) (by decide)), h.hm, h.wB⟩
/-- The document's store is stored. -/
theorem Sq.setm {W : World} {A' : Option Addr} {c' : Nat} {L' : List Kt} (h : Sq w B d gm room m L A c W) (hr : KtD B W (.slice A' L'.length c') L') : Sq w B d gm room m L' A' c' ((W.setCell ⟨gm, 0, none⟩ (.int .i64 room)).setCell ⟨gm, 1, none⟩ (.slice A' L'.length c')) := by
  have hf := (h.mx.set 0 (.int .i64 room)).set 1 (.slice A' L'.length c')
  have hb : ∀ q, q < W.heap.size → q ≠ gm → ((W.setCell ⟨gm, 0, none⟩ (.int .i64 room)).setCell ⟨gm, 1, none⟩ (.slice A' L'.length c')).heap[q]? = W.heap[q]? := fun q _ hn => (Below.heap_setCell _ _ _ _ hn).trans (Below.heap_setCell _ _ _ _ hn)
  refine ⟨Below.setCell (Below.setCell h.b (p := ⟨gm, 0, none⟩) (Nat.le_trans h.wB h.hm) _) (p := ⟨gm, 1, none⟩) (Nat.le_trans h.wB h.hm) _, h.sx.far h.mx (by decide) (by decide) (by decide) hb, hf, row_heapB hr (fun g cur _ hg => ?_), h.hm, h.wB⟩
  exact fb_set_far (h.mx.set 0 (.int .i64 room)) (by decide) _ g cur (fb_set_far h.mx (by decide) _ g cur hg)
theorem Sq.cm {W : World} (h : Sq w B d gm room m L A c W) : W.cell? ⟨gm, 0, none⟩ = some (.int .i64 room) ∧ W.cell? ⟨gm, 1, none⟩ = some (.slice A L.length c) ∧ W.frozen? ⟨gm, 0, none⟩ = false ∧ W.frozen? ⟨gm, 1, none⟩ = false := ⟨h.mx.cell 0, h.mx.cell 1, h.mx.free 0, h.mx.free 1⟩
end

theorem Sx.sz {B d : Nat} {room many : Int} {m : List Kt} {W : World} (h : Sx B d room many m m m W) : ∃ F, Sz B d room many m F W := by
  obtain ⟨x0, x1, x2, l0, l1, l2, F0, F1, F2, s⟩ := h
  exact ⟨_, x0, x1, x2, l0, l1, l2, F0, F1, F2, s, rfl⟩
theorem tw_start {w wr W' : World} {B N d dc gm gn : Nat} {m L : List Kt} {A : Option Addr} {c : Nat} {G : List Nat} (h : Sq w B d gm 50 m L A c wr) (hb : Below wr.heap.size wr W') (hc : Sz N dc 50 (m.length : Int) m G W') (hN : wr.heap.size ≤ N) (hdc : wr.heap.size ≤ dc) (hgn : Fb W' gn 30 #[.int .i64 50, .slice A L.length c]) (hg : wr.heap.size ≤ gn) :
    Tw w B d dc gm gn m L m L A c A c W' := by
  obtain ⟨F, hF⟩ := h.sx.sz
  have hlt := h.mx.lt
  have hB : B ≤ wr.heap.size := Nat.le_trans h.hm (Nat.le_of_lt hlt)
  obtain ⟨cs, hd⟩ := hF.fb
  have hdl := hd.lt
  exact ⟨h.b.trans (hb.mono h.b.size), ⟨F, G, hF.below hb, hc.lo (by omega), fun q hq hm => by have := (hF.ge q hq).2; have := (hc.ge q hm).1; omega⟩, by omega, h.mx.below hb, h.mr.below hb, hgn, h.mr.below hb, by omega, h.hm, by omega, h.wB⟩
theorem remD_lenC {L : List Kt} {k : Kt} : (remD L k).1.length ≤ L.length := by
  unfold remD
  split
  · exact (List.erase_sublist).length_le
  · exact Nat.le_refl _
theorem remR_nnC {m : List Kt} {k : Kt} (h : ∀ x ∈ m, nnK x) : ∀ x ∈ (remR m k).1, nnK x := by
  unfold remR
  split
  · exact fun x hx => h x (List.mem_of_mem_erase hx)
  · exact h
def CqK (w : World) (B d dc gm gn : Nat) (m L n N : List Kt) (A : Option Addr) (c : Nat) (A' : Option Addr) (c' : Nat) (g : Nat) (s : Value) (wr : World) : Prop := ∃ i : Nat, i + g = 4 ∧ s = .int .i64 i ∧ Tw w B d dc gm gn m L n N A c A' c' wr
theorem act_farC {W : World} {ga gm : Nat} {cs ds : Array Value} (h : Fb W ga 33 cs) (hm : Fb W gm 30 ds) (x y : Value) : Fb ((W.setCell ⟨gm, 0, none⟩ x).setCell ⟨gm, 1, none⟩ y) ga 33 cs :=
  (h.far 0 x (fb_ty_ne h hm (by decide))).far 1 y (fb_ty_ne h hm (by decide))
theorem setC_ne {W : World} {g q : Nat} {x y : Value} (h : q ≠ g) : ((W.setCell ⟨g, 0, none⟩ x).setCell ⟨g, 1, none⟩ y).heap[q]? = W.heap[q]? := (Below.heap_setCell _ _ _ _ h).trans (Below.heap_setCell _ _ _ _ h)
def CqI (w : World) (B d gm n : Nat) (g : Nat) (s : Value) (wr : World) : Prop := ∃ (i : Nat) (m L : List Kt) (A : Option Addr) (c : Nat), i + g = n ∧ s = .int .i64 i ∧ Sq w B d gm 50 m L A c wr ∧ Hid (L.length ≤ i ∧ L.Perm m ∧ ∀ x ∈ m, nnK x)
def CqJ (w : World) (B d dc gm gn n2 n1 : Nat) (g : Nat) (s : Value) (wr : World) : Prop := ∃ (i : Nat) (m L m2 L2 : List Kt) (A : Option Addr) (c : Nat) (A2 : Option Addr) (c2 : Nat), i + g = n2 ∧ s = .int .i64 i ∧ Tw w B d dc gm gn m L m2 L2 A c A2 c2 wr ∧ Hid (L.length ≤ n1 + i ∧ L.Perm m ∧ ∀ x ∈ m, nnK x) ∧ Hid (L2.length ≤ n1 + i ∧ L2.Perm m2 ∧ ∀ x ∈ m2, nnK x)
set_option maxHeartbeats 16000000 in
theorem scops_many1 (A : Option Addr) (n cap : Nat) (A' : Option Addr) (n' cap' : Nat) (w : World) (hz : (30 : Int) < (n : Int)) : Calls Try.prog 4 #[.slice A n cap, .slice A' n' cap'] w fun e w' => e = .returned (.bool true) ∧ Below w.heap.size w w' := by
  have cA := fun W => sawake_ok W
  go_enter Try.func4, Try.ntmps4
  go_wp2_with (first
    | (go_at_call 8; (with_reducible refine (cA w).mono ?_); rintro e w1 ⟨rfl, hB1⟩)
    | (go_at_call 8; (with_reducible refine (cA w1).mono ?_); rintro e w2 ⟨rfl, hB2⟩))
  go_ret
  exact ⟨rfl, hB1.trans (hB2.mono hB1.size)⟩
set_option maxHeartbeats 16000000 in
theorem scops_many2 (A : Option Addr) (n cap : Nat) (A' : Option Addr) (n' cap' : Nat) (w : World) (hy : ¬ (30 : Int) < (n : Int)) (hz : (30 : Int) < (n' : Int)) : Calls Try.prog 4 #[.slice A n cap, .slice A' n' cap'] w fun e w' => e = .returned (.bool true) ∧ Below w.heap.size w w' := by
  have cA := fun W => sawake_ok W
  go_enter Try.func4, Try.ntmps4
  go_wp2_with (first
    | (go_at_call 8; (with_reducible refine (cA w).mono ?_); rintro e w1 ⟨rfl, hB1⟩)
    | (go_at_call 8; (with_reducible refine (cA w1).mono ?_); rintro e w2 ⟨rfl, hB2⟩))
  go_ret
  exact ⟨rfl, hB1.trans (hB2.mono hB1.size)⟩
set_option maxHeartbeats 64000000 in
theorem scops_walk (l : List Sa) (hl : ∀ t ∈ l, t.ok) (A : Option Addr) (cap : Nat) (hc : l.length ≤ cap) (hm : cap ≤ maxLen) (l2 : List Sa) (hl2 : ∀ t ∈ l2, t.ok) (A2 : Option Addr) (cap2 : Nat) (hc2 : l2.length ≤ cap2) (hm2 : cap2 ≤ maxLen) (w : World) (hs : SlAt w A 5 (l.map Sa.cells)) (hs2 : SlAt w A2 5 (l2.map Sa.cells)) :
    Calls Try.prog 4 #[.slice A l.length cap, .slice A2 l2.length cap2] w fun e w' => e = .returned (.bool true) ∧ Below w.heap.size w w' := by
  by_cases hz : 30 < l.length
  · exact scops_many1 A l.length cap A2 l2.length cap2 w (by omega)
  by_cases hz2 : 30 < l2.length
  · exact scops_many2 A l.length cap A2 l2.length cap2 w (by omega) (by omega)
  have hzI : ¬ (30 : Int) < (l.length : Int) := by omega
  have hzI2 : ¬ (30 : Int) < (l2.length : Int) := by omega
  obtain ⟨n, hn⟩ : ∃ n, n = l.length := ⟨_, rfl⟩
  obtain ⟨n2, hn2⟩ : ∃ n, n = l2.length := ⟨_, rfl⟩
  have hn40 : n ≤ 30 := by omega
  have hn402 : n2 ≤ 30 := by omega
  have hel : ∀ i, i < n → ∃ r : Sa, r.ok ∧ ∀ {W : World}, Below w.heap.size w W → ∃ g o, A = some ⟨g, o, none⟩ ∧ W.cell? ⟨g, o + i * 5, none⟩ = some (.int .u8 r.k) ∧ W.cell? ⟨g, o + i * 5 + 1, none⟩ = some (.int .u8 r.n) ∧ W.cell? ⟨g, o + i * 5 + 2, none⟩ = some (.int .i64 r.key.a) ∧ W.cell? ⟨g, o + i * 5 + 3, none⟩ = some (.int .i64 r.key.b) ∧ W.cell? ⟨g, o + i * 5 + 4, none⟩ = some (.int .i64 r.key.c) := fun i hi => by
    obtain ⟨r, hr⟩ : ∃ r, l[i]? = some r := ⟨_, List.getElem?_eq_getElem (by omega)⟩
    exact ⟨r, hl r (List.mem_of_getElem? hr), fun {W} hb => sl_at5 (hs.below hb) hr⟩
  have hel2 : ∀ i, i < n2 → ∃ r : Sa, r.ok ∧ ∀ {W : World}, Below w.heap.size w W → ∃ g o, A2 = some ⟨g, o, none⟩ ∧ W.cell? ⟨g, o + i * 5, none⟩ = some (.int .u8 r.k) ∧ W.cell? ⟨g, o + i * 5 + 1, none⟩ = some (.int .u8 r.n) ∧ W.cell? ⟨g, o + i * 5 + 2, none⟩ = some (.int .i64 r.key.a) ∧ W.cell? ⟨g, o + i * 5 + 3, none⟩ = some (.int .i64 r.key.b) ∧ W.cell? ⟨g, o + i * 5 + 4, none⟩ = some (.int .i64 r.key.c) := fun i hi => by
    obtain ⟨r, hr⟩ : ∃ r, l2[i]? = some r := ⟨_, List.getElem?_eq_getElem (by omega)⟩
    exact ⟨r, hl2 r (List.mem_of_getElem? hr), fun {W} hb => sl_at5 (hs2.below hb) hr⟩
  have cA := fun W => sawake_ok W
  have cN := fun W => snew_any 50 (by decide) (by decide) W
  rw [← hn] at hzI ⊢
  rw [← hn2] at hzI2 ⊢
  have HEL := Lib.hid hel
  have HEL2 := Lib.hid hel2
  have HN := Lib.hid hn40
  have HN2 := Lib.hid hn402
  clear hz hl hc hm hs hel hn40 hn hz2 hl2 hc2 hm2 hs2 hel2 hn402 hn2
  go_enter Try.func4, Try.ntmps4
  go_wp2_with (first
    | (go_at_call 8; (with_reducible refine (cA _).mono ?_); rintro e w1 ⟨rfl, hB1⟩)
    | (go_at_call 9; (with_reducible refine (cN _).mono ?_); rintro e w2 ⟨d, rfl, hD2, hd2, hB2⟩))
  have hst0 : Sq w w1.heap.size d w2.heap.size 50 [] [] none 0 (w2.alloc (.cells #[.int .i64 50, .slice none 0 0] 30)) :=
    ⟨(hB1.trans (hB2.mono hB1.size)).alloc (Nat.le_trans hB1.size hB2.size) _, (sx_new hD2 hd2).below ((Below.refl _ _).alloc (Nat.le_refl _) _), Fb.new _ _ _, ktD_nil _ _, hB2.size, hB1.size⟩
  have HST := Lib.hid hst0
  obtain ⟨B, hBB⟩ : ∃ B, B = w1.heap.size := ⟨_, rfl⟩
  obtain ⟨gm, hgm⟩ : ∃ g, g = w2.heap.size := ⟨_, rfl⟩
  rw [← hBB, ← hgm] at HST
  rw [← hgm]
  obtain ⟨w3, hw3⟩ : ∃ w3, w3 = w2.alloc (.cells #[.int .i64 50, .slice none 0 0] 30) := ⟨_, rfl⟩
  rw [← hw3] at HST ⊢
  clear hst0 hD2 hd2 hB1 hB2 hBB cA cN hgm hw3
  go_loopg [36] n (fun g s wr => CqI w B d gm n g s wr)
  case atStart => exact ⟨0, [], [], none, 0, by omega, rfl, HST.out, Lib.hid ⟨Nat.le_refl _, .refl _, fun x h => by cases h⟩⟩
  case round =>
    clear HST
    obtain ⟨i, m, L, A1, c1, hig, rfl, hG, HF⟩ := hrel
    cases gk with
    | succ g =>
      have hin : (i : Int) < (n : Int) := by omega
      have hiz : (0 : Int) ≤ (i : Int) := by omega
      obtain ⟨r, hrok, hcell⟩ := HEL.out i (by omega)
      obtain ⟨gg, og, rfl, q0, q1, q2, q3, q4⟩ := hcell hG.b
      obtain ⟨kd, kn, k⟩ := r
      dsimp only at q0 q1 q2 q3 q4
      have hG1 := hG.alloc (.cells #[.int .u8 kd, .int .u8 kn, .int .i64 k.a, .int .i64 k.b, .int .i64 k.c] 33)
      have hA1 := Fb.new wr 33 #[.int .u8 kd, .int .u8 kn, .int .i64 k.a, .int .i64 k.b, .int .i64 k.c]
      have hbo := add_both (room := 50) HF.out.2.1 k
      have hnn := addR_nn (room := 50) (k := k) HF.out.2.2
      have hle := addD_len (room := 50) (L := L) (k := k)
      obtain ⟨R, hR⟩ : ∃ R, R = addR 50 m k := ⟨_, rfl⟩
      obtain ⟨D, hD⟩ : ∃ D, D = addD 50 L k := ⟨_, rfl⟩
      have cS := sadd_sx hG1.sx (by have := HN.out; have := HF.out.1; have := HF.out.2.1.length_eq; omega) k
      rw [← hR] at cS hbo hnn
      rw [← hD] at hbo hle
      have HFX : Hid (D.1.length ≤ i + 1 ∧ D.1.Perm R.1 ∧ ∀ x ∈ R.1, nnK x) := Lib.hid ⟨by have := HF.out.1; omega, hbo.1, hnn⟩
      have cK2 := fun {W : World} (h : KtD B W (.slice A1 L.length c1) L) (hB : B ≤ W.heap.size) => kadd_any h hB (by have := HN.out; have := HF.out.1; omega) 50 k
      rw [← hD] at cK2
      have x2 := hA1.cell 2
      have x3 := hA1.cell 3
      have x4 := hA1.cell 4
      have HG1 := Lib.hid hG1
      have HA1 := Lib.hid hA1
      have HIG := Lib.hid (show i + 1 + g = n from by omega)
      have HWI := Lib.hid (show wrap64 ((i : Int) + 1) = ((i + 1 : Nat) : Int) from by rw [IntWalk.wrap64_in _ ⟨by omega, by have := HN.out; omega⟩, Int.natCast_succ])
      clear hG hG1 hA1 hR hD hig hrok hcell HEL HEL2 hbo hnn hle
      have HSG := Lib.hid (fun (e : Ending) (W : World) (h : SaddP B d 50 (wr.alloc (.cells #[.int .u8 kd, .int .u8 kn, .int .i64 k.a, .int .i64 k.b, .int .i64 k.c] 33)) R e W) => (⟨HG1.out.add h, h.2.2.keep HA1.out (by decide) (by decide) (by decide)⟩ : Sq w B d gm 50 R.1 L A1 c1 W ∧ Fb W wr.heap.size 33 #[.int .u8 kd, .int .u8 kn, .int .i64 k.a, .int .i64 k.b, .int .i64 k.c]))
      obtain ⟨R1, R2⟩ := R
      obtain ⟨D1, D2⟩ := D
      dsimp only at cS HSG HFX cK2
      go_wp2_with (first
        | (go_at_call 11; (with_reducible refine cS.mono ?_); rintro e w5 hS; have hEE : e = .returned (.int .i64 R2) := hS.1; obtain ⟨hG5, hA5⟩ := HSG.out _ _ hS; subst hEE; clear hS; obtain ⟨m0, m1, z0, z1⟩ := hG5.cm; have y2 := hA5.cell 2; have y3 := hA5.cell 3; have y4 := hA5.cell 4; have cK3 := cK2 hG5.mr (Nat.le_trans hG5.hm (Nat.le_of_lt hG5.mx.lt)); have HG5 := Lib.hid hG5; clear hG5 hA5)
        | (go_at_call 10; (with_reducible refine cK3.mono ?_); rintro e w6 ⟨v6, rfl, hr6, hb6⟩; obtain ⟨A6, c6, rfl⟩ := KtD.shape hr6; have hG6 := HG5.out.below hb6; have HG6 := Lib.hid (hG6.setm hr6); obtain ⟨m0', m1', z0', z1'⟩ := hG6.cm; have l6 := hG6.mx.lt; clear hG6 hr6 hb6))
      go_roundg g
      case measure => exact Nat.lt_succ_self g
      case rel => exact ⟨i + 1, R1, D1, A6, c6, HIG.out, (by first | exact congrArg _ HWI.out | rw [HWI.out] | rw [Int.natCast_succ]), HG6.out, HFX⟩
    | zero =>
      have hin : ¬ (i : Int) < (n : Int) := by omega
      have HG := Lib.hid hG
      obtain ⟨e0, e1, _, _⟩ := hG.cm
      have HLL := Lib.hid (show L.length ≤ n ∧ m.length ≤ 30 from by have := HN.out; have := HF.out.1; have := HF.out.2.1.length_eq; omega)
      have hK : ∀ w', Below wr.heap.size wr w' → w'.cell? ⟨gm, 0, none⟩ = some (.int .i64 50) ∧ w'.cell? ⟨gm, 1, none⟩ = some (.slice A1 L.length c1) := fun w' hb => ⟨(HG.out.below hb).mx.cell 0, (HG.out.below hb).mx.cell 1⟩
      have HK := Lib.hid hK
      have cC : ∀ w', Below wr.heap.size wr w' → Calls Try.prog 18 #[.pointer (some ⟨d, 0, none⟩)] w' fun e w2 => e = .returned (.pointer (some ⟨w'.heap.size, 0, none⟩)) ∧ Below w'.heap.size w' w2 ∧ ∃ G, Sz w'.heap.size w'.heap.size 50 (m.length : Int) m G w2 := fun w' hb => by
        obtain ⟨F, hF⟩ := (HG.out.below hb).sx.sz
        exact scopy_sz hF (by have := HLL.out.2; omega)
      clear hG hig hK
      go_upto_region 11 with (fail)
      go_region_held3 (fun w' => w'.cell? ⟨gm, 0, none⟩ = some (.int .i64 50) ∧ w'.cell? ⟨gm, 1, none⟩ = some (.slice A1 L.length c1))
        (first | (refine HK.out _ ?_; repeat (first | assumption | exact Below.refl _ _ | refine Below.drew ?_ | refine Below.alloc ?_ (by first | exact Nat.le_refl _ | exact hB8.size | (simp; done)) _ | refine Below.setCell ?_ (by first | exact Nat.le_refl _ | exact hB8.size | (simp; done)) _)))
        (first | (go_at_call 18; (with_reducible refine (cC _ (by repeat (first | assumption | exact Below.refl _ _ | refine Below.drew ?_ | refine Below.alloc ?_ (by first | exact Nat.le_refl _ | exact hB8.size | (simp; done)) _ | refine Below.setCell ?_ (by first | exact Nat.le_refl _ | exact hB8.size | (simp; done)) _))).mono ?_); rintro e w8 ⟨rfl, hb8, G8, hS8⟩; have hB8 : Below wr.heap.size wr w8 := Below.trans (by repeat (first | assumption | exact Below.refl _ _ | refine Below.drew ?_ | refine Below.alloc ?_ (by first | exact Nat.le_refl _ | exact hB8.size | (simp; done)) _ | refine Below.setCell ?_ (by first | exact Nat.le_refl _ | exact hB8.size | (simp; done)) _)) (hb8.mono (by first | exact Nat.le_refl _ | (simp; done))); (try (have hF8 : Fb w8 wr.heap.size 30 #[.int .i64 0, .slice none 0 0] := (Fb.new wr.drew 30 #[.int .i64 0, .slice none 0 0]).below hb8; have u0 := hF8.cell 0; have u1 := hF8.cell 1; have u2 := hF8.free 0; have u3 := hF8.free 1))))
      · have HT := Lib.hid (tw_start (gn := w8.heap.size) HG.out (hB8.alloc hB8.size _) (hS8.below ((Below.refl _ _).alloc (Nat.le_refl _) _)) (Nat.le_refl _) (Nat.le_refl _) (Fb.new w8 _ _) hB8.size)
        clear hb8 hS8 G8 HG
        generalize w8.alloc (.cells #[.int .i64 50, .slice A1 L.length c1] 30) = wx at HT ⊢
        generalize w8.heap.size = gn at HT ⊢
        generalize hdc : wr.heap.size = dc at HT ⊢
        rw [show wr.drew.heap.size = wr.heap.size from rfl, hdc] at HT
        clear hdc
        go_wp2_with fail
        go_loopg [59] n2 (fun g s wr => CqJ w B d dc gm gn n2 n g s wr)
        case atStart => exact ⟨0, m, L, m, L, A1, c1, A1, c1, by omega, rfl, HT.out, Lib.hid ⟨by have := HLL.out.1; omega, HF.out.2⟩, Lib.hid ⟨by have := HLL.out.1; omega, HF.out.2⟩⟩
        case round =>
          clear HT HLL HF HK cC
          obtain ⟨j, m, L, m2, L2, A1, c1, A3, c3, hig, rfl, hG, HF, HF2⟩ := hrel
          cases gk with
          | succ g =>
            have hin : (j : Int) < (n2 : Int) := by omega
            have hiz : (0 : Int) ≤ (j : Int) := by omega
            obtain ⟨r, hrok, hcell⟩ := HEL2.out j (by omega)
            obtain ⟨gg, og, rfl, q0, q1, q2, q3, q4⟩ := hcell hG.b
            obtain ⟨kd, kn, k⟩ := r
            dsimp only at q0 q1 q2 q3 q4
            have hG1 := hG.alloc (.cells #[.int .u8 kd, .int .u8 kn, .int .i64 k.a, .int .i64 k.b, .int .i64 k.c] 33)
            have hA1 := Fb.new wr 33 #[.int .u8 kd, .int .u8 kn, .int .i64 k.a, .int .i64 k.b, .int .i64 k.c]
            have x2 := hA1.cell 2
            have x3 := hA1.cell 3
            have x4 := hA1.cell 4
            have HG1 := Lib.hid hG1
            have HA1 := Lib.hid hA1
            have HIG := Lib.hid (show j + 1 + g = n2 from by omega)
            have HML := Lib.hid (show m.length ≤ 200 ∧ m2.length ≤ 200 ∧ L.length ≤ 1000 ∧ L2.length ≤ 1000 from by have := HN.out; have := HN2.out; have := HF.out.1; have := HF.out.2.1.length_eq; have := HF2.out.1; have := HF2.out.2.1.length_eq; omega)
            have HWI := Lib.hid (show wrap64 ((j : Int) + 1) = ((j + 1 : Nat) : Int) from by rw [IntWalk.wrap64_in _ ⟨by omega, by have := HN2.out; omega⟩, Int.natCast_succ])
            have hmod : j % 2 = 0 ∨ j % 2 = 1 := by omega
            have htm : (j : Int).tmod 2 = ((j % 2 : Nat) : Int) := by rw [Int.tmod_eq_emod_of_nonneg hiz]; omega
            clear hG hG1 hA1 hig hrok hcell
            rcases hmod with hmod | hmod
            all_goals rw [hmod] at htm
            all_goals clear hmod
            · have hb1 := add_both (room := 50) HF.out.2.1 k
              have hn1 := addR_nn (room := 50) (k := k) HF.out.2.2
              have hl1 : (addD 50 L k).1.length ≤ L.length + 1 := addD_len (room := 50) (L := L) (k := k)
              have hb2 := rem_both HF2.out.2.1 k
              have hn2 := remR_nnC (k := k) HF2.out.2.2
              have hl2 : (remD L2 k).1.length ≤ L2.length + 1 := Nat.le_succ_of_le (remD_lenC (L := L2) (k := k))
              have cS1 := HG1.out.add HML.out.1 k
              have cS2 := fun {W : World} {m L : List Kt} {A : Option Addr} {c : Nat} (h : Tw w B d dc gm gn m L m2 L2 A c A3 c3 W) => h.swap.rem HML.out.2.1 k
              have cK1 := fun {W : World} (h : KtD B W (.slice A1 L.length c1) L) (hB : B ≤ W.heap.size) => kadd_any h hB HML.out.2.2.1 50 k
              have cK2 := fun {W : World} (h : KtD B W (.slice A3 L2.length c3) L2) (hB : B ≤ W.heap.size) => krem_any h hB HML.out.2.2.2 50 k
              generalize addR 50 m k = R at cS1 hb1 hn1
              generalize addD 50 L k = D at cK1 hb1 hl1
              generalize remR m2 k = R' at cS2 hb2 hn2
              generalize remD L2 k = D' at cK2 hb2 hl2
              have HFX : Hid (D.1.length ≤ n + (j + 1) ∧ D.1.Perm R.1 ∧ ∀ x ∈ R.1, nnK x) := Lib.hid ⟨by have := HF.out.1; omega, hb1.1, hn1⟩
              have HFY : Hid (D'.1.length ≤ n + (j + 1) ∧ D'.1.Perm R'.1 ∧ ∀ x ∈ R'.1, nnK x) := Lib.hid ⟨by have := HF2.out.1; omega, hb2.1, hn2⟩
              clear hb1 hn1 hl1 hb2 hn2 hl2 HEL HEL2
              obtain ⟨R1, R2⟩ := R
              obtain ⟨D1, D2⟩ := D
              obtain ⟨Q1, Q2⟩ := R'
              obtain ⟨E1, E2⟩ := D'
              dsimp only at cS1 cS2 cK1 cK2 HFX HFY
              go_wp2_with (first
                | (go_at_call 11; (with_reducible refine cS1.mono ?_); rintro e w5 ⟨hEE, hG5, hAA⟩; dsimp only at hEE hG5; subst hEE; clear cS1; have hA5 := hAA _ _ HA1.out; obtain ⟨m0, m1, z0, z1⟩ := hG5.cm; have y2 := hA5.cell 2; have y3 := hA5.cell 3; have y4 := hA5.cell 4; have cK3 := cK1 hG5.mr (Nat.le_trans hG5.hm (Nat.le_of_lt hG5.mx.lt)); have HG5 := Lib.hid hG5; have HA5 := Lib.hid hA5; clear hG5 hA5 hAA cK1)
                | (go_at_call 10; (with_reducible refine cK3.mono ?_); rintro e w6 ⟨v6, rfl, hr6, hb6⟩; clear cK3; dsimp only at hr6; obtain ⟨A6, c6, rfl⟩ := KtD.shape hr6; have hG6 := HG5.out.below hb6; have HG6 := Lib.hid (hG6.setm hr6); have hA6 := act_farC (HA5.out.below hb6) hG6.mx (.int .i64 50) (.slice A6 D1.length c6); have HA6 := Lib.hid hA6; have p2 := hA6.cell 2; have p3 := hA6.cell 3; have p4 := hA6.cell 4; obtain ⟨m0', m1', z0', z1'⟩ := hG6.cm; have l6 := hG6.mx.lt; have cS4 := cS2 HG6.out; clear hG6 hr6 hb6 hA6 cS2)
                | (go_at_call 13; (with_reducible refine cS4.mono ?_); rintro e w7 ⟨hEE, hG7, hAA⟩; dsimp only at hEE hG7; subst hEE; clear cS4; have hA7 := hAA _ _ HA6.out; obtain ⟨k0', k1', kz0, kz1⟩ := hG7.cm; have r2 := hA7.cell 2; have r3 := hA7.cell 3; have r4 := hA7.cell 4; have cK4 := cK2 hG7.mr (Nat.le_trans hG7.hm (Nat.le_of_lt hG7.mx.lt)); have HG7 := Lib.hid hG7; clear hG7 hA7 hAA cK2)
                | (go_at_call 12; (with_reducible refine cK4.mono ?_); rintro e w8 ⟨v8, rfl, hr8, hb8⟩; clear cK4; dsimp only at hr8; obtain ⟨A8, c8, rfl⟩ := KtD.shape hr8; have hG8 := HG7.out.below hb8; have HG8 := Lib.hid (hG8.setm hr8).swap; obtain ⟨n0', n1', nz0, nz1⟩ := hG8.cm; have l8 := hG8.mx.lt; clear hG8 hr8 hb8))
              go_roundg g
              case measure => exact Nat.lt_succ_self g
              case rel => exact ⟨j + 1, R1, D1, Q1, E1, A6, c6, A8, c8, HIG.out, (by first | exact congrArg _ HWI.out | rw [HWI.out] | rw [Int.natCast_succ]), HG8.out, HFX, HFY⟩
            · have hb1 := rem_both HF.out.2.1 k
              have hn1 := remR_nnC (k := k) HF.out.2.2
              have hl1 : (remD L k).1.length ≤ L.length + 1 := Nat.le_succ_of_le (remD_lenC (L := L) (k := k))
              have hb2 := add_both (room := 50) HF2.out.2.1 k
              have hn2 := addR_nn (room := 50) (k := k) HF2.out.2.2
              have hl2 : (addD 50 L2 k).1.length ≤ L2.length + 1 := addD_len (room := 50) (L := L2) (k := k)
              have cS1 := HG1.out.rem HML.out.1 k
              have cS2 := fun {W : World} {m L : List Kt} {A : Option Addr} {c : Nat} (h : Tw w B d dc gm gn m L m2 L2 A c A3 c3 W) => h.swap.add HML.out.2.1 k
              have cK1 := fun {W : World} (h : KtD B W (.slice A1 L.length c1) L) (hB : B ≤ W.heap.size) => krem_any h hB HML.out.2.2.1 50 k
              have cK2 := fun {W : World} (h : KtD B W (.slice A3 L2.length c3) L2) (hB : B ≤ W.heap.size) => kadd_any h hB HML.out.2.2.2 50 k
              generalize remR m k = R at cS1 hb1 hn1
              generalize remD L k = D at cK1 hb1 hl1
              generalize addR 50 m2 k = R' at cS2 hb2 hn2
              generalize addD 50 L2 k = D' at cK2 hb2 hl2
              have HFX : Hid (D.1.length ≤ n + (j + 1) ∧ D.1.Perm R.1 ∧ ∀ x ∈ R.1, nnK x) := Lib.hid ⟨by have := HF.out.1; omega, hb1.1, hn1⟩
              have HFY : Hid (D'.1.length ≤ n + (j + 1) ∧ D'.1.Perm R'.1 ∧ ∀ x ∈ R'.1, nnK x) := Lib.hid ⟨by have := HF2.out.1; omega, hb2.1, hn2⟩
              clear hb1 hn1 hl1 hb2 hn2 hl2 HEL HEL2
              obtain ⟨R1, R2⟩ := R
              obtain ⟨D1, D2⟩ := D
              obtain ⟨Q1, Q2⟩ := R'
              obtain ⟨E1, E2⟩ := D'
              dsimp only at cS1 cS2 cK1 cK2 HFX HFY
              go_wp2_with (first
                | (go_at_call 13; (with_reducible refine cS1.mono ?_); rintro e w5 ⟨hEE, hG5, hAA⟩; dsimp only at hEE hG5; subst hEE; clear cS1; have hA5 := hAA _ _ HA1.out; obtain ⟨m0, m1, z0, z1⟩ := hG5.cm; have y2 := hA5.cell 2; have y3 := hA5.cell 3; have y4 := hA5.cell 4; have cK3 := cK1 hG5.mr (Nat.le_trans hG5.hm (Nat.le_of_lt hG5.mx.lt)); have HG5 := Lib.hid hG5; have HA5 := Lib.hid hA5; clear hG5 hA5 hAA cK1)
                | (go_at_call 12; (with_reducible refine cK3.mono ?_); rintro e w6 ⟨v6, rfl, hr6, hb6⟩; clear cK3; dsimp only at hr6; obtain ⟨A6, c6, rfl⟩ := KtD.shape hr6; have hG6 := HG5.out.below hb6; have HG6 := Lib.hid (hG6.setm hr6); have hA6 := act_farC (HA5.out.below hb6) hG6.mx (.int .i64 50) (.slice A6 D1.length c6); have HA6 := Lib.hid hA6; have p2 := hA6.cell 2; have p3 := hA6.cell 3; have p4 := hA6.cell 4; obtain ⟨m0', m1', z0', z1'⟩ := hG6.cm; have l6 := hG6.mx.lt; have cS4 := cS2 HG6.out; clear hG6 hr6 hb6 hA6 cS2)
                | (go_at_call 11; (with_reducible refine cS4.mono ?_); rintro e w7 ⟨hEE, hG7, hAA⟩; dsimp only at hEE hG7; subst hEE; clear cS4; have hA7 := hAA _ _ HA6.out; obtain ⟨k0', k1', kz0, kz1⟩ := hG7.cm; have r2 := hA7.cell 2; have r3 := hA7.cell 3; have r4 := hA7.cell 4; have cK4 := cK2 hG7.mr (Nat.le_trans hG7.hm (Nat.le_of_lt hG7.mx.lt)); have HG7 := Lib.hid hG7; clear hG7 hA7 hAA cK2)
                | (go_at_call 10; (with_reducible refine cK4.mono ?_); rintro e w8 ⟨v8, rfl, hr8, hb8⟩; clear cK4; dsimp only at hr8; obtain ⟨A8, c8, rfl⟩ := KtD.shape hr8; have hG8 := HG7.out.below hb8; have HG8 := Lib.hid (hG8.setm hr8).swap; obtain ⟨n0', n1', nz0, nz1⟩ := hG8.cm; have l8 := hG8.mx.lt; clear hG8 hr8 hb8))
              go_roundg g
              case measure => exact Nat.lt_succ_self g
              case rel => exact ⟨j + 1, R1, D1, Q1, E1, A6, c6, A8, c8, HIG.out, (by first | exact congrArg _ HWI.out | rw [HWI.out] | rw [Int.natCast_succ]), HG8.out, HFX, HFY⟩
          | zero =>
            have hin : ¬ (j : Int) < (n2 : Int) := by omega
            have HG := Lib.hid hG
            have HML := Lib.hid (show m.length ≤ 1000 ∧ m2.length ≤ 1000 from by have := HN.out; have := HN2.out; have := HF.out.1; have := HF.out.2.1.length_eq; have := HF2.out.1; have := HF2.out.2.1.length_eq; omega)
            clear hG hig HEL HEL2
            go_wp2_with fail
            go_loopg [117] 4 (fun g s wr => CqK w B d dc gm gn m L m2 L2 A1 c1 A3 c3 g s wr)
            case atStart => exact ⟨0, by omega, rfl, HG.out⟩
            case round =>
              clear HG
              obtain ⟨i, hig, rfl, hG⟩ := hrel
              cases gk with
              | zero =>
                obtain rfl : i = 4 := by omega
                have HG := Lib.hid hG
                clear hG hig
                go_wp2
                go_ret
                exact ⟨rfl, HG.out.b⟩
              | succ g =>
                have hi4 : i = 0 ∨ i = 1 ∨ i = 2 ∨ i = 3 := by omega
                rcases hi4 with rfl | rfl | rfl | rfl
                · have HIG := Lib.hid hig
                  have HG := Lib.hid hG
                  obtain ⟨m0, m1, z0, z1⟩ := hG.cm
                  have lm := hG.mx.lt
                  have cA := fun {W : World} (h : Tw w B d dc gm gn m L m2 L2 A1 c1 A3 c3 W) => h.scanned HML.out.1 HF.out.2.1 HF.out.2.2 ⟨-1, -1, -1⟩ 1000
                  have cB := fun {W : World} (h : Tw w B d dc gm gn m L m2 L2 A1 c1 A3 c3 W) => h.swap.scanned HML.out.2 HF2.out.2.1 HF2.out.2.2 ⟨-1, -1, -1⟩ 1000
                  have hix : ∀ w', (Instr.index 44 (.agg #[.int .i64 (-1), .int .i64 (-1), .int .i64 (-1), .int .i64 (1), .int .i64 (-1), .int .i64 (-1), .int .i64 (-1), .int .i64 (1), .int .i64 (-1), .int .i64 (-1), .int .i64 (-1), .int .i64 (1)]) (.int .i64 0)).run Try.prog w' = .ok (.agg #[.int .i64 (-1), .int .i64 (-1), .int .i64 (-1)]) w' := fun _ => by kernel_rfl
                  have hix2 : ∀ w', (Instr.index 44 (.agg #[.int .i64 (-1), .int .i64 (-1), .int .i64 (-1), .int .i64 (1), .int .i64 (-1), .int .i64 (-1), .int .i64 (-1), .int .i64 (1), .int .i64 (-1), .int .i64 (-1), .int .i64 (-1), .int .i64 (1)]) (.int .i64 ((0 : Nat) : Int))).run Try.prog w' = .ok (.agg #[.int .i64 (-1), .int .i64 (-1), .int .i64 (-1)]) w' := fun _ => by kernel_rfl
                  have hP := Fb.new wr 31 #[.int .i64 (-1), .int .i64 (-1), .int .i64 (-1)]
                  have hGa := hG.alloc (.cells #[.int .i64 (-1), .int .i64 (-1), .int .i64 (-1)] 31)
                  have HGa := Lib.hid hGa
                  have HP := Lib.hid hP
                  clear hG hGa hP hig
                  go_wp2_with (first
                    | (go_at_call 14; (with_reducible refine (cA HGa.out).mono ?_); rintro e w5 ⟨rfl, hb5⟩; clear cA; have hG5 := HGa.out.below hb5; obtain ⟨a0, a1, _, _⟩ := hG5.cm; obtain ⟨b0, b1, _, _⟩ := hG5.swap.cm; have hp5 := HP.out.below hb5; have p0 := hp5.cell 0; have p1 := hp5.cell 1; have p2 := hp5.cell 2; have cB5 := cB hG5; have HG5 := Lib.hid hG5; clear hG5 hp5 hb5 cB)
                    | (go_at_call 14; (with_reducible refine cB5.mono ?_); rintro e w6 ⟨rfl, hb6⟩; have HG6 := Lib.hid (HG5.out.below hb6); clear hb6))
                  go_roundg g
                  case measure => exact Nat.lt_succ_self g
                  case rel => exact ⟨1, by have := HIG.out; omega, rfl, HG6.out⟩
                · have HIG := Lib.hid hig
                  have HG := Lib.hid hG
                  obtain ⟨m0, m1, z0, z1⟩ := hG.cm
                  have lm := hG.mx.lt
                  have cA := fun {W : World} (h : Tw w B d dc gm gn m L m2 L2 A1 c1 A3 c3 W) => h.scanned HML.out.1 HF.out.2.1 HF.out.2.2 ⟨1, -1, -1⟩ 1000
                  have cB := fun {W : World} (h : Tw w B d dc gm gn m L m2 L2 A1 c1 A3 c3 W) => h.swap.scanned HML.out.2 HF2.out.2.1 HF2.out.2.2 ⟨1, -1, -1⟩ 1000
                  have hix : ∀ w', (Instr.index 44 (.agg #[.int .i64 (-1), .int .i64 (-1), .int .i64 (-1), .int .i64 (1), .int .i64 (-1), .int .i64 (-1), .int .i64 (-1), .int .i64 (1), .int .i64 (-1), .int .i64 (-1), .int .i64 (-1), .int .i64 (1)]) (.int .i64 1)).run Try.prog w' = .ok (.agg #[.int .i64 (1), .int .i64 (-1), .int .i64 (-1)]) w' := fun _ => by kernel_rfl
                  have hix2 : ∀ w', (Instr.index 44 (.agg #[.int .i64 (-1), .int .i64 (-1), .int .i64 (-1), .int .i64 (1), .int .i64 (-1), .int .i64 (-1), .int .i64 (-1), .int .i64 (1), .int .i64 (-1), .int .i64 (-1), .int .i64 (-1), .int .i64 (1)]) (.int .i64 ((1 : Nat) : Int))).run Try.prog w' = .ok (.agg #[.int .i64 (1), .int .i64 (-1), .int .i64 (-1)]) w' := fun _ => by kernel_rfl
                  have hP := Fb.new wr 31 #[.int .i64 (1), .int .i64 (-1), .int .i64 (-1)]
                  have hGa := hG.alloc (.cells #[.int .i64 (1), .int .i64 (-1), .int .i64 (-1)] 31)
                  have HGa := Lib.hid hGa
                  have HP := Lib.hid hP
                  clear hG hGa hP hig
                  go_wp2_with (first
                    | (go_at_call 14; (with_reducible refine (cA HGa.out).mono ?_); rintro e w5 ⟨rfl, hb5⟩; clear cA; have hG5 := HGa.out.below hb5; obtain ⟨a0, a1, _, _⟩ := hG5.cm; obtain ⟨b0, b1, _, _⟩ := hG5.swap.cm; have hp5 := HP.out.below hb5; have p0 := hp5.cell 0; have p1 := hp5.cell 1; have p2 := hp5.cell 2; have cB5 := cB hG5; have HG5 := Lib.hid hG5; clear hG5 hp5 hb5 cB)
                    | (go_at_call 14; (with_reducible refine cB5.mono ?_); rintro e w6 ⟨rfl, hb6⟩; have HG6 := Lib.hid (HG5.out.below hb6); clear hb6))
                  go_roundg g
                  case measure => exact Nat.lt_succ_self g
                  case rel => exact ⟨2, by have := HIG.out; omega, rfl, HG6.out⟩
                · have HIG := Lib.hid hig
                  have HG := Lib.hid hG
                  obtain ⟨m0, m1, z0, z1⟩ := hG.cm
                  have lm := hG.mx.lt
                  have cA := fun {W : World} (h : Tw w B d dc gm gn m L m2 L2 A1 c1 A3 c3 W) => h.scanned HML.out.1 HF.out.2.1 HF.out.2.2 ⟨-1, 1, -1⟩ 1000
                  have cB := fun {W : World} (h : Tw w B d dc gm gn m L m2 L2 A1 c1 A3 c3 W) => h.swap.scanned HML.out.2 HF2.out.2.1 HF2.out.2.2 ⟨-1, 1, -1⟩ 1000
                  have hix : ∀ w', (Instr.index 44 (.agg #[.int .i64 (-1), .int .i64 (-1), .int .i64 (-1), .int .i64 (1), .int .i64 (-1), .int .i64 (-1), .int .i64 (-1), .int .i64 (1), .int .i64 (-1), .int .i64 (-1), .int .i64 (-1), .int .i64 (1)]) (.int .i64 2)).run Try.prog w' = .ok (.agg #[.int .i64 (-1), .int .i64 (1), .int .i64 (-1)]) w' := fun _ => by kernel_rfl
                  have hix2 : ∀ w', (Instr.index 44 (.agg #[.int .i64 (-1), .int .i64 (-1), .int .i64 (-1), .int .i64 (1), .int .i64 (-1), .int .i64 (-1), .int .i64 (-1), .int .i64 (1), .int .i64 (-1), .int .i64 (-1), .int .i64 (-1), .int .i64 (1)]) (.int .i64 ((2 : Nat) : Int))).run Try.prog w' = .ok (.agg #[.int .i64 (-1), .int .i64 (1), .int .i64 (-1)]) w' := fun _ => by kernel_rfl
                  have hP := Fb.new wr 31 #[.int .i64 (-1), .int .i64 (1), .int .i64 (-1)]
                  have hGa := hG.alloc (.cells #[.int .i64 (-1), .int .i64 (1), .int .i64 (-1)] 31)
                  have HGa := Lib.hid hGa
                  have HP := Lib.hid hP
                  clear hG hGa hP hig
                  go_wp2_with (first
                    | (go_at_call 14; (with_reducible refine (cA HGa.out).mono ?_); rintro e w5 ⟨rfl, hb5⟩; clear cA; have hG5 := HGa.out.below hb5; obtain ⟨a0, a1, _, _⟩ := hG5.cm; obtain ⟨b0, b1, _, _⟩ := hG5.swap.cm; have hp5 := HP.out.below hb5; have p0 := hp5.cell 0; have p1 := hp5.cell 1; have p2 := hp5.cell 2; have cB5 := cB hG5; have HG5 := Lib.hid hG5; clear hG5 hp5 hb5 cB)
                    | (go_at_call 14; (with_reducible refine cB5.mono ?_); rintro e w6 ⟨rfl, hb6⟩; have HG6 := Lib.hid (HG5.out.below hb6); clear hb6))
                  go_roundg g
                  case measure => exact Nat.lt_succ_self g
                  case rel => exact ⟨3, by have := HIG.out; omega, rfl, HG6.out⟩
                · have HIG := Lib.hid hig
                  have HG := Lib.hid hG
                  obtain ⟨m0, m1, z0, z1⟩ := hG.cm
                  have lm := hG.mx.lt
                  have cA := fun {W : World} (h : Tw w B d dc gm gn m L m2 L2 A1 c1 A3 c3 W) => h.scanned HML.out.1 HF.out.2.1 HF.out.2.2 ⟨-1, -1, 1⟩ 1000
                  have cB := fun {W : World} (h : Tw w B d dc gm gn m L m2 L2 A1 c1 A3 c3 W) => h.swap.scanned HML.out.2 HF2.out.2.1 HF2.out.2.2 ⟨-1, -1, 1⟩ 1000
                  have hix : ∀ w', (Instr.index 44 (.agg #[.int .i64 (-1), .int .i64 (-1), .int .i64 (-1), .int .i64 (1), .int .i64 (-1), .int .i64 (-1), .int .i64 (-1), .int .i64 (1), .int .i64 (-1), .int .i64 (-1), .int .i64 (-1), .int .i64 (1)]) (.int .i64 3)).run Try.prog w' = .ok (.agg #[.int .i64 (-1), .int .i64 (-1), .int .i64 (1)]) w' := fun _ => by kernel_rfl
                  have hix2 : ∀ w', (Instr.index 44 (.agg #[.int .i64 (-1), .int .i64 (-1), .int .i64 (-1), .int .i64 (1), .int .i64 (-1), .int .i64 (-1), .int .i64 (-1), .int .i64 (1), .int .i64 (-1), .int .i64 (-1), .int .i64 (-1), .int .i64 (1)]) (.int .i64 ((3 : Nat) : Int))).run Try.prog w' = .ok (.agg #[.int .i64 (-1), .int .i64 (-1), .int .i64 (1)]) w' := fun _ => by kernel_rfl
                  have hP := Fb.new wr 31 #[.int .i64 (-1), .int .i64 (-1), .int .i64 (1)]
                  have hGa := hG.alloc (.cells #[.int .i64 (-1), .int .i64 (-1), .int .i64 (1)] 31)
                  have HGa := Lib.hid hGa
                  have HP := Lib.hid hP
                  clear hG hGa hP hig
                  go_wp2_with (first
                    | (go_at_call 14; (with_reducible refine (cA HGa.out).mono ?_); rintro e w5 ⟨rfl, hb5⟩; clear cA; have hG5 := HGa.out.below hb5; obtain ⟨a0, a1, _, _⟩ := hG5.cm; obtain ⟨b0, b1, _, _⟩ := hG5.swap.cm; have hp5 := HP.out.below hb5; have p0 := hp5.cell 0; have p1 := hp5.cell 1; have p2 := hp5.cell 2; have cB5 := cB hG5; have HG5 := Lib.hid hG5; clear hG5 hp5 hb5 cB)
                    | (go_at_call 14; (with_reducible refine cB5.mono ?_); rintro e w6 ⟨rfl, hb6⟩; have HG6 := Lib.hid (HG5.out.below hb6); clear hb6))
                  go_roundg g
                  case measure => exact Nat.lt_succ_self g
                  case rel => exact ⟨4, by have := HIG.out; omega, rfl, HG6.out⟩
      · have hz8 : (wr.alloc (.cells #[.int .i64 0, .slice none 0 0] 30)).drew.heap.size = wr.heap.size + 1 := World.size_alloc _ _
        rw [hz8] at hS8
        have HT := Lib.hid (tw_start (dc := wr.heap.size + 1) (gn := wr.heap.size) HG.out ((Below.setCell hB8 (p := ⟨wr.heap.size, 0, none⟩) (Nat.le_refl _) (.int .i64 50)).setCell (p := ⟨wr.heap.size, 1, none⟩) (Nat.le_refl _) (.slice A1 L.length c1)) (Sz.on hS8 (setC_ne (by simp)) (fun q hq _ => setC_ne (fun e => Sz.far hS8 hF8 (by decide) (by decide) (e ▸ hq)))) (Nat.le_succ _) (Nat.le_succ _) ((hF8.set 0 _).set 1 _) (Nat.le_refl _))
        clear hb8 hS8 G8 HG hF8 u0 u1 u2 u3
        generalize (w8.setCell ⟨wr.heap.size, 0, none⟩ (.int .i64 50)).setCell ⟨wr.heap.size, 1, none⟩ (.slice A1 L.length c1) = wx at HT ⊢
        generalize wr.heap.size + 1 = dc at HT ⊢
        generalize wr.heap.size = gn at HT ⊢
        go_wp2_with fail
        go_loopg [59] n2 (fun g s wr => CqJ w B d dc gm gn n2 n g s wr)
        case atStart => exact ⟨0, m, L, m, L, A1, c1, A1, c1, by omega, rfl, HT.out, Lib.hid ⟨by have := HLL.out.1; omega, HF.out.2⟩, Lib.hid ⟨by have := HLL.out.1; omega, HF.out.2⟩⟩
        case round =>
          clear HT HLL HF HK cC
          obtain ⟨j, m, L, m2, L2, A1, c1, A3, c3, hig, rfl, hG, HF, HF2⟩ := hrel
          cases gk with
          | succ g =>
            have hin : (j : Int) < (n2 : Int) := by omega
            have hiz : (0 : Int) ≤ (j : Int) := by omega
            obtain ⟨r, hrok, hcell⟩ := HEL2.out j (by omega)
            obtain ⟨gg, og, rfl, q0, q1, q2, q3, q4⟩ := hcell hG.b
            obtain ⟨kd, kn, k⟩ := r
            dsimp only at q0 q1 q2 q3 q4
            have hG1 := hG.alloc (.cells #[.int .u8 kd, .int .u8 kn, .int .i64 k.a, .int .i64 k.b, .int .i64 k.c] 33)
            have hA1 := Fb.new wr 33 #[.int .u8 kd, .int .u8 kn, .int .i64 k.a, .int .i64 k.b, .int .i64 k.c]
            have x2 := hA1.cell 2
            have x3 := hA1.cell 3
            have x4 := hA1.cell 4
            have HG1 := Lib.hid hG1
            have HA1 := Lib.hid hA1
            have HIG := Lib.hid (show j + 1 + g = n2 from by omega)
            have HML := Lib.hid (show m.length ≤ 200 ∧ m2.length ≤ 200 ∧ L.length ≤ 1000 ∧ L2.length ≤ 1000 from by have := HN.out; have := HN2.out; have := HF.out.1; have := HF.out.2.1.length_eq; have := HF2.out.1; have := HF2.out.2.1.length_eq; omega)
            have HWI := Lib.hid (show wrap64 ((j : Int) + 1) = ((j + 1 : Nat) : Int) from by rw [IntWalk.wrap64_in _ ⟨by omega, by have := HN2.out; omega⟩, Int.natCast_succ])
            have hmod : j % 2 = 0 ∨ j % 2 = 1 := by omega
            have htm : (j : Int).tmod 2 = ((j % 2 : Nat) : Int) := by rw [Int.tmod_eq_emod_of_nonneg hiz]; omega
            clear hG hG1 hA1 hig hrok hcell
            rcases hmod with hmod | hmod
            all_goals rw [hmod] at htm
            all_goals clear hmod
            · have hb1 := add_both (room := 50) HF.out.2.1 k
              have hn1 := addR_nn (room := 50) (k := k) HF.out.2.2
              have hl1 : (addD 50 L k).1.length ≤ L.length + 1 := addD_len (room := 50) (L := L) (k := k)
              have hb2 := rem_both HF2.out.2.1 k
              have hn2 := remR_nnC (k := k) HF2.out.2.2
              have hl2 : (remD L2 k).1.length ≤ L2.length + 1 := Nat.le_succ_of_le (remD_lenC (L := L2) (k := k))
              have cS1 := HG1.out.add HML.out.1 k
              have cS2 := fun {W : World} {m L : List Kt} {A : Option Addr} {c : Nat} (h : Tw w B d dc gm gn m L m2 L2 A c A3 c3 W) => h.swap.rem HML.out.2.1 k
              have cK1 := fun {W : World} (h : KtD B W (.slice A1 L.length c1) L) (hB : B ≤ W.heap.size) => kadd_any h hB HML.out.2.2.1 50 k
              have cK2 := fun {W : World} (h : KtD B W (.slice A3 L2.length c3) L2) (hB : B ≤ W.heap.size) => krem_any h hB HML.out.2.2.2 50 k
              generalize addR 50 m k = R at cS1 hb1 hn1
              generalize addD 50 L k = D at cK1 hb1 hl1
              generalize remR m2 k = R' at cS2 hb2 hn2
              generalize remD L2 k = D' at cK2 hb2 hl2
              have HFX : Hid (D.1.length ≤ n + (j + 1) ∧ D.1.Perm R.1 ∧ ∀ x ∈ R.1, nnK x) := Lib.hid ⟨by have := HF.out.1; omega, hb1.1, hn1⟩
              have HFY : Hid (D'.1.length ≤ n + (j + 1) ∧ D'.1.Perm R'.1 ∧ ∀ x ∈ R'.1, nnK x) := Lib.hid ⟨by have := HF2.out.1; omega, hb2.1, hn2⟩
              clear hb1 hn1 hl1 hb2 hn2 hl2 HEL HEL2
              obtain ⟨R1, R2⟩ := R
              obtain ⟨D1, D2⟩ := D
              obtain ⟨Q1, Q2⟩ := R'
              obtain ⟨E1, E2⟩ := D'
              dsimp only at cS1 cS2 cK1 cK2 HFX HFY
              go_wp2_with (first
                | (go_at_call 11; (with_reducible refine cS1.mono ?_); rintro e w5 ⟨hEE, hG5, hAA⟩; dsimp only at hEE hG5; subst hEE; clear cS1; have hA5 := hAA _ _ HA1.out; obtain ⟨m0, m1, z0, z1⟩ := hG5.cm; have y2 := hA5.cell 2; have y3 := hA5.cell 3; have y4 := hA5.cell 4; have cK3 := cK1 hG5.mr (Nat.le_trans hG5.hm (Nat.le_of_lt hG5.mx.lt)); have HG5 := Lib.hid hG5; have HA5 := Lib.hid hA5; clear hG5 hA5 hAA cK1)
                | (go_at_call 10; (with_reducible refine cK3.mono ?_); rintro e w6 ⟨v6, rfl, hr6, hb6⟩; clear cK3; dsimp only at hr6; obtain ⟨A6, c6, rfl⟩ := KtD.shape hr6; have hG6 := HG5.out.below hb6; have HG6 := Lib.hid (hG6.setm hr6); have hA6 := act_farC (HA5.out.below hb6) hG6.mx (.int .i64 50) (.slice A6 D1.length c6); have HA6 := Lib.hid hA6; have p2 := hA6.cell 2; have p3 := hA6.cell 3; have p4 := hA6.cell 4; obtain ⟨m0', m1', z0', z1'⟩ := hG6.cm; have l6 := hG6.mx.lt; have cS4 := cS2 HG6.out; clear hG6 hr6 hb6 hA6 cS2)
                | (go_at_call 13; (with_reducible refine cS4.mono ?_); rintro e w7 ⟨hEE, hG7, hAA⟩; dsimp only at hEE hG7; subst hEE; clear cS4; have hA7 := hAA _ _ HA6.out; obtain ⟨k0', k1', kz0, kz1⟩ := hG7.cm; have r2 := hA7.cell 2; have r3 := hA7.cell 3; have r4 := hA7.cell 4; have cK4 := cK2 hG7.mr (Nat.le_trans hG7.hm (Nat.le_of_lt hG7.mx.lt)); have HG7 := Lib.hid hG7; clear hG7 hA7 hAA cK2)
                | (go_at_call 12; (with_reducible refine cK4.mono ?_); rintro e w8 ⟨v8, rfl, hr8, hb8⟩; clear cK4; dsimp only at hr8; obtain ⟨A8, c8, rfl⟩ := KtD.shape hr8; have hG8 := HG7.out.below hb8; have HG8 := Lib.hid (hG8.setm hr8).swap; obtain ⟨n0', n1', nz0, nz1⟩ := hG8.cm; have l8 := hG8.mx.lt; clear hG8 hr8 hb8))
              go_roundg g
              case measure => exact Nat.lt_succ_self g
              case rel => exact ⟨j + 1, R1, D1, Q1, E1, A6, c6, A8, c8, HIG.out, (by first | exact congrArg _ HWI.out | rw [HWI.out] | rw [Int.natCast_succ]), HG8.out, HFX, HFY⟩
            · have hb1 := rem_both HF.out.2.1 k
              have hn1 := remR_nnC (k := k) HF.out.2.2
              have hl1 : (remD L k).1.length ≤ L.length + 1 := Nat.le_succ_of_le (remD_lenC (L := L) (k := k))
              have hb2 := add_both (room := 50) HF2.out.2.1 k
              have hn2 := addR_nn (room := 50) (k := k) HF2.out.2.2
              have hl2 : (addD 50 L2 k).1.length ≤ L2.length + 1 := addD_len (room := 50) (L := L2) (k := k)
              have cS1 := HG1.out.rem HML.out.1 k
              have cS2 := fun {W : World} {m L : List Kt} {A : Option Addr} {c : Nat} (h : Tw w B d dc gm gn m L m2 L2 A c A3 c3 W) => h.swap.add HML.out.2.1 k
              have cK1 := fun {W : World} (h : KtD B W (.slice A1 L.length c1) L) (hB : B ≤ W.heap.size) => krem_any h hB HML.out.2.2.1 50 k
              have cK2 := fun {W : World} (h : KtD B W (.slice A3 L2.length c3) L2) (hB : B ≤ W.heap.size) => kadd_any h hB HML.out.2.2.2 50 k
              generalize remR m k = R at cS1 hb1 hn1
              generalize remD L k = D at cK1 hb1 hl1
              generalize addR 50 m2 k = R' at cS2 hb2 hn2
              generalize addD 50 L2 k = D' at cK2 hb2 hl2
              have HFX : Hid (D.1.length ≤ n + (j + 1) ∧ D.1.Perm R.1 ∧ ∀ x ∈ R.1, nnK x) := Lib.hid ⟨by have := HF.out.1; omega, hb1.1, hn1⟩
              have HFY : Hid (D'.1.length ≤ n + (j + 1) ∧ D'.1.Perm R'.1 ∧ ∀ x ∈ R'.1, nnK x) := Lib.hid ⟨by have := HF2.out.1; omega, hb2.1, hn2⟩
              clear hb1 hn1 hl1 hb2 hn2 hl2 HEL HEL2
              obtain ⟨R1, R2⟩ := R
              obtain ⟨D1, D2⟩ := D
              obtain ⟨Q1, Q2⟩ := R'
              obtain ⟨E1, E2⟩ := D'
              dsimp only at cS1 cS2 cK1 cK2 HFX HFY
              go_wp2_with (first
                | (go_at_call 13; (with_reducible refine cS1.mono ?_); rintro e w5 ⟨hEE, hG5, hAA⟩; dsimp only at hEE hG5; subst hEE; clear cS1; have hA5 := hAA _ _ HA1.out; obtain ⟨m0, m1, z0, z1⟩ := hG5.cm; have y2 := hA5.cell 2; have y3 := hA5.cell 3; have y4 := hA5.cell 4; have cK3 := cK1 hG5.mr (Nat.le_trans hG5.hm (Nat.le_of_lt hG5.mx.lt)); have HG5 := Lib.hid hG5; have HA5 := Lib.hid hA5; clear hG5 hA5 hAA cK1)
                | (go_at_call 12; (with_reducible refine cK3.mono ?_); rintro e w6 ⟨v6, rfl, hr6, hb6⟩; clear cK3; dsimp only at hr6; obtain ⟨A6, c6, rfl⟩ := KtD.shape hr6; have hG6 := HG5.out.below hb6; have HG6 := Lib.hid (hG6.setm hr6); have hA6 := act_farC (HA5.out.below hb6) hG6.mx (.int .i64 50) (.slice A6 D1.length c6); have HA6 := Lib.hid hA6; have p2 := hA6.cell 2; have p3 := hA6.cell 3; have p4 := hA6.cell 4; obtain ⟨m0', m1', z0', z1'⟩ := hG6.cm; have l6 := hG6.mx.lt; have cS4 := cS2 HG6.out; clear hG6 hr6 hb6 hA6 cS2)
                | (go_at_call 11; (with_reducible refine cS4.mono ?_); rintro e w7 ⟨hEE, hG7, hAA⟩; dsimp only at hEE hG7; subst hEE; clear cS4; have hA7 := hAA _ _ HA6.out; obtain ⟨k0', k1', kz0, kz1⟩ := hG7.cm; have r2 := hA7.cell 2; have r3 := hA7.cell 3; have r4 := hA7.cell 4; have cK4 := cK2 hG7.mr (Nat.le_trans hG7.hm (Nat.le_of_lt hG7.mx.lt)); have HG7 := Lib.hid hG7; clear hG7 hA7 hAA cK2)
                | (go_at_call 10; (with_reducible refine cK4.mono ?_); rintro e w8 ⟨v8, rfl, hr8, hb8⟩; clear cK4; dsimp only at hr8; obtain ⟨A8, c8, rfl⟩ := KtD.shape hr8; have hG8 := HG7.out.below hb8; have HG8 := Lib.hid (hG8.setm hr8).swap; obtain ⟨n0', n1', nz0, nz1⟩ := hG8.cm; have l8 := hG8.mx.lt; clear hG8 hr8 hb8))
              go_roundg g
              case measure => exact Nat.lt_succ_self g
              case rel => exact ⟨j + 1, R1, D1, Q1, E1, A6, c6, A8, c8, HIG.out, (by first | exact congrArg _ HWI.out | rw [HWI.out] | rw [Int.natCast_succ]), HG8.out, HFX, HFY⟩
          | zero =>
            have hin : ¬ (j : Int) < (n2 : Int) := by omega
            have HG := Lib.hid hG
            have HML := Lib.hid (show m.length ≤ 1000 ∧ m2.length ≤ 1000 from by have := HN.out; have := HN2.out; have := HF.out.1; have := HF.out.2.1.length_eq; have := HF2.out.1; have := HF2.out.2.1.length_eq; omega)
            clear hG hig HEL HEL2
            go_wp2_with fail
            go_loopg [117] 4 (fun g s wr => CqK w B d dc gm gn m L m2 L2 A1 c1 A3 c3 g s wr)
            case atStart => exact ⟨0, by omega, rfl, HG.out⟩
            case round =>
              clear HG
              obtain ⟨i, hig, rfl, hG⟩ := hrel
              cases gk with
              | zero =>
                obtain rfl : i = 4 := by omega
                have HG := Lib.hid hG
                clear hG hig
                go_wp2
                go_ret
                exact ⟨rfl, HG.out.b⟩
              | succ g =>
                have hi4 : i = 0 ∨ i = 1 ∨ i = 2 ∨ i = 3 := by omega
                rcases hi4 with rfl | rfl | rfl | rfl
                · have HIG := Lib.hid hig
                  have HG := Lib.hid hG
                  obtain ⟨m0, m1, z0, z1⟩ := hG.cm
                  have lm := hG.mx.lt
                  have cA := fun {W : World} (h : Tw w B d dc gm gn m L m2 L2 A1 c1 A3 c3 W) => h.scanned HML.out.1 HF.out.2.1 HF.out.2.2 ⟨-1, -1, -1⟩ 1000
                  have cB := fun {W : World} (h : Tw w B d dc gm gn m L m2 L2 A1 c1 A3 c3 W) => h.swap.scanned HML.out.2 HF2.out.2.1 HF2.out.2.2 ⟨-1, -1, -1⟩ 1000
                  have hix : ∀ w', (Instr.index 44 (.agg #[.int .i64 (-1), .int .i64 (-1), .int .i64 (-1), .int .i64 (1), .int .i64 (-1), .int .i64 (-1), .int .i64 (-1), .int .i64 (1), .int .i64 (-1), .int .i64 (-1), .int .i64 (-1), .int .i64 (1)]) (.int .i64 0)).run Try.prog w' = .ok (.agg #[.int .i64 (-1), .int .i64 (-1), .int .i64 (-1)]) w' := fun _ => by kernel_rfl
                  have hix2 : ∀ w', (Instr.index 44 (.agg #[.int .i64 (-1), .int .i64 (-1), .int .i64 (-1), .int .i64 (1), .int .i64 (-1), .int .i64 (-1), .int .i64 (-1), .int .i64 (1), .int .i64 (-1), .int .i64 (-1), .int .i64 (-1), .int .i64 (1)]) (.int .i64 ((0 : Nat) : Int))).run Try.prog w' = .ok (.agg #[.int .i64 (-1), .int .i64 (-1), .int .i64 (-1)]) w' := fun _ => by kernel_rfl
                  have hP := Fb.new wr 31 #[.int .i64 (-1), .int .i64 (-1), .int .i64 (-1)]
                  have hGa := hG.alloc (.cells #[.int .i64 (-1), .int .i64 (-1), .int .i64 (-1)] 31)
                  have HGa := Lib.hid hGa
                  have HP := Lib.hid hP
                  clear hG hGa hP hig
                  go_wp2_with (first
                    | (go_at_call 14; (with_reducible refine (cA HGa.out).mono ?_); rintro e w5 ⟨rfl, hb5⟩; clear cA; have hG5 := HGa.out.below hb5; obtain ⟨a0, a1, _, _⟩ := hG5.cm; obtain ⟨b0, b1, _, _⟩ := hG5.swap.cm; have hp5 := HP.out.below hb5; have p0 := hp5.cell 0; have p1 := hp5.cell 1; have p2 := hp5.cell 2; have cB5 := cB hG5; have HG5 := Lib.hid hG5; clear hG5 hp5 hb5 cB)
                    | (go_at_call 14; (with_reducible refine cB5.mono ?_); rintro e w6 ⟨rfl, hb6⟩; have HG6 := Lib.hid (HG5.out.below hb6); clear hb6))
                  go_roundg g
                  case measure => exact Nat.lt_succ_self g
                  case rel => exact ⟨1, by have := HIG.out; omega, rfl, HG6.out⟩
                · have HIG := Lib.hid hig
                  have HG := Lib.hid hG
                  obtain ⟨m0, m1, z0, z1⟩ := hG.cm
                  have lm := hG.mx.lt
                  have cA := fun {W : World} (h : Tw w B d dc gm gn m L m2 L2 A1 c1 A3 c3 W) => h.scanned HML.out.1 HF.out.2.1 HF.out.2.2 ⟨1, -1, -1⟩ 1000
                  have cB := fun {W : World} (h : Tw w B d dc gm gn m L m2 L2 A1 c1 A3 c3 W) => h.swap.scanned HML.out.2 HF2.out.2.1 HF2.out.2.2 ⟨1, -1, -1⟩ 1000
                  have hix : ∀ w', (Instr.index 44 (.agg #[.int .i64 (-1), .int .i64 (-1), .int .i64 (-1), .int .i64 (1), .int .i64 (-1), .int .i64 (-1), .int .i64 (-1), .int .i64 (1), .int .i64 (-1), .int .i64 (-1), .int .i64 (-1), .int .i64 (1)]) (.int .i64 1)).run Try.prog w' = .ok (.agg #[.int .i64 (1), .int .i64 (-1), .int .i64 (-1)]) w' := fun _ => by kernel_rfl
                  have hix2 : ∀ w', (Instr.index 44 (.agg #[.int .i64 (-1), .int .i64 (-1), .int .i64 (-1), .int .i64 (1), .int .i64 (-1), .int .i64 (-1), .int .i64 (-1), .int .i64 (1), .int .i64 (-1), .int .i64 (-1), .int .i64 (-1), .int .i64 (1)]) (.int .i64 ((1 : Nat) : Int))).run Try.prog w' = .ok (.agg #[.int .i64 (1), .int .i64 (-1), .int .i64 (-1)]) w' := fun _ => by kernel_rfl
                  have hP := Fb.new wr 31 #[.int .i64 (1), .int .i64 (-1), .int .i64 (-1)]
                  have hGa := hG.alloc (.cells #[.int .i64 (1), .int .i64 (-1), .int .i64 (-1)] 31)
                  have HGa := Lib.hid hGa
                  have HP := Lib.hid hP
                  clear hG hGa hP hig
                  go_wp2_with (first
                    | (go_at_call 14; (with_reducible refine (cA HGa.out).mono ?_); rintro e w5 ⟨rfl, hb5⟩; clear cA; have hG5 := HGa.out.below hb5; obtain ⟨a0, a1, _, _⟩ := hG5.cm; obtain ⟨b0, b1, _, _⟩ := hG5.swap.cm; have hp5 := HP.out.below hb5; have p0 := hp5.cell 0; have p1 := hp5.cell 1; have p2 := hp5.cell 2; have cB5 := cB hG5; have HG5 := Lib.hid hG5; clear hG5 hp5 hb5 cB)
                    | (go_at_call 14; (with_reducible refine cB5.mono ?_); rintro e w6 ⟨rfl, hb6⟩; have HG6 := Lib.hid (HG5.out.below hb6); clear hb6))
                  go_roundg g
                  case measure => exact Nat.lt_succ_self g
                  case rel => exact ⟨2, by have := HIG.out; omega, rfl, HG6.out⟩
                · have HIG := Lib.hid hig
                  have HG := Lib.hid hG
                  obtain ⟨m0, m1, z0, z1⟩ := hG.cm
                  have lm := hG.mx.lt
                  have cA := fun {W : World} (h : Tw w B d dc gm gn m L m2 L2 A1 c1 A3 c3 W) => h.scanned HML.out.1 HF.out.2.1 HF.out.2.2 ⟨-1, 1, -1⟩ 1000
                  have cB := fun {W : World} (h : Tw w B d dc gm gn m L m2 L2 A1 c1 A3 c3 W) => h.swap.scanned HML.out.2 HF2.out.2.1 HF2.out.2.2 ⟨-1, 1, -1⟩ 1000
                  have hix : ∀ w', (Instr.index 44 (.agg #[.int .i64 (-1), .int .i64 (-1), .int .i64 (-1), .int .i64 (1), .int .i64 (-1), .int .i64 (-1), .int .i64 (-1), .int .i64 (1), .int .i64 (-1), .int .i64 (-1), .int .i64 (-1), .int .i64 (1)]) (.int .i64 2)).run Try.prog w' = .ok (.agg #[.int .i64 (-1), .int .i64 (1), .int .i64 (-1)]) w' := fun _ => by kernel_rfl
                  have hix2 : ∀ w', (Instr.index 44 (.agg #[.int .i64 (-1), .int .i64 (-1), .int .i64 (-1), .int .i64 (1), .int .i64 (-1), .int .i64 (-1), .int .i64 (-1), .int .i64 (1), .int .i64 (-1), .int .i64 (-1), .int .i64 (-1), .int .i64 (1)]) (.int .i64 ((2 : Nat) : Int))).run Try.prog w' = .ok (.agg #[.int .i64 (-1), .int .i64 (1), .int .i64 (-1)]) w' := fun _ => by kernel_rfl
                  have hP := Fb.new wr 31 #[.int .i64 (-1), .int .i64 (1), .int .i64 (-1)]
                  have hGa := hG.alloc (.cells #[.int .i64 (-1), .int .i64 (1), .int .i64 (-1)] 31)
                  have HGa := Lib.hid hGa
                  have HP := Lib.hid hP
                  clear hG hGa hP hig
                  go_wp2_with (first
                    | (go_at_call 14; (with_reducible refine (cA HGa.out).mono ?_); rintro e w5 ⟨rfl, hb5⟩; clear cA; have hG5 := HGa.out.below hb5; obtain ⟨a0, a1, _, _⟩ := hG5.cm; obtain ⟨b0, b1, _, _⟩ := hG5.swap.cm; have hp5 := HP.out.below hb5; have p0 := hp5.cell 0; have p1 := hp5.cell 1; have p2 := hp5.cell 2; have cB5 := cB hG5; have HG5 := Lib.hid hG5; clear hG5 hp5 hb5 cB)
                    | (go_at_call 14; (with_reducible refine cB5.mono ?_); rintro e w6 ⟨rfl, hb6⟩; have HG6 := Lib.hid (HG5.out.below hb6); clear hb6))
                  go_roundg g
                  case measure => exact Nat.lt_succ_self g
                  case rel => exact ⟨3, by have := HIG.out; omega, rfl, HG6.out⟩
                · have HIG := Lib.hid hig
                  have HG := Lib.hid hG
                  obtain ⟨m0, m1, z0, z1⟩ := hG.cm
                  have lm := hG.mx.lt
                  have cA := fun {W : World} (h : Tw w B d dc gm gn m L m2 L2 A1 c1 A3 c3 W) => h.scanned HML.out.1 HF.out.2.1 HF.out.2.2 ⟨-1, -1, 1⟩ 1000
                  have cB := fun {W : World} (h : Tw w B d dc gm gn m L m2 L2 A1 c1 A3 c3 W) => h.swap.scanned HML.out.2 HF2.out.2.1 HF2.out.2.2 ⟨-1, -1, 1⟩ 1000
                  have hix : ∀ w', (Instr.index 44 (.agg #[.int .i64 (-1), .int .i64 (-1), .int .i64 (-1), .int .i64 (1), .int .i64 (-1), .int .i64 (-1), .int .i64 (-1), .int .i64 (1), .int .i64 (-1), .int .i64 (-1), .int .i64 (-1), .int .i64 (1)]) (.int .i64 3)).run Try.prog w' = .ok (.agg #[.int .i64 (-1), .int .i64 (-1), .int .i64 (1)]) w' := fun _ => by kernel_rfl
                  have hix2 : ∀ w', (Instr.index 44 (.agg #[.int .i64 (-1), .int .i64 (-1), .int .i64 (-1), .int .i64 (1), .int .i64 (-1), .int .i64 (-1), .int .i64 (-1), .int .i64 (1), .int .i64 (-1), .int .i64 (-1), .int .i64 (-1), .int .i64 (1)]) (.int .i64 ((3 : Nat) : Int))).run Try.prog w' = .ok (.agg #[.int .i64 (-1), .int .i64 (-1), .int .i64 (1)]) w' := fun _ => by kernel_rfl
                  have hP := Fb.new wr 31 #[.int .i64 (-1), .int .i64 (-1), .int .i64 (1)]
                  have hGa := hG.alloc (.cells #[.int .i64 (-1), .int .i64 (-1), .int .i64 (1)] 31)
                  have HGa := Lib.hid hGa
                  have HP := Lib.hid hP
                  clear hG hGa hP hig
                  go_wp2_with (first
                    | (go_at_call 14; (with_reducible refine (cA HGa.out).mono ?_); rintro e w5 ⟨rfl, hb5⟩; clear cA; have hG5 := HGa.out.below hb5; obtain ⟨a0, a1, _, _⟩ := hG5.cm; obtain ⟨b0, b1, _, _⟩ := hG5.swap.cm; have hp5 := HP.out.below hb5; have p0 := hp5.cell 0; have p1 := hp5.cell 1; have p2 := hp5.cell 2; have cB5 := cB hG5; have HG5 := Lib.hid hG5; clear hG5 hp5 hb5 cB)
                    | (go_at_call 14; (with_reducible refine cB5.mono ?_); rintro e w6 ⟨rfl, hb6⟩; have HG6 := Lib.hid (HG5.out.below hb6); clear hb6))
                  go_roundg g
                  case measure => exact Nat.lt_succ_self g
                  case rel => exact ⟨4, by have := HIG.out; omega, rfl, HG6.out⟩
end Go.Proofs.Ytoiigplflmejmaa
