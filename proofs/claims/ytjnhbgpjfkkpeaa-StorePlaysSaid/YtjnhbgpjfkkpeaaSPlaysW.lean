/-
  StorePlays: the walk.
-/
import Derived.Test.YtjnhbgpjfkkpeaaSScanned
import Derived.Test.YtjnhbgpjfkkpeaaSKrem
import Derived.Test.YtjnhbgpjfkkpeaaSPut
import Derived.Test.YtjnhbgpjfkkpeaaSActs
import Derived.Deep.RegionHeld3
import Derived.Deep.LoopGhost
import Derived.Deep.CutRange
import Derived.Deep.CutBlock
namespace Go.Proofs.Ytjnhbgpjfkkpeaa
open Go.RowKit
set_option linter.unusedVariables false
set_option linter.unusedSimpArgs false
set_option maxRecDepth 100000

/-- Both stores, of any room. -/
structure Sp (w : World) (B d gm : Nat) (room : Int) (m L : List Kt) (A : Option Addr) (c : Nat) (W : World) : Prop where
  b : Below w.heap.size w W
  sx : Sx B d room (m.length : Int) m m m W
  mx : Fb W gm 30 #[.int .i64 room, .slice A L.length c]
  mr : KtD B W (.slice A L.length c) L
  hm : B ≤ gm
  wB : w.heap.size ≤ B
section
variable {w : World} {B d gm : Nat} {room : Int} {m L : List Kt} {A : Option Addr} {c : Nat}
theorem Sp.below {W W' : World} (h : Sp w B d gm room m L A c W) (hb : Below W.heap.size W W') : Sp w B d gm room m L A c W' := ⟨h.b.trans (hb.mono h.b.size), h.sx.below hb, h.mx.below hb, h.mr.below hb, h.hm, h.wB⟩
theorem Sp.alloc {W : World} (h : Sp w B d gm room m L A c W) (o : Obj) : Sp w B d gm room m L A c (W.alloc o) := h.below ((Below.refl _ _).alloc (Nat.le_refl _) o)
theorem Sp.add {W W' : World} {e : Ending} {r : List Kt × Int} (h : Sp w B d gm room m L A c W) (ha : SaddP B d room W r e W') : Sp w B d gm room r.1 L A c W' := by
  obtain ⟨_, h1, h2⟩ := ha
  exact ⟨⟨h2.os.trans h.b.os, h2.tape.trans h.b.tape, h2.output.trans h.b.output, Nat.le_trans h.b.size h2.size, fun q hq => (h2.low q (Nat.lt_of_lt_of_le hq h.wB)).trans (h.b.block q hq)⟩, h1, h2.keep h.mx (by decide) (by decide) (by decide), row_heapB h.mr (fun g cur _ hg => h2.keep (t := 31) hg (by decide) (by decide) (by decide)), h.hm, h.wB⟩
/-- The document's store is stored. -/
theorem Sp.setm {W : World} {A' : Option Addr} {c' : Nat} {L' : List Kt} (h : Sp w B d gm room m L A c W) (hr : KtD B W (.slice A' L'.length c') L') : Sp w B d gm room m L' A' c' ((W.setCell ⟨gm, 0, none⟩ (.int .i64 room)).setCell ⟨gm, 1, none⟩ (.slice A' L'.length c')) := by
  have hf := (h.mx.set 0 (.int .i64 room)).set 1 (.slice A' L'.length c')
  have hb : ∀ q, q < W.heap.size → q ≠ gm → ((W.setCell ⟨gm, 0, none⟩ (.int .i64 room)).setCell ⟨gm, 1, none⟩ (.slice A' L'.length c')).heap[q]? = W.heap[q]? := fun q _ hn => (Below.heap_setCell _ _ _ _ hn).trans (Below.heap_setCell _ _ _ _ hn)
  refine ⟨Below.setCell (Below.setCell h.b (p := ⟨gm, 0, none⟩) (Nat.le_trans h.wB h.hm) _) (p := ⟨gm, 1, none⟩) (Nat.le_trans h.wB h.hm) _, h.sx.far h.mx (by decide) (by decide) (by decide) hb, hf, row_heapB hr (fun g cur _ hg => ?_), h.hm, h.wB⟩
  exact fb_set_far (h.mx.set 0 (.int .i64 room)) (by decide) _ g cur (fb_set_far h.mx (by decide) _ g cur hg)
theorem Sp.cm {W : World} (h : Sp w B d gm room m L A c W) : W.cell? ⟨gm, 0, none⟩ = some (.int .i64 room) ∧ W.cell? ⟨gm, 1, none⟩ = some (.slice A L.length c) ∧ W.frozen? ⟨gm, 0, none⟩ = false ∧ W.frozen? ⟨gm, 1, none⟩ = false := ⟨h.mx.cell 0, h.mx.cell 1, h.mx.free 0, h.mx.free 1⟩
end
theorem act_far {W : World} {ga gm : Nat} {cs ds : Array Value} (h : Fb W ga 33 cs) (hm : Fb W gm 30 ds) (x y : Value) : Fb ((W.setCell ⟨gm, 0, none⟩ x).setCell ⟨gm, 1, none⟩ y) ga 33 cs :=
  (h.far 0 x (fb_ty_ne h hm (by decide))).far 1 y (fb_ty_ne h hm (by decide))
def SpI (w : World) (B d gm n : Nat) (room : Int) (g : Nat) (s46 : Value) (wr : World) : Prop := ∃ (i : Nat) (m L : List Kt) (A : Option Addr) (c : Nat), i + g = n ∧ s46 = .int .i64 i ∧ Sp w B d gm room m L A c wr ∧ Hid (L.length ≤ i ∧ L.Perm m ∧ ∀ x ∈ m, nnK x)
theorem remD_len {L : List Kt} {k : Kt} : (remD L k).1.length ≤ L.length := by
  unfold remD
  split
  · exact List.length_erase_le
  · exact Nat.le_refl _
theorem finds {L : List Kt} {k : Kt} : ∃ f : Int, findD L k = f ∧ ((k ∈ L ∧ 0 ≤ f) ∨ (k ∉ L ∧ f = -1)) := by
  by_cases h : k ∈ L
  · obtain ⟨j, hj, _⟩ := fromD_at k L 0 h
    exact ⟨_, hj, .inl ⟨h, by omega⟩⟩
  · exact ⟨_, fromD_neg k L 0 h, .inr ⟨h, rfl⟩⟩
set_option maxHeartbeats 16000000 in
theorem splays_many (room : Int) (A : Option Addr) (n cap : Nat) (w : World) (hz : (60 : Int) < (n : Int)) : Calls Try.prog 3 #[.int .i64 room, .slice A n cap] w fun e w' => e = .returned (.bool true) ∧ Below w.heap.size w w' := by
  have cA := fun W => sawake_ok W
  go_enter Try.func3, Try.ntmps3
  go_wp2_with (first
    | (go_at_call 8; (with_reducible refine (cA w).mono ?_); rintro e w1 ⟨rfl, hB1⟩)
    | (go_at_call 8; (with_reducible refine (cA w1).mono ?_); rintro e w2 ⟨rfl, hB2⟩))
  go_ret
  exact ⟨rfl, hB1.trans (hB2.mono hB1.size)⟩
set_option maxHeartbeats 64000000 in
theorem splays_bad (room : Int) (hb : room < 1 ∨ 100000 < room) (A : Option Addr) (n cap : Nat) (w : World) (hz : ¬ (60 : Int) < (n : Int)) : Calls Try.prog 3 #[.int .i64 room, .slice A n cap] w fun e w' => e = .returned (.bool true) ∧ Below w.heap.size w w' := by
  have cA := fun W => sawake_ok W
  have cN := fun W => snew_bad room hb W
  rcases hb with h | h
  · go_enter Try.func3, Try.ntmps3
    go_wp2_with (first
      | (go_at_call 8; (with_reducible refine (cA w).mono ?_); rintro e w1 ⟨rfl, hB1⟩)
      | (go_at_call 9; (with_reducible refine (cN w1).mono ?_); rintro e w2 ⟨rfl, hB2⟩))
    go_ret
    exact ⟨rfl, hB1⟩
  · have h1 : ¬ room < 1 := by omega
    go_enter Try.func3, Try.ntmps3
    go_wp2_with (first
      | (go_at_call 8; (with_reducible refine (cA w).mono ?_); rintro e w1 ⟨rfl, hB1⟩)
      | (go_at_call 9; (with_reducible refine (cN w1).mono ?_); rintro e w2 ⟨rfl, hB2⟩))
    go_ret
    exact ⟨rfl, hB1⟩
set_option maxHeartbeats 64000000 in
theorem splays_walk (room : Int) (l : List Sa) (hl : ∀ t ∈ l, t.ok) (A : Option Addr) (cap : Nat) (hc : l.length ≤ cap) (hm : cap ≤ maxLen) (w : World) (hs : SlAt w A 5 (l.map Sa.cells)) :
    Calls Try.prog 3 #[.int .i64 room, .slice A l.length cap] w fun e w' => e = .returned (.bool true) ∧ Below w.heap.size w w' := by
  by_cases hz : 60 < l.length
  · exact splays_many room A l.length cap w (by omega)
  have hzI : ¬ (60 : Int) < (l.length : Int) := by omega
  by_cases hbad : room < 1 ∨ 100000 < room
  · exact splays_bad room hbad A l.length cap w hzI
  have r1 : ¬ room < 1 := by omega
  have r2 : ¬ 100000 < room := by omega
  obtain ⟨n, hn⟩ : ∃ n, n = l.length := ⟨_, rfl⟩
  have hn60 : n ≤ 60 := by omega
  have hel : ∀ i, i < n → ∃ r : Sa, r.ok ∧ ∀ {W : World}, Below w.heap.size w W → ∃ g o, A = some ⟨g, o, none⟩ ∧ W.cell? ⟨g, o + i * 5, none⟩ = some (.int .u8 r.k) ∧ W.cell? ⟨g, o + i * 5 + 1, none⟩ = some (.int .u8 r.n) ∧ W.cell? ⟨g, o + i * 5 + 2, none⟩ = some (.int .i64 r.key.a) ∧ W.cell? ⟨g, o + i * 5 + 3, none⟩ = some (.int .i64 r.key.b) ∧ W.cell? ⟨g, o + i * 5 + 4, none⟩ = some (.int .i64 r.key.c) := fun i hi => by
    obtain ⟨r, hr⟩ : ∃ r, l[i]? = some r := ⟨_, List.getElem?_eq_getElem (by omega)⟩
    exact ⟨r, hl r (List.mem_of_getElem? hr), fun {W} hb => sl_at5 (hs.below hb) hr⟩
  have cA := fun W => sawake_ok W
  have cN := fun W => snew_any room (by omega) (by omega) W
  rw [← hn] at hzI ⊢
  have HEL := Lib.hid hel
  have HN := Lib.hid hn60
  clear hz hl hc hm hs hel hn60 hn hbad
  go_enter Try.func3, Try.ntmps3
  go_wp2_with (first
    | (go_at_call 8; (with_reducible refine (cA _).mono ?_); rintro e w1 ⟨rfl, hB1⟩)
    | (go_at_call 9; (with_reducible refine (cN _).mono ?_); rintro e w2 ⟨d, rfl, hD2, hd2, hB2⟩))
  have hst0 : Sp w w1.heap.size d w2.heap.size room [] [] none 0 (w2.alloc (.cells #[.int .i64 room, .slice none 0 0] 30)) :=
    ⟨(hB1.trans (hB2.mono hB1.size)).alloc (Nat.le_trans hB1.size hB2.size) _, (sx_new hD2 hd2).below ((Below.refl _ _).alloc (Nat.le_refl _) _), Fb.new _ _ _, ktD_nil _ _, hB2.size, hB1.size⟩
  have HST := Lib.hid hst0
  obtain ⟨B, hBB⟩ : ∃ B, B = w1.heap.size := ⟨_, rfl⟩
  obtain ⟨gm, hgm⟩ : ∃ g, g = w2.heap.size := ⟨_, rfl⟩
  rw [← hBB, ← hgm] at HST
  rw [← hgm]
  obtain ⟨w3, hw3⟩ : ∃ w3, w3 = w2.alloc (.cells #[.int .i64 room, .slice none 0 0] 30) := ⟨_, rfl⟩
  rw [← hw3] at HST ⊢
  clear hst0 hD2 hd2 hB1 hB2 hBB cA cN hgm hw3 r1 r2
  go_loopg [46] n (fun g s46 wr => SpI w B d gm n room g s46 wr)
  case atStart => exact ⟨0, [], [], none, 0, by omega, rfl, HST.out, Lib.hid ⟨Nat.le_refl _, .refl _, fun x h => by cases h⟩⟩
  case round =>
    clear HST
    obtain ⟨i, m, L, A1, c1, hig, rfl, hG, HF⟩ := hrel
    cases gk with
    | zero =>
      have hin : ¬ (i : Int) < (n : Int) := by omega
      have HG := Lib.hid hG
      clear hG hig HEL
      go_wp2
      go_ret
      exact ⟨rfl, HG.out.b⟩
    | succ g =>
      have hin : (i : Int) < (n : Int) := by omega
      have hiz : (0 : Int) ≤ (i : Int) := by omega
      obtain ⟨r, hrok, hcell⟩ := HEL.out i (by omega)
      obtain ⟨gg, og, rfl, q0, q1, q2, q3, q4⟩ := hcell hG.b
      obtain ⟨kd, kn, k⟩ := r
      dsimp only at q0 q1 q2 q3 q4
      obtain ⟨wb, hwb⟩ : ∃ wb, wb = wr.alloc (.cells #[.int .u8 kd, .int .u8 kn, .int .i64 k.a, .int .i64 k.b, .int .i64 k.c] 33) := ⟨_, rfl⟩
      obtain ⟨ga, hga⟩ : ∃ g, g = wr.heap.size := ⟨_, rfl⟩
      have hG1 : Sp w B d gm room m L A1 c1 wb := by rw [hwb]; exact hG.alloc _
      have hA1 : Fb wb ga 33 #[.int .u8 kd, .int .u8 kn, .int .i64 k.a, .int .i64 k.b, .int .i64 k.c] := by rw [hwb, hga]; exact Fb.new wr _ _
      have HG1 := Lib.hid hG1
      have HA1 := Lib.hid hA1
      have HIG := Lib.hid (show i + 1 + g = n from by omega)
      have HI60 := Lib.hid (show i < 60 from by have := HN.out; omega)
      have HWI := Lib.hid (show wrap64 ((i : Int) + 1) = ((i + 1 : Nat) : Int) from by rw [IntWalk.wrap64_in _ ⟨by omega, by have := HN.out; omega⟩, Int.natCast_succ])
      have HWB := Lib.hid (And.intro hwb hga)
      obtain ⟨⟨hk0, hk1⟩, ⟨hn0, hn1⟩, _⟩ := hrok
      dsimp only at hk0 hk1 hn0 hn1
      clear hG hG1 hA1 hig hcell HEL hwb hga
      go_upto_region 12 with (fail)
      rw [← HWB.out.1, ← HWB.out.2]
      have hml0 : m.length ≤ 200 := by have := HF.out.1; have := HF.out.2.1.length_eq; have := HI60.out; omega
      have x0 := HA1.out.cell 0
      have x1 := HA1.out.cell 1
      have x2 := HA1.out.cell 2
      have x3 := HA1.out.cell 3
      have x4 := HA1.out.cell 4
      obtain ⟨m0, m1, f0, f1⟩ := HG1.out.cm
      have lm := HG1.out.mx.lt
      have h4 : kd % 4 = 0 ∨ kd % 4 = 1 ∨ kd % 4 = 2 ∨ kd % 4 = 3 := by omega
      have ht4 : kd.tmod 4 = kd % 4 := Int.tmod_eq_emod_of_nonneg hk0
      rcases h4 with h4 | h4 | h4 | h4
      · rw [h4] at ht4
        have cD := kadd_any HG1.out.mr (Nat.le_trans HG1.out.hm (Nat.le_of_lt lm)) (by have := HF.out.1; have := HI60.out; omega) room k
        have cS := fun {W : World} (h : Sx B d room (m.length : Int) m m m W) => sadd_sx h hml0 k
        have hbo := add_both (room := room) HF.out.2.1 k
        have hnn := addR_nn (room := room) (k := k) HF.out.2.2
        have hle := addD_len (room := room) (L := L) (k := k)
        obtain ⟨R, hR⟩ : ∃ R, R = addR room m k := ⟨_, rfl⟩
        obtain ⟨D, hD⟩ : ∃ D, D = addD room L k := ⟨_, rfl⟩
        rw [← hR] at hbo hnn
        simp only [← hR] at cS
        rw [← hD] at hbo hle cD
        have HFX : Hid (D.1.length ≤ i + 1 ∧ D.1.Perm R.1 ∧ ∀ x ∈ R.1, nnK x) := Lib.hid ⟨by have := HF.out.1; omega, hbo.1, hnn⟩
        have hcode : D.2 = R.2 := hbo.2
        clear hR hD hbo hnn hle hml0 hk0 hk1 hn0 hn1 hin hiz
        obtain ⟨R1, R2⟩ := R
        obtain ⟨D1, D2⟩ := D
        dsimp only at cS cD HFX hcode
        subst hcode
        go_upto_region 25 with (first
          | (go_at_call 10; (with_reducible refine cD.mono ?_); rintro e w6 ⟨v6, rfl, hr6, hb6⟩; dsimp only at hr6; obtain ⟨A6, c6, rfl⟩ := KtD.shape hr6; have hG6 := HG1.out.below hb6; have HG6 := Lib.hid (hG6.setm hr6); have HA6 := Lib.hid (act_far (HA1.out.below hb6) hG6.mx (.int .i64 room) (.slice A6 D1.length c6)); obtain ⟨n0, n1, z0', z1'⟩ := hG6.cm; have l6 := hG6.mx.lt; have y2 := HA6.out.cell 2; have y3 := HA6.out.cell 3; have y4 := HA6.out.cell 4; have cS2 := cS HG6.out.sx; clear hG6 hr6 hb6)
          | (go_at_call 11; (with_reducible refine cS2.mono ?_); rintro e w7 hS; have hEE : e = .returned (.int .i64 D2) := hS.1; have HG7 := Lib.hid (HG6.out.add hS); have HA7 := Lib.hid (hS.2.2.keep HA6.out (by decide) (by decide) (by decide)); subst hEE; clear hS))
        obtain ⟨f, hf, hff⟩ := finds (L := D1) (k := k)
        have hlen : (R1.length : Int) = (D1.length : Int) := by have := HFX.out.2.1.length_eq; omega
        have hml : R1.length ≤ 200 := by have := HFX.out.1; have := HFX.out.2.1.length_eq; have := HI60.out; omega
        have hK : ∀ w', Below w7.heap.size w7 w' → w'.cell? ⟨ga, 2, none⟩ = some (.int .i64 k.a) ∧ w'.cell? ⟨ga, 3, none⟩ = some (.int .i64 k.b) ∧ w'.cell? ⟨ga, 4, none⟩ = some (.int .i64 k.c) ∧ w'.cell? ⟨gm, 0, none⟩ = some (.int .i64 room) ∧ w'.cell? ⟨gm, 1, none⟩ = some (.slice A6 D1.length c6) := fun w' hb => ⟨(HA7.out.below hb).cell 2, (HA7.out.below hb).cell 3, (HA7.out.below hb).cell 4, (HG7.out.below hb).mx.cell 0, (HG7.out.below hb).mx.cell 1⟩
        have cH : ∀ w', Below w7.heap.size w7 w' → Calls Try.prog 15 #[.pointer (some ⟨d, 0, none⟩), .agg #[.int .i64 k.a, .int .i64 k.b, .int .i64 k.c]] w' fun e w2 => e = .returned (.bool (decide (k ∈ R1))) ∧ Below w'.heap.size w' w2 := fun w' hb => shas_sx (HG7.out.below hb).sx (by omega) k
        have cFd : ∀ w', Below w7.heap.size w7 w' → Calls Try.prog 16 #[.agg #[.int .i64 room, .slice A6 D1.length c6], .agg #[.int .i64 k.a, .int .i64 k.b, .int .i64 k.c]] w' fun e w2 => e = .returned (.int .i64 f) ∧ Below w'.heap.size w' w2 := fun w' hb => by
          have := kfind_any (HG7.out.below hb).mr (by omega) room k
          rw [hf] at this
          exact this
        have cLn : ∀ w', Below w7.heap.size w7 w' → Calls Try.prog 17 #[.pointer (some ⟨d, 0, none⟩)] w' fun e w2 => e = .returned (.int .i64 (D1.length : Nat)) ∧ Below w'.heap.size w' w2 := fun w' hb => (slen_sx (HG7.out.below hb).sx).mono fun e w2 ⟨h1, h2⟩ => ⟨by rw [← hlen]; exact h1, h2 ▸ Below.refl _ _⟩
        have cSn : ∀ w', Below w7.heap.size w7 w' → Calls Try.prog 14 #[.pointer (some ⟨d, 0, none⟩), .agg #[.int .i64 room, .slice A6 D1.length c6], .agg #[.int .i64 (-1), .int .i64 (-1), .int .i64 (-1)], .int .i64 1000] w' fun e w2 => e = .returned (.bool true) ∧ Below w'.heap.size w' w2 := fun w' hb => scanned_any (HG7.out.below hb).sx (by omega) (HG7.out.below hb).mr HFX.out.2.1 HFX.out.2.2 ⟨-1, -1, -1⟩ room 1000
        have HK := Lib.hid hK
        obtain ⟨z0, z1, z2, z3, z4⟩ := hK _ (Below.refl _ _)
        have ways : (decide (k ∈ R1) = true ∧ 0 ≤ f) ∨ (decide (k ∈ R1) = false ∧ f = -1) := by
          rcases hff with ⟨h1, h2⟩ | ⟨h1, h2⟩
          · exact .inl ⟨decide_eq_true (HFX.out.2.1.mem_iff.1 h1), h2⟩
          · exact .inr ⟨decide_eq_false (fun e => h1 (HFX.out.2.1.mem_iff.2 e)), h2⟩
        clear hf hff hlen hml hK
        rcases ways with ⟨hw, h0⟩ | ⟨hw, rfl⟩
        all_goals
          rw [hw] at cH
          clear hw
          go_region_held3 (fun w' => w'.cell? ⟨ga, 2, none⟩ = some (.int .i64 k.a) ∧ w'.cell? ⟨ga, 3, none⟩ = some (.int .i64 k.b) ∧ w'.cell? ⟨ga, 4, none⟩ = some (.int .i64 k.c) ∧ w'.cell? ⟨gm, 0, none⟩ = some (.int .i64 room) ∧ w'.cell? ⟨gm, 1, none⟩ = some (.slice A6 D1.length c6))
            (first | (refine HK.out _ ?_; repeat (first | assumption | exact Below.refl _ _ | refine Below.drew ?_)))
            (first
              | (go_at_call 15; (with_reducible refine (cH _ (by repeat (first | assumption | exact Below.refl _ _ | refine Below.drew ?_))).mono ?_); rintro e xa ⟨rfl, hxa⟩; have hXA : Below w7.heap.size w7 xa := Below.trans (by repeat (first | assumption | exact Below.refl _ _ | refine Below.drew ?_)) (hxa.mono (by first | exact Nat.le_refl _ | (simp; done) | (have := hXB.size; simp; omega))))
              | (go_at_call 16; (with_reducible refine (cFd _ (by repeat (first | assumption | exact Below.refl _ _ | refine Below.drew ?_))).mono ?_); rintro e xb ⟨rfl, hxb⟩; have hXB : Below w7.heap.size w7 xb := Below.trans (by repeat (first | assumption | exact Below.refl _ _ | refine Below.drew ?_)) (hxb.mono (by first | exact Nat.le_refl _ | (simp; done) | (have := hXA.size; simp; omega))))
              | (go_at_call 17; (with_reducible refine (cLn _ (by repeat (first | assumption | exact Below.refl _ _ | refine Below.drew ?_))).mono ?_); rintro e xc ⟨rfl, hxc⟩; have hXC : Below w7.heap.size w7 xc := Below.trans (by repeat (first | assumption | exact Below.refl _ _ | refine Below.drew ?_)) (hxc.mono (by have := hXA.size; have := hXB.size; first | assumption | (simp; omega))))
              | (go_at_call 14; (with_reducible refine (cSn _ (by repeat (first | assumption | exact Below.refl _ _ | refine Below.drew ?_))).mono ?_); rintro e xd ⟨rfl, hxd⟩; have hXD : Below w7.heap.size w7 xd := Below.trans (by repeat (first | assumption | exact Below.refl _ _ | refine Below.drew ?_)) (hxd.mono (by have := hXC.size; first | assumption | (simp; omega)))))
          all_goals
            go_wp2
            go_roundg g
            case measure => exact Nat.lt_succ_self g
            case rel => exact ⟨i + 1, R1, D1, A6, c6, HIG.out, (by first | exact congrArg _ HWI.out | rw [HWI.out] | rw [Int.natCast_succ]), HG7.out.below (by repeat (first | assumption | exact Below.refl _ _ | refine Below.drew ?_)), HFX⟩
      · rw [h4] at ht4
        have cD := kadd_any HG1.out.mr (Nat.le_trans HG1.out.hm (Nat.le_of_lt lm)) (by have := HF.out.1; have := HI60.out; omega) room k
        have cS := fun {W : World} (h : Sx B d room (m.length : Int) m m m W) => sadd_sx h hml0 k
        have hbo := add_both (room := room) HF.out.2.1 k
        have hnn := addR_nn (room := room) (k := k) HF.out.2.2
        have hle := addD_len (room := room) (L := L) (k := k)
        obtain ⟨R, hR⟩ : ∃ R, R = addR room m k := ⟨_, rfl⟩
        obtain ⟨D, hD⟩ : ∃ D, D = addD room L k := ⟨_, rfl⟩
        rw [← hR] at hbo hnn
        simp only [← hR] at cS
        rw [← hD] at hbo hle cD
        have HFX : Hid (D.1.length ≤ i + 1 ∧ D.1.Perm R.1 ∧ ∀ x ∈ R.1, nnK x) := Lib.hid ⟨by have := HF.out.1; omega, hbo.1, hnn⟩
        have hcode : D.2 = R.2 := hbo.2
        clear hR hD hbo hnn hle hml0 hk0 hk1 hn0 hn1 hin hiz
        obtain ⟨R1, R2⟩ := R
        obtain ⟨D1, D2⟩ := D
        dsimp only at cS cD HFX hcode
        subst hcode
        go_upto_region 25 with (first
          | (go_at_call 10; (with_reducible refine cD.mono ?_); rintro e w6 ⟨v6, rfl, hr6, hb6⟩; dsimp only at hr6; obtain ⟨A6, c6, rfl⟩ := KtD.shape hr6; have hG6 := HG1.out.below hb6; have HG6 := Lib.hid (hG6.setm hr6); have HA6 := Lib.hid (act_far (HA1.out.below hb6) hG6.mx (.int .i64 room) (.slice A6 D1.length c6)); obtain ⟨n0, n1, z0', z1'⟩ := hG6.cm; have l6 := hG6.mx.lt; have y2 := HA6.out.cell 2; have y3 := HA6.out.cell 3; have y4 := HA6.out.cell 4; have cS2 := cS HG6.out.sx; clear hG6 hr6 hb6)
          | (go_at_call 11; (with_reducible refine cS2.mono ?_); rintro e w7 hS; have hEE : e = .returned (.int .i64 D2) := hS.1; have HG7 := Lib.hid (HG6.out.add hS); have HA7 := Lib.hid (hS.2.2.keep HA6.out (by decide) (by decide) (by decide)); subst hEE; clear hS))
        obtain ⟨f, hf, hff⟩ := finds (L := D1) (k := k)
        have hlen : (R1.length : Int) = (D1.length : Int) := by have := HFX.out.2.1.length_eq; omega
        have hml : R1.length ≤ 200 := by have := HFX.out.1; have := HFX.out.2.1.length_eq; have := HI60.out; omega
        have hK : ∀ w', Below w7.heap.size w7 w' → w'.cell? ⟨ga, 2, none⟩ = some (.int .i64 k.a) ∧ w'.cell? ⟨ga, 3, none⟩ = some (.int .i64 k.b) ∧ w'.cell? ⟨ga, 4, none⟩ = some (.int .i64 k.c) ∧ w'.cell? ⟨gm, 0, none⟩ = some (.int .i64 room) ∧ w'.cell? ⟨gm, 1, none⟩ = some (.slice A6 D1.length c6) := fun w' hb => ⟨(HA7.out.below hb).cell 2, (HA7.out.below hb).cell 3, (HA7.out.below hb).cell 4, (HG7.out.below hb).mx.cell 0, (HG7.out.below hb).mx.cell 1⟩
        have cH : ∀ w', Below w7.heap.size w7 w' → Calls Try.prog 15 #[.pointer (some ⟨d, 0, none⟩), .agg #[.int .i64 k.a, .int .i64 k.b, .int .i64 k.c]] w' fun e w2 => e = .returned (.bool (decide (k ∈ R1))) ∧ Below w'.heap.size w' w2 := fun w' hb => shas_sx (HG7.out.below hb).sx (by omega) k
        have cFd : ∀ w', Below w7.heap.size w7 w' → Calls Try.prog 16 #[.agg #[.int .i64 room, .slice A6 D1.length c6], .agg #[.int .i64 k.a, .int .i64 k.b, .int .i64 k.c]] w' fun e w2 => e = .returned (.int .i64 f) ∧ Below w'.heap.size w' w2 := fun w' hb => by
          have := kfind_any (HG7.out.below hb).mr (by omega) room k
          rw [hf] at this
          exact this
        have cLn : ∀ w', Below w7.heap.size w7 w' → Calls Try.prog 17 #[.pointer (some ⟨d, 0, none⟩)] w' fun e w2 => e = .returned (.int .i64 (D1.length : Nat)) ∧ Below w'.heap.size w' w2 := fun w' hb => (slen_sx (HG7.out.below hb).sx).mono fun e w2 ⟨h1, h2⟩ => ⟨by rw [← hlen]; exact h1, h2 ▸ Below.refl _ _⟩
        have cSn : ∀ w', Below w7.heap.size w7 w' → Calls Try.prog 14 #[.pointer (some ⟨d, 0, none⟩), .agg #[.int .i64 room, .slice A6 D1.length c6], .agg #[.int .i64 (-1), .int .i64 (-1), .int .i64 (-1)], .int .i64 1000] w' fun e w2 => e = .returned (.bool true) ∧ Below w'.heap.size w' w2 := fun w' hb => scanned_any (HG7.out.below hb).sx (by omega) (HG7.out.below hb).mr HFX.out.2.1 HFX.out.2.2 ⟨-1, -1, -1⟩ room 1000
        have HK := Lib.hid hK
        obtain ⟨z0, z1, z2, z3, z4⟩ := hK _ (Below.refl _ _)
        have ways : (decide (k ∈ R1) = true ∧ 0 ≤ f) ∨ (decide (k ∈ R1) = false ∧ f = -1) := by
          rcases hff with ⟨h1, h2⟩ | ⟨h1, h2⟩
          · exact .inl ⟨decide_eq_true (HFX.out.2.1.mem_iff.1 h1), h2⟩
          · exact .inr ⟨decide_eq_false (fun e => h1 (HFX.out.2.1.mem_iff.2 e)), h2⟩
        clear hf hff hlen hml hK
        rcases ways with ⟨hw, h0⟩ | ⟨hw, rfl⟩
        all_goals
          rw [hw] at cH
          clear hw
          go_region_held3 (fun w' => w'.cell? ⟨ga, 2, none⟩ = some (.int .i64 k.a) ∧ w'.cell? ⟨ga, 3, none⟩ = some (.int .i64 k.b) ∧ w'.cell? ⟨ga, 4, none⟩ = some (.int .i64 k.c) ∧ w'.cell? ⟨gm, 0, none⟩ = some (.int .i64 room) ∧ w'.cell? ⟨gm, 1, none⟩ = some (.slice A6 D1.length c6))
            (first | (refine HK.out _ ?_; repeat (first | assumption | exact Below.refl _ _ | refine Below.drew ?_)))
            (first
              | (go_at_call 15; (with_reducible refine (cH _ (by repeat (first | assumption | exact Below.refl _ _ | refine Below.drew ?_))).mono ?_); rintro e xa ⟨rfl, hxa⟩; have hXA : Below w7.heap.size w7 xa := Below.trans (by repeat (first | assumption | exact Below.refl _ _ | refine Below.drew ?_)) (hxa.mono (by first | exact Nat.le_refl _ | (simp; done) | (have := hXB.size; simp; omega))))
              | (go_at_call 16; (with_reducible refine (cFd _ (by repeat (first | assumption | exact Below.refl _ _ | refine Below.drew ?_))).mono ?_); rintro e xb ⟨rfl, hxb⟩; have hXB : Below w7.heap.size w7 xb := Below.trans (by repeat (first | assumption | exact Below.refl _ _ | refine Below.drew ?_)) (hxb.mono (by first | exact Nat.le_refl _ | (simp; done) | (have := hXA.size; simp; omega))))
              | (go_at_call 17; (with_reducible refine (cLn _ (by repeat (first | assumption | exact Below.refl _ _ | refine Below.drew ?_))).mono ?_); rintro e xc ⟨rfl, hxc⟩; have hXC : Below w7.heap.size w7 xc := Below.trans (by repeat (first | assumption | exact Below.refl _ _ | refine Below.drew ?_)) (hxc.mono (by have := hXA.size; have := hXB.size; first | assumption | (simp; omega))))
              | (go_at_call 14; (with_reducible refine (cSn _ (by repeat (first | assumption | exact Below.refl _ _ | refine Below.drew ?_))).mono ?_); rintro e xd ⟨rfl, hxd⟩; have hXD : Below w7.heap.size w7 xd := Below.trans (by repeat (first | assumption | exact Below.refl _ _ | refine Below.drew ?_)) (hxd.mono (by have := hXC.size; first | assumption | (simp; omega)))))
          all_goals
            go_wp2
            go_roundg g
            case measure => exact Nat.lt_succ_self g
            case rel => exact ⟨i + 1, R1, D1, A6, c6, HIG.out, (by first | exact congrArg _ HWI.out | rw [HWI.out] | rw [Int.natCast_succ]), HG7.out.below (by repeat (first | assumption | exact Below.refl _ _ | refine Below.drew ?_)), HFX⟩
      · rw [h4] at ht4
        have cD := krem_any HG1.out.mr (Nat.le_trans HG1.out.hm (Nat.le_of_lt lm)) (by have := HF.out.1; have := HI60.out; omega) room k
        have cS := fun {W : World} (h : Sx B d room (m.length : Int) m m m W) => srem_sx h hml0 k
        have hbo := rem_both HF.out.2.1 k
        have hnn := remR_nn (k := k) HF.out.2.2
        have hle := Nat.le_succ_of_le (remD_len (L := L) (k := k))
        obtain ⟨R, hR⟩ : ∃ R, R = remR m k := ⟨_, rfl⟩
        obtain ⟨D, hD⟩ : ∃ D, D = remD L k := ⟨_, rfl⟩
        rw [← hR] at hbo hnn
        simp only [← hR] at cS
        rw [← hD] at hbo hle cD
        have HFX : Hid (D.1.length ≤ i + 1 ∧ D.1.Perm R.1 ∧ ∀ x ∈ R.1, nnK x) := Lib.hid ⟨by have := HF.out.1; omega, hbo.1, hnn⟩
        have hcode : D.2 = R.2 := hbo.2
        clear hR hD hbo hnn hle hml0 hk0 hk1 hn0 hn1 hin hiz
        obtain ⟨R1, R2⟩ := R
        obtain ⟨D1, D2⟩ := D
        dsimp only at cS cD HFX hcode
        subst hcode
        go_upto_region 25 with (first
          | (go_at_call 12; (with_reducible refine cD.mono ?_); rintro e w6 ⟨v6, rfl, hr6, hb6⟩; dsimp only at hr6; obtain ⟨A6, c6, rfl⟩ := KtD.shape hr6; have hG6 := HG1.out.below hb6; have HG6 := Lib.hid (hG6.setm hr6); have HA6 := Lib.hid (act_far (HA1.out.below hb6) hG6.mx (.int .i64 room) (.slice A6 D1.length c6)); obtain ⟨n0, n1, z0', z1'⟩ := hG6.cm; have l6 := hG6.mx.lt; have y2 := HA6.out.cell 2; have y3 := HA6.out.cell 3; have y4 := HA6.out.cell 4; have cS2 := cS HG6.out.sx; clear hG6 hr6 hb6)
          | (go_at_call 13; (with_reducible refine cS2.mono ?_); rintro e w7 hS; have hEE : e = .returned (.int .i64 D2) := hS.1; have HG7 := Lib.hid (HG6.out.add hS); have HA7 := Lib.hid (hS.2.2.keep HA6.out (by decide) (by decide) (by decide)); subst hEE; clear hS))
        obtain ⟨f, hf, hff⟩ := finds (L := D1) (k := k)
        have hlen : (R1.length : Int) = (D1.length : Int) := by have := HFX.out.2.1.length_eq; omega
        have hml : R1.length ≤ 200 := by have := HFX.out.1; have := HFX.out.2.1.length_eq; have := HI60.out; omega
        have hK : ∀ w', Below w7.heap.size w7 w' → w'.cell? ⟨ga, 2, none⟩ = some (.int .i64 k.a) ∧ w'.cell? ⟨ga, 3, none⟩ = some (.int .i64 k.b) ∧ w'.cell? ⟨ga, 4, none⟩ = some (.int .i64 k.c) ∧ w'.cell? ⟨gm, 0, none⟩ = some (.int .i64 room) ∧ w'.cell? ⟨gm, 1, none⟩ = some (.slice A6 D1.length c6) := fun w' hb => ⟨(HA7.out.below hb).cell 2, (HA7.out.below hb).cell 3, (HA7.out.below hb).cell 4, (HG7.out.below hb).mx.cell 0, (HG7.out.below hb).mx.cell 1⟩
        have cH : ∀ w', Below w7.heap.size w7 w' → Calls Try.prog 15 #[.pointer (some ⟨d, 0, none⟩), .agg #[.int .i64 k.a, .int .i64 k.b, .int .i64 k.c]] w' fun e w2 => e = .returned (.bool (decide (k ∈ R1))) ∧ Below w'.heap.size w' w2 := fun w' hb => shas_sx (HG7.out.below hb).sx (by omega) k
        have cFd : ∀ w', Below w7.heap.size w7 w' → Calls Try.prog 16 #[.agg #[.int .i64 room, .slice A6 D1.length c6], .agg #[.int .i64 k.a, .int .i64 k.b, .int .i64 k.c]] w' fun e w2 => e = .returned (.int .i64 f) ∧ Below w'.heap.size w' w2 := fun w' hb => by
          have := kfind_any (HG7.out.below hb).mr (by omega) room k
          rw [hf] at this
          exact this
        have cLn : ∀ w', Below w7.heap.size w7 w' → Calls Try.prog 17 #[.pointer (some ⟨d, 0, none⟩)] w' fun e w2 => e = .returned (.int .i64 (D1.length : Nat)) ∧ Below w'.heap.size w' w2 := fun w' hb => (slen_sx (HG7.out.below hb).sx).mono fun e w2 ⟨h1, h2⟩ => ⟨by rw [← hlen]; exact h1, h2 ▸ Below.refl _ _⟩
        have cSn : ∀ w', Below w7.heap.size w7 w' → Calls Try.prog 14 #[.pointer (some ⟨d, 0, none⟩), .agg #[.int .i64 room, .slice A6 D1.length c6], .agg #[.int .i64 (-1), .int .i64 (-1), .int .i64 (-1)], .int .i64 1000] w' fun e w2 => e = .returned (.bool true) ∧ Below w'.heap.size w' w2 := fun w' hb => scanned_any (HG7.out.below hb).sx (by omega) (HG7.out.below hb).mr HFX.out.2.1 HFX.out.2.2 ⟨-1, -1, -1⟩ room 1000
        have HK := Lib.hid hK
        obtain ⟨z0, z1, z2, z3, z4⟩ := hK _ (Below.refl _ _)
        have ways : (decide (k ∈ R1) = true ∧ 0 ≤ f) ∨ (decide (k ∈ R1) = false ∧ f = -1) := by
          rcases hff with ⟨h1, h2⟩ | ⟨h1, h2⟩
          · exact .inl ⟨decide_eq_true (HFX.out.2.1.mem_iff.1 h1), h2⟩
          · exact .inr ⟨decide_eq_false (fun e => h1 (HFX.out.2.1.mem_iff.2 e)), h2⟩
        clear hf hff hlen hml hK
        rcases ways with ⟨hw, h0⟩ | ⟨hw, rfl⟩
        all_goals
          rw [hw] at cH
          clear hw
          go_region_held3 (fun w' => w'.cell? ⟨ga, 2, none⟩ = some (.int .i64 k.a) ∧ w'.cell? ⟨ga, 3, none⟩ = some (.int .i64 k.b) ∧ w'.cell? ⟨ga, 4, none⟩ = some (.int .i64 k.c) ∧ w'.cell? ⟨gm, 0, none⟩ = some (.int .i64 room) ∧ w'.cell? ⟨gm, 1, none⟩ = some (.slice A6 D1.length c6))
            (first | (refine HK.out _ ?_; repeat (first | assumption | exact Below.refl _ _ | refine Below.drew ?_)))
            (first
              | (go_at_call 15; (with_reducible refine (cH _ (by repeat (first | assumption | exact Below.refl _ _ | refine Below.drew ?_))).mono ?_); rintro e xa ⟨rfl, hxa⟩; have hXA : Below w7.heap.size w7 xa := Below.trans (by repeat (first | assumption | exact Below.refl _ _ | refine Below.drew ?_)) (hxa.mono (by first | exact Nat.le_refl _ | (simp; done) | (have := hXB.size; simp; omega))))
              | (go_at_call 16; (with_reducible refine (cFd _ (by repeat (first | assumption | exact Below.refl _ _ | refine Below.drew ?_))).mono ?_); rintro e xb ⟨rfl, hxb⟩; have hXB : Below w7.heap.size w7 xb := Below.trans (by repeat (first | assumption | exact Below.refl _ _ | refine Below.drew ?_)) (hxb.mono (by first | exact Nat.le_refl _ | (simp; done) | (have := hXA.size; simp; omega))))
              | (go_at_call 17; (with_reducible refine (cLn _ (by repeat (first | assumption | exact Below.refl _ _ | refine Below.drew ?_))).mono ?_); rintro e xc ⟨rfl, hxc⟩; have hXC : Below w7.heap.size w7 xc := Below.trans (by repeat (first | assumption | exact Below.refl _ _ | refine Below.drew ?_)) (hxc.mono (by have := hXA.size; have := hXB.size; first | assumption | (simp; omega))))
              | (go_at_call 14; (with_reducible refine (cSn _ (by repeat (first | assumption | exact Below.refl _ _ | refine Below.drew ?_))).mono ?_); rintro e xd ⟨rfl, hxd⟩; have hXD : Below w7.heap.size w7 xd := Below.trans (by repeat (first | assumption | exact Below.refl _ _ | refine Below.drew ?_)) (hxd.mono (by have := hXC.size; first | assumption | (simp; omega)))))
          all_goals
            go_wp2
            go_roundg g
            case measure => exact Nat.lt_succ_self g
            case rel => exact ⟨i + 1, R1, D1, A6, c6, HIG.out, (by first | exact congrArg _ HWI.out | rw [HWI.out] | rw [Int.natCast_succ]), HG7.out.below (by repeat (first | assumption | exact Below.refl _ _ | refine Below.drew ?_)), HFX⟩
      · rw [h4] at ht4
        have cSa := scanned_any HG1.out.sx (by omega) HG1.out.mr HF.out.2.1 HF.out.2.2 k room kn
        have HFX : Hid (L.length ≤ i + 1 ∧ L.Perm m ∧ ∀ x ∈ m, nnK x) := Lib.hid ⟨Nat.le_succ_of_le HF.out.1, HF.out.2⟩
        clear hml0 hin hiz
        go_upto_region 25 with (go_at_call 14; (with_reducible refine cSa.mono ?_); rintro e w7 ⟨rfl, hb7⟩; have HG7 := Lib.hid (HG1.out.below hb7); have HA7 := Lib.hid (HA1.out.below hb7); clear hb7)
        obtain ⟨f, hf, hff⟩ := finds (L := L) (k := k)
        have hlen : (m.length : Int) = (L.length : Int) := by have := HFX.out.2.1.length_eq; omega
        have hml : m.length ≤ 200 := by have := HFX.out.1; have := HFX.out.2.1.length_eq; have := HI60.out; omega
        have hK : ∀ w', Below w7.heap.size w7 w' → w'.cell? ⟨ga, 2, none⟩ = some (.int .i64 k.a) ∧ w'.cell? ⟨ga, 3, none⟩ = some (.int .i64 k.b) ∧ w'.cell? ⟨ga, 4, none⟩ = some (.int .i64 k.c) ∧ w'.cell? ⟨gm, 0, none⟩ = some (.int .i64 room) ∧ w'.cell? ⟨gm, 1, none⟩ = some (.slice A1 L.length c1) := fun w' hb => ⟨(HA7.out.below hb).cell 2, (HA7.out.below hb).cell 3, (HA7.out.below hb).cell 4, (HG7.out.below hb).mx.cell 0, (HG7.out.below hb).mx.cell 1⟩
        have cH : ∀ w', Below w7.heap.size w7 w' → Calls Try.prog 15 #[.pointer (some ⟨d, 0, none⟩), .agg #[.int .i64 k.a, .int .i64 k.b, .int .i64 k.c]] w' fun e w2 => e = .returned (.bool (decide (k ∈ m))) ∧ Below w'.heap.size w' w2 := fun w' hb => shas_sx (HG7.out.below hb).sx (by omega) k
        have cFd : ∀ w', Below w7.heap.size w7 w' → Calls Try.prog 16 #[.agg #[.int .i64 room, .slice A1 L.length c1], .agg #[.int .i64 k.a, .int .i64 k.b, .int .i64 k.c]] w' fun e w2 => e = .returned (.int .i64 f) ∧ Below w'.heap.size w' w2 := fun w' hb => by
          have := kfind_any (HG7.out.below hb).mr (by omega) room k
          rw [hf] at this
          exact this
        have cLn : ∀ w', Below w7.heap.size w7 w' → Calls Try.prog 17 #[.pointer (some ⟨d, 0, none⟩)] w' fun e w2 => e = .returned (.int .i64 (L.length : Nat)) ∧ Below w'.heap.size w' w2 := fun w' hb => (slen_sx (HG7.out.below hb).sx).mono fun e w2 ⟨h1, h2⟩ => ⟨by rw [← hlen]; exact h1, h2 ▸ Below.refl _ _⟩
        have cSn : ∀ w', Below w7.heap.size w7 w' → Calls Try.prog 14 #[.pointer (some ⟨d, 0, none⟩), .agg #[.int .i64 room, .slice A1 L.length c1], .agg #[.int .i64 (-1), .int .i64 (-1), .int .i64 (-1)], .int .i64 1000] w' fun e w2 => e = .returned (.bool true) ∧ Below w'.heap.size w' w2 := fun w' hb => scanned_any (HG7.out.below hb).sx (by omega) (HG7.out.below hb).mr HFX.out.2.1 HFX.out.2.2 ⟨-1, -1, -1⟩ room 1000
        have HK := Lib.hid hK
        obtain ⟨z0, z1, z2, z3, z4⟩ := hK _ (Below.refl _ _)
        have ways : (decide (k ∈ m) = true ∧ 0 ≤ f) ∨ (decide (k ∈ m) = false ∧ f = -1) := by
          rcases hff with ⟨h1, h2⟩ | ⟨h1, h2⟩
          · exact .inl ⟨decide_eq_true (HFX.out.2.1.mem_iff.1 h1), h2⟩
          · exact .inr ⟨decide_eq_false (fun e => h1 (HFX.out.2.1.mem_iff.2 e)), h2⟩
        clear hf hff hlen hml hK
        rcases ways with ⟨hw, h0⟩ | ⟨hw, rfl⟩
        all_goals
          rw [hw] at cH
          clear hw
          go_region_held3 (fun w' => w'.cell? ⟨ga, 2, none⟩ = some (.int .i64 k.a) ∧ w'.cell? ⟨ga, 3, none⟩ = some (.int .i64 k.b) ∧ w'.cell? ⟨ga, 4, none⟩ = some (.int .i64 k.c) ∧ w'.cell? ⟨gm, 0, none⟩ = some (.int .i64 room) ∧ w'.cell? ⟨gm, 1, none⟩ = some (.slice A1 L.length c1))
            (first | (refine HK.out _ ?_; repeat (first | assumption | exact Below.refl _ _ | refine Below.drew ?_)))
            (first
              | (go_at_call 15; (with_reducible refine (cH _ (by repeat (first | assumption | exact Below.refl _ _ | refine Below.drew ?_))).mono ?_); rintro e xa ⟨rfl, hxa⟩; have hXA : Below w7.heap.size w7 xa := Below.trans (by repeat (first | assumption | exact Below.refl _ _ | refine Below.drew ?_)) (hxa.mono (by first | exact Nat.le_refl _ | (simp; done) | (have := hXB.size; simp; omega))))
              | (go_at_call 16; (with_reducible refine (cFd _ (by repeat (first | assumption | exact Below.refl _ _ | refine Below.drew ?_))).mono ?_); rintro e xb ⟨rfl, hxb⟩; have hXB : Below w7.heap.size w7 xb := Below.trans (by repeat (first | assumption | exact Below.refl _ _ | refine Below.drew ?_)) (hxb.mono (by first | exact Nat.le_refl _ | (simp; done) | (have := hXA.size; simp; omega))))
              | (go_at_call 17; (with_reducible refine (cLn _ (by repeat (first | assumption | exact Below.refl _ _ | refine Below.drew ?_))).mono ?_); rintro e xc ⟨rfl, hxc⟩; have hXC : Below w7.heap.size w7 xc := Below.trans (by repeat (first | assumption | exact Below.refl _ _ | refine Below.drew ?_)) (hxc.mono (by have := hXA.size; have := hXB.size; first | assumption | (simp; omega))))
              | (go_at_call 14; (with_reducible refine (cSn _ (by repeat (first | assumption | exact Below.refl _ _ | refine Below.drew ?_))).mono ?_); rintro e xd ⟨rfl, hxd⟩; have hXD : Below w7.heap.size w7 xd := Below.trans (by repeat (first | assumption | exact Below.refl _ _ | refine Below.drew ?_)) (hxd.mono (by have := hXC.size; first | assumption | (simp; omega)))))
          all_goals
            go_wp2
            go_roundg g
            case measure => exact Nat.lt_succ_self g
            case rel => exact ⟨i + 1, m, L, A1, c1, HIG.out, (by first | exact congrArg _ HWI.out | rw [HWI.out] | rw [Int.natCast_succ]), HG7.out.below (by repeat (first | assumption | exact Below.refl _ _ | refine Below.drew ?_)), HFX⟩
end Go.Proofs.Ytjnhbgpjfkkpeaa
