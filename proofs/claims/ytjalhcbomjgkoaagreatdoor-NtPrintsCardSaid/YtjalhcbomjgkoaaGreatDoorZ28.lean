/-
  MERGED (a claim has at most 60 files): NPrtsW.
-/
import Derived.Test.YtjalhcbomjgkoaaGreatDoorZ25
import Derived.Test.YtjalhcbomjgkoaaGreatDoorZ27
/-
  NtPrints's walk.
-/
namespace Go.Proofs.YtjalhcbomjgkoaaGreatDoor
open Go.RowKit
set_option linter.unusedVariables false
set_option linter.unusedSimpArgs false

theorem oc3 (t0 : TypeId) (v0 : Value) (t1 : TypeId) (v1 : Value) (t2 : TypeId) (v2 : Value) : ∀ u ∈ [Value.iface t0 v0, .iface t1 v1, .iface t2 v2], u.oneCell' = true := fun u hu => by
  simp only [List.mem_cons, List.not_mem_nil, or_false] at hu
  rcases hu with rfl | rfl | rfl <;> rfl
theorem gd_of {a b c : Tm} (h : okL [a, b, c] = true) : goodT a = true ∧ goodT b = true ∧ goodT c = true := by
  have h' : okR a b c 0 = true := h
  unfold okR okP at h'
  simp only [Bool.and_eq_true] at h'
  exact ⟨h'.1.1, h'.2.1.1, h'.2.2.1⟩
theorem fb_news {W : World} {g : Nat} {t : TypeId} {cs : List Value} (h : Fb W g t cs.toArray) : ∀ (j : Nat) (u : Value), cs[j]? = some u → W.cell? ((⟨g, 0, none⟩ : Addr).add j) = some u := fun j u hu => by
  rw [at_add, Nat.zero_add, h.cell j]
  simpa using hu
theorem cells_old (w : World) (cs : List Value) (t : TypeId) (o : Obj) : ∀ (j : Nat) (u : Value), cs[j]? = some u → ((w.alloc (.cells cs.toArray t)).alloc o).cell? ((⟨w.heap.size, 0, none⟩ : Addr).add j) = some u := fb_news ((Fb.new w t cs.toArray).alloc o)
theorem sl_fb {W : World} {g : Nat} {cs : List Value} (h : Fb W g 57 cs.toArray) : SlAt W (some ⟨g, 0, none⟩) 12 [cs] := fun j c hj => by
  have hj0 : j = 0 := by have := (List.getElem?_eq_some_iff.1 hj).1; simp at this; exact this
  subst hj0
  obtain rfl : cs = c := by simpa using hj
  refine ⟨g, 0, rfl, h.lt, fun i v hv => ?_⟩
  rw [show 0 + 0 * 12 + i = i by omega, h.cell i]
  simpa using hv
theorem dtV_sl {B : Nat} {W : World} {A : Option Addr} {n c : Nat} {L : List (List Tm)} (h : DtV B W (.slice A n c) L) (h3 : ∀ ts ∈ L, ts.length = 3) : SlAt W A 12 (L.map c12) := fun j cs hj => by
  rw [List.getElem?_map] at hj
  cases hx : L[j]? with
  | none => rw [hx] at hj; cases hj
  | some ts =>
    rw [hx] at hj
    obtain rfl : c12 ts = cs := by simpa using hj
    obtain ⟨g, cap, hv, hg, hq⟩ := dtV_at h h3 hx
    injection hv with hv1 _ _
    exact ⟨g, 0, hv1, hg, fun i v hi => by rw [Nat.zero_add]; exact hq i v hi⟩
/-- The world in a round: the two boxes. -/
def Jx (W0 : World) (g : Nat) (cs : Array Value) (g2 : Nat) (cs2 : Array Value) (v9 : Value) (L9 : List (List Tm)) (v10 : Value) (L10 : List (List Tm)) (W : World) : Prop :=
  Jw W0 W0.heap.size g cs v9 L9 (.slice none 0 0) [] v10 L10 W ∧ Fb W g2 59 cs2 ∧ v10.ownBlock ≠ some g2
section
variable {W0 : World} {g g2 : Nat} {cs cs2 : Array Value} {v9 v10 : Value} {L9 L10 : List (List Tm)}
theorem Jw.boxed2 {W : World} (h : Jw W0 W0.heap.size g cs v9 L9 (.slice none 0 0) [] v10 L10 W) (cs2 : Array Value) : Jx W0 g cs W.heap.size cs2 v9 L9 v10 L10 (W.alloc (.cells cs2 59)) :=
  ⟨h.alloc _, Fb.new _ _ _, fun e => by have := (World.ownsRow.lt h.row _ e).2; omega⟩
theorem Jx.below {W W' : World} (h : Jx W0 g cs g2 cs2 v9 L9 v10 L10 W) (hb : Below W.heap.size W W') : Jx W0 g cs g2 cs2 v9 L9 v10 L10 W' := ⟨h.1.below hb, h.2.1.below hb, h.2.2⟩
theorem Jx.alloc {W : World} (h : Jx W0 g cs g2 cs2 v9 L9 v10 L10 W) (o : Obj) : Jx W0 g cs g2 cs2 v9 L9 v10 L10 (W.alloc o) := h.below ((Below.refl _ _).alloc (Nat.le_refl _) o)
theorem Jx.drew {W : World} (h : Jx W0 g cs g2 cs2 v9 L9 v10 L10 W) : Jx W0 g cs g2 cs2 v9 L9 v10 L10 W.drew := ⟨h.1.drew, h.2.1, h.2.2⟩
theorem jx_of {W : World} {f : Nat} {args : Array Value} {y : Value} (h : Jx W0 g cs g2 cs2 v9 L9 v10 L10 W) (k : Calls Tryz.prog f args W fun e w' => e = .returned y ∧ Below W.heap.size W w') :
    Calls Tryz.prog f args W fun e w' => e = .returned y ∧ Jx W0 g cs g2 cs2 v9 L9 v10 L10 w' := k.mono fun _ _ ⟨x, z⟩ => ⟨x, h.below z⟩
theorem Jx.c15 {x0 x1 x2 x3 x4 x5 x6 x7 x8 x9 xa xb z0 z1 z2 : Value} {W : World} (h : Jx W0 g #[x0, x1, x2, x3, x4, x5, x6, x7, x8, x9, xa, xb] g2 #[z0, z1, z2] v9 L9 v10 L10 W) :
    W.cell? ⟨g, 0, none⟩ = some x0 ∧ W.cell? ⟨g, 1, none⟩ = some x1 ∧ W.cell? ⟨g, 2, none⟩ = some x2 ∧ W.cell? ⟨g, 3, none⟩ = some x3 ∧ W.cell? ⟨g, 4, none⟩ = some x4 ∧ W.cell? ⟨g, 5, none⟩ = some x5 ∧ W.cell? ⟨g, 6, none⟩ = some x6 ∧ W.cell? ⟨g, 7, none⟩ = some x7 ∧ W.cell? ⟨g, 8, none⟩ = some x8 ∧ W.cell? ⟨g, 9, none⟩ = some x9 ∧ W.cell? ⟨g, 10, none⟩ = some xa ∧ W.cell? ⟨g, 11, none⟩ = some xb ∧ W.cell? ⟨g2, 0, none⟩ = some z0 ∧ W.cell? ⟨g2, 1, none⟩ = some z1 ∧ W.cell? ⟨g2, 2, none⟩ = some z2 := by
  obtain ⟨a0, a1, a2, a3, a4, a5, a6, a7, a8, a9, aa, ab⟩ := Fb.c12 h.1.box
  exact ⟨a0, a1, a2, a3, a4, a5, a6, a7, a8, a9, aa, ab, h.2.1.cell 0, h.2.1.cell 1, h.2.1.cell 2⟩
theorem Jx.app9 {W w5 : World} {n cap g5 : Nat} {news : List Value} {ts : List Tm} (h : Jx W0 g cs g2 cs2 v9 L9 v10 L10 W) (hn : n = L9.length + 1) (hw : news = ts.flatMap c4)
    (hown : w5.ownsRow W0.heap.size 57 12 (.slice (some ⟨g5, 0, none⟩) n cap) n (cellsD L9 ++ news)) (hg : W.grownBy w5 v9.ownBlock) (hloc : v9.ownBlock = some g5 ∨ g5 = W.heap.size) :
    Jx W0 g cs g2 cs2 (.slice (some ⟨g5, 0, none⟩) n cap) (L9 ++ [ts]) v10 L10 w5 :=
  ⟨h.1.app9 hn hw hown hg hloc, (hg.block g2 h.2.1.lt (fun e => row_box h.1.all h.2.1 types_ne.symm e.symm)).trans h.2.1, h.2.2⟩
theorem Jx.temp9 {W w5 : World} {gt : Nat} {ct : Array Value} (h : Jx W0 g cs g2 cs2 v9 L9 v10 L10 W) (ht : Fb W gt 59 ct) (hg : W.grownBy w5 v9.ownBlock) : Fb w5 gt 59 ct :=
  (hg.block gt ht.lt (fun e => row_box h.1.all ht types_ne.symm e.symm)).trans ht
theorem Jx.app10 {W w5 : World} {n cap g5 : Nat} {news : List Value} {ts : List Tm} (h : Jx W0 g cs g2 cs2 v9 L9 v10 L10 W) (hn : n = L10.length + 1) (hw : news = ts.map Tm.val)
    (hown : w5.ownsRow W0.heap.size 59 3 (.slice (some ⟨g5, 0, none⟩) n cap) n (cellsT L10 ++ news)) (hg : W.grownBy w5 v10.ownBlock) (hloc : v10.ownBlock = some g5 ∨ g5 = W.heap.size) :
    Jx W0 g cs g2 cs2 v9 L9 (.slice (some ⟨g5, 0, none⟩) n cap) (L10 ++ [ts]) w5 :=
  ⟨h.1.app10 hn hw hown hg, (hg.block g2 h.2.1.lt (fun e => h.2.2 e.symm)).trans h.2.1, fun e => by
    have e' : some g5 = some g2 := e
    rcases hloc with hl | hl
    · exact h.2.2 (by rw [hl, e'])
    · have := h.2.1.lt
      have := Option.some.inj e'
      omega⟩
end
set_option maxHeartbeats 64000000 in
set_option maxRecDepth 100000 in
theorem ntprints_walk (l : List Dt) (hl : ∀ t ∈ l, t.ok) (A : Option Addr) (cap : Nat) (hc : l.length ≤ cap) (hm : cap ≤ maxLen) (w : World) (hs : SlAt w A 12 (l.map Dt.cells)) (t : TypeId) (fr : Nat × Nat) (htab : w.heap[0]? = some (.cells escCells t fr)) :
    Calls Tryz.prog 4 #[.slice A l.length cap] w fun e w' => e = .returned (.bool true) ∧ Below w.heap.size w w' := by
  have hlt0 : 0 < w.heap.size := (Array.getElem?_eq_some_iff.1 htab).1
  have cA : Calls Tryz.prog 23 #[] w fun e w' => e = .returned (.bool true) ∧ Below w.heap.size w w' := nawake_ok w t fr htab
  have HTAB := Lib.hid htab
  have HLT := Lib.hid hlt0
  have HS := Lib.hid hs
  have HL := Lib.hid hl
  have HC := Lib.hid hc
  have HM := Lib.hid hm
  clear htab hlt0 hs hl hc hm
  cases hf : fewB l with
  | false =>
    have HF := Lib.hid hf
    clear hf
    go_enter Tryz.func4, Tryz.ntmps4
    go_wp2_with (first
      | (go_at_call 23; (with_reducible refine cA.mono ?_); rintro e w1 ⟨rfl, hB1⟩)
      | (go_at_call 24; (with_reducible refine (few_false HF.out HL.out A cap HC.out HM.out w HS.out hB1).mono ?_); rintro e w2 ⟨v2, rfl, hb2⟩; have hB2 := hB1.trans (hb2.mono hB1.size)))
    go_ret
    exact ⟨rfl, hB2⟩
  | true =>
    obtain ⟨iD, hD0, hD1, hD2, hD3⟩ := info_parts rtripInfo
    obtain ⟨iT, hT0, hT1, hT2, hT3⟩ := info_parts tripInfo
    have c1 : ∀ {W : World}, Below w.heap.size w W → Calls Tryz.prog 24 #[.slice A l.length cap] W fun e w' => ∃ A' c', e = .returned (.tuple #[.slice A' (fewL l).length c', .bool true]) ∧ DtV W.heap.size w' (.slice A' (fewL l).length c') (fewL l) ∧ Below W.heap.size W w' := fun {W} hb => few_true hf HL.out A cap HC.out HM.out w HS.out hb
    have hSa := few_sm hf
    have hna := few_len l
    generalize fewL l = La at c1 hSa hna
    have HSA := Lib.hid hSa
    have HNA := Lib.hid hna
    clear hf hSa hna
    go_enter Tryz.func4, Tryz.ntmps4
    go_wp2_with (first
      | (go_at_call 23; (with_reducible refine cA.mono ?_); rintro e w1 ⟨rfl, hB1⟩)
      | (go_at_call 24; (with_reducible refine (c1 hB1).mono ?_); rintro e w3 ⟨A3, c3, rfl, hd2, hb2⟩; have hB3 := hB1.trans (hb2.mono hB1.size)))
    have HDA := Lib.hid hd2
    have HB3 := Lib.hid hB3
    have HST := Lib.hid (j0_start w3)
    clear hd2 hb2 hB1 hB3 c1 cA HS HL HC HM
    go_loopg [5, 6, 25] La.length (fun g s9 s10 s39 wr => LpI w3 w3.heap.size [] La (.slice none 0 0) [] g s9 s10 s39 wr)
    case atStart => exact ⟨0, none, 0, none, 0, by omega, rfl, rfl, rfl, HST.out⟩
    case round =>
      clear HST
      obtain ⟨i, A5, c5, A6, c6, hig, rfl, rfl, rfl, hJ⟩ := hrel
      cases gk with
      | zero =>
        have hin : ¬ (i : Int) < (La.length : Int) := by omega
        have eF : goodL (La.take i) = goodL La := by rw [List.take_of_length_le (by omega)]
        have hgf := goodL_gd (L := La)
        have hsf := goodL_sm HSA.out
        have hnf : (goodL La).length ≤ 10 := Nat.le_trans (goodL_len La) HNA.out
        simp only [List.nil_append, eF] at hJ ⊢
        generalize goodL La = M at hJ hgf hsf hnf ⊢
        have hF : ∀ ts ∈ M, Sm ts ∧ Gd ts := fun ts h => ⟨hsf ts h, hgf ts h⟩
        have htW : ∀ {W : World}, Below w3.heap.size w3 W → W.heap[0]? = some (.cells escCells t fr) := fun {W} hb => tab_below (tab_below HTAB.out HB3.out HLT.out) hb (Nat.lt_of_lt_of_le HLT.out HB3.out.size)
        have CP : ∀ {W : World}, J0 w3 w3.heap.size (.slice A5 M.length c5) M (.slice none 0 0) [] (.slice A6 M.length c6) M W → Calls Tryz.prog 32 #[.slice A6 M.length c6] W fun e w' => e = .returned (.string (textOf (lnsS M))) ∧ J0 w3 w3.heap.size (.slice A5 M.length c5) M (.slice none 0 0) [] (.slice A6 M.length c6) M w' :=
          fun {W} h => j0_of h (nprint_any M (fun ts ht => ⟨(hF ts ht).2, (hF ts ht).1.few⟩) (by omega) W h.row t fr (htW h.b))
        have CPa : ∀ {W : World}, J0 w3 w3.heap.size (.slice A5 M.length c5) M (.slice none 0 0) [] (.slice A6 M.length c6) M W → Calls Tryz.prog 33 #[.string (textOf (lnsS M))] W fun e w' => ∃ A c, e = .returned (.tuple #[.slice A M.length c, .int .i64 0, .int .i64 0]) ∧ TrsV W.heap.size w' (.slice A M.length c) M ∧ J0 w3 w3.heap.size (.slice A5 M.length c5) M (.slice none 0 0) [] (.slice A6 M.length c6) M w' :=
          fun {W} h => (parse_lines hF (by omega) rfl W t fr (htW h.b)).mono fun e w' ⟨A, c, e1, h1, h2⟩ => ⟨A, c, e1, h1, h.below h2⟩
        have CQ : ∀ {A : Option Addr} {c B : Nat} {W : World}, TrsV B W (.slice A M.length c) M → J0 w3 w3.heap.size (.slice A5 M.length c5) M (.slice none 0 0) [] (.slice A6 M.length c6) M W → Calls Tryz.prog 31 #[.slice A5 M.length c5] W fun e w' => e = .returned (.string (textOf (lnsS M))) ∧ TrsV B w' (.slice A M.length c) M ∧ J0 w3 w3.heap.size (.slice A5 M.length c5) M (.slice none 0 0) [] (.slice A6 M.length c6) M w' :=
          fun {A c B W} h1 h => (qprint_any M hF (by omega) A5 c5 W (dtV_sl h.all fun ts ht => (hsf ts ht).len)).mono fun e w' ⟨e1, h2⟩ => ⟨e1, h1.below h2, h.below h2⟩
        have CI : ∀ {A : Option Addr} {c B : Nat} {W : World}, TrsV B W (.slice A M.length c) M → J0 w3 w3.heap.size (.slice A5 M.length c5) M (.slice none 0 0) [] (.slice A6 M.length c6) M W → Calls Tryz.prog 34 #[.slice A M.length c, .slice A5 M.length c5] W fun e w' => e = .returned (.bool true) ∧ Below w3.heap.size w3 w' :=
          fun {A c B W} h1 h => (nis_same M (fun ts ht => by
            obtain ⟨a, b, d, rfl, hk⟩ := hsf ts ht
            exact ⟨rfl, fun u hu => (hk u hu).1⟩) (by omega) W h1 h.all).mono fun e w' ⟨e1, h2⟩ => ⟨e1, h.b.trans (h2.mono h.b.size)⟩
        generalize textOf (lnsS M) = z at CP CPa CQ
        have hzz : (z.toList == z.toList) = true := by simp
        clear hig eF hgf hsf hnf hF htW
        go_wp2_with (first
          | (go_at_call 32; (with_reducible refine (CP hJ).mono ?_); rintro e w5 ⟨rfl, hJ5⟩)
          | (go_at_call 33; (with_reducible refine (CPa hJ5).mono ?_); rintro e w7 ⟨A8, c8, rfl, hT7, hJ7⟩)
          | (go_at_call 31; (with_reducible refine (CQ hT7 hJ7).mono ?_); rintro e w8 ⟨rfl, hT8, hJ8⟩)
          | (go_at_call 34; (with_reducible refine (CI hT8 hJ8).mono ?_); rintro e w9 ⟨rfl, hB9⟩))
        go_ret
        exact ⟨rfl, HB3.out.trans (hB9.mono HB3.out.size)⟩
      | succ g =>
        have hin : (i : Int) < (La.length : Int) := by omega
        have hi0 : (0 : Int) ≤ (i : Int) := by omega
        obtain ⟨ts, hts⟩ : ∃ ts, La[i]? = some ts := ⟨_, List.getElem?_eq_getElem (by omega)⟩
        have hsm := HSA.out ts (List.mem_of_getElem? hts)
        have h10 := HNA.out
        obtain ⟨gb, cb, eb, hgb, hq⟩ := dtV_at HDA.out (fun ts h => (HSA.out ts h).len) hts
        injection eb with eb1 eb2 eb3
        subst eb1 eb3
        obtain ⟨L9, hL9⟩ : ∃ L, L = [] ++ goodL (La.take i) := ⟨_, rfl⟩
        obtain ⟨L10, hL10⟩ : ∃ L, L = goodL (La.take i) := ⟨_, rfl⟩
        have n10 : L10.length ≤ 10 := by rw [hL10]; have := goodL_len (La.take i); rw [List.length_take] at this; omega
        have n9 : L9.length ≤ 20 := by rw [hL9, List.length_append, ← hL10]; simp only [List.length_nil]; omega
        have hbad := fun (hk : okL ts = false) (s39 : Value) (W : World) (hs : s39 = .int .i64 ((i + 1 : Nat) : Int)) => lp_bad (W0 := w3) (N1 := w3.heap.size) (P := []) (vf := (.slice none 0 0)) (F := []) (A := A5) (A' := A6) (c := c5) (c' := c6) (W := W) hig hts hk hs
        have hgood := fun (hk : okL ts = true) (A A' : Option Addr) (c c' : Nat) (s39 : Value) (W : World) (hs : s39 = .int .i64 ((i + 1 : Nat) : Int)) => lp_good (W0 := w3) (N1 := w3.heap.size) (P := []) (vf := (.slice none 0 0)) (F := []) (A := A) (A' := A') (c := c) (c' := c') (W := W) hig hts hk hs
        rw [← hL9, ← hL10] at hbad hgood hJ
        rw [← hL9, ← hL10]
        have hi9 : i < 10 := by omega
        obtain ⟨x0, x1, x2, rfl, hx⟩ := hsm
        have f0 := hx x0 (by simp)
        have f1 := hx x1 (by simp)
        have f2 := hx x2 (by simp)
        have w0 : x0.few := ⟨by omega, by omega, by omega⟩
        have w1 : x1.few := ⟨by omega, by omega, by omega⟩
        have w2 : x2.few := ⟨by omega, by omega, by omega⟩
        have cG := qgood_any x0 x1 x2 w0 w1 w2
        have cH := ngood_any x0 x1 x2 w0 w1 w2 f0.1 f1.1 f2.1
        have cR := nreal_any x0 x1 x2 f0.1 f1.1 f2.1
        have cT := fun (hk : okL [x0, x1, x2] = true) (W : World) (h : W.heap[0]? = some (.cells escCells t fr)) => ntext_any x2 (gd_of hk).2.2 w2 W t fr h
        have cX := fun (hk : okL [x0, x1, x2] = true) => qtext_any x2 (gd_of hk).2.2 w2
        have cTT := fun (hk : okL [x0, x1, x2] = true) (W : World) (h : W.heap[0]? = some (.cells escCells t fr)) => nttext_any x0 x1 x2 (gd_of hk).1 (gd_of hk).2.1 (gd_of hk).2.2 w0 w1 w2 W t fr h
        have cQ := fun (hk : okL [x0, x1, x2] = true) (A : Option Addr) (W : World) (hs : SlAt W A 12 [[x0, x1, x2].flatMap c4]) => qprint_any [[x0, x1, x2]] (fun ts ht => by
            obtain rfl : ts = [x0, x1, x2] := by simpa using ht
            exact ⟨⟨x0, x1, x2, rfl, hx⟩, ok_gd hk⟩) (by simp) A 1 W hs
        have hPs := fun (hk : okL [x0, x1, x2] = true) => ln_size ⟨x0, x1, x2, rfl, hx⟩ (ok_gd hk)
        have hyP : textOf (lnT x0 x1 x2) ++ ⟨#[10]⟩ = textOf (lnS [x0, x1, x2]) := by rw [lnS_T, textOf_app]; rfl
        have e1P : lnsS [[x0, x1, x2]] = lnS [x0, x1, x2] := by rw [lnsS_cons]; simp [lnsS]
        rw [e1P] at cQ
        obtain ⟨t0, v0, e0⟩ := iface_of f0.1
        obtain ⟨t1, v1, e1⟩ := iface_of f1.1
        obtain ⟨t2, v2, e2⟩ := iface_of f2.1
        have hnT : [.iface t0 v0, .iface t1 v1, .iface t2 v2] = [x0, x1, x2].map Tm.val := by rw [← e0, ← e1, ← e2]; rfl
        rw [e0, e1, e2] at cR cH cTT
        rw [e2] at cT
        have hnD : [.int .i64 x0.kind, .string x0.ta, .string x0.tb, .string x0.tc, .int .i64 x1.kind, .string x1.ta, .string x1.tb, .string x1.tc, .int .i64 x2.kind, .string x2.ta, .string x2.tb, .string x2.tc] = [x0, x1, x2].flatMap c4 := rfl
        rw [← hnD] at cQ
        unfold T12 at cG cR
        unfold T4 at cX
        obtain ⟨k0, yk0⟩ : ∃ y, y = x0.kind := ⟨_, rfl⟩
        obtain ⟨a0, ya0⟩ : ∃ y, y = x0.ta := ⟨_, rfl⟩
        obtain ⟨b0, yb0⟩ : ∃ y, y = x0.tb := ⟨_, rfl⟩
        obtain ⟨d0, yd0⟩ : ∃ y, y = x0.tc := ⟨_, rfl⟩
        rw [← yk0, ← ya0, ← yb0, ← yd0] at cG cR hnD cQ
        obtain ⟨k1, yk1⟩ : ∃ y, y = x1.kind := ⟨_, rfl⟩
        obtain ⟨a1, ya1⟩ : ∃ y, y = x1.ta := ⟨_, rfl⟩
        obtain ⟨b1, yb1⟩ : ∃ y, y = x1.tb := ⟨_, rfl⟩
        obtain ⟨d1, yd1⟩ : ∃ y, y = x1.tc := ⟨_, rfl⟩
        rw [← yk1, ← ya1, ← yb1, ← yd1] at cG cR hnD cQ
        obtain ⟨k2, yk2⟩ : ∃ y, y = x2.kind := ⟨_, rfl⟩
        obtain ⟨a2, ya2⟩ : ∃ y, y = x2.ta := ⟨_, rfl⟩
        obtain ⟨b2, yb2⟩ : ∃ y, y = x2.tb := ⟨_, rfl⟩
        obtain ⟨d2, yd2⟩ : ∃ y, y = x2.tc := ⟨_, rfl⟩
        rw [← yk2, ← ya2, ← yb2, ← yd2] at cG cR hnD cQ cX
        have q0 : wr.cell? ⟨gb, i * 12, none⟩ = some (.int .i64 k0) := by rw [yk0]; exact (hJ.b.cell (p := ⟨gb, i * 12, none⟩) hgb).trans (hq 0 _ rfl)
        have q1 : wr.cell? ⟨gb, i * 12 + 1, none⟩ = some (.string a0) := by rw [ya0]; exact (hJ.b.cell (p := ⟨gb, i * 12 + 1, none⟩) hgb).trans (hq 1 _ rfl)
        have q2 : wr.cell? ⟨gb, i * 12 + 2, none⟩ = some (.string b0) := by rw [yb0]; exact (hJ.b.cell (p := ⟨gb, i * 12 + 2, none⟩) hgb).trans (hq 2 _ rfl)
        have q3 : wr.cell? ⟨gb, i * 12 + 3, none⟩ = some (.string d0) := by rw [yd0]; exact (hJ.b.cell (p := ⟨gb, i * 12 + 3, none⟩) hgb).trans (hq 3 _ rfl)
        have q4 : wr.cell? ⟨gb, i * 12 + 4, none⟩ = some (.int .i64 k1) := by rw [yk1]; exact (hJ.b.cell (p := ⟨gb, i * 12 + 4, none⟩) hgb).trans (hq 4 _ rfl)
        have q5 : wr.cell? ⟨gb, i * 12 + 5, none⟩ = some (.string a1) := by rw [ya1]; exact (hJ.b.cell (p := ⟨gb, i * 12 + 5, none⟩) hgb).trans (hq 5 _ rfl)
        have q6 : wr.cell? ⟨gb, i * 12 + 6, none⟩ = some (.string b1) := by rw [yb1]; exact (hJ.b.cell (p := ⟨gb, i * 12 + 6, none⟩) hgb).trans (hq 6 _ rfl)
        have q7 : wr.cell? ⟨gb, i * 12 + 7, none⟩ = some (.string d1) := by rw [yd1]; exact (hJ.b.cell (p := ⟨gb, i * 12 + 7, none⟩) hgb).trans (hq 7 _ rfl)
        have q8 : wr.cell? ⟨gb, i * 12 + 8, none⟩ = some (.int .i64 k2) := by rw [yk2]; exact (hJ.b.cell (p := ⟨gb, i * 12 + 8, none⟩) hgb).trans (hq 8 _ rfl)
        have q9 : wr.cell? ⟨gb, i * 12 + 9, none⟩ = some (.string a2) := by rw [ya2]; exact (hJ.b.cell (p := ⟨gb, i * 12 + 9, none⟩) hgb).trans (hq 9 _ rfl)
        have q10 : wr.cell? ⟨gb, i * 12 + 10, none⟩ = some (.string b2) := by rw [yb2]; exact (hJ.b.cell (p := ⟨gb, i * 12 + 10, none⟩) hgb).trans (hq 10 _ rfl)
        have q11 : wr.cell? ⟨gb, i * 12 + 11, none⟩ = some (.string d2) := by rw [yd2]; exact (hJ.b.cell (p := ⟨gb, i * 12 + 11, none⟩) hgb).trans (hq 11 _ rfl)
        have htW : ∀ {W : World}, Below w3.heap.size w3 W → W.heap[0]? = some (.cells escCells t fr) := fun {W} hb => tab_below (tab_below HTAB.out HB3.out HLT.out) hb (Nat.lt_of_lt_of_le HLT.out HB3.out.size)
        have hJ0 := hJ.boxed #[.int .i64 k0, .string a0, .string b0, .string d0, .int .i64 k1, .string a1, .string b1, .string d1, .int .i64 k2, .string a2, .string b2, .string d2]
        have CR : Calls Tryz.prog 25 #[.agg #[.int .i64 k0, .string a0, .string b0, .string d0, .int .i64 k1, .string a1, .string b1, .string d1, .int .i64 k2, .string a2, .string b2, .string d2]] (wr.alloc (.cells #[.int .i64 k0, .string a0, .string b0, .string d0, .int .i64 k1, .string a1, .string b1, .string d1, .int .i64 k2, .string a2, .string b2, .string d2] 57)) fun e w' => e = .returned (.agg #[.iface t0 v0, .iface t1 v1, .iface t2 v2]) ∧ Jw w3 w3.heap.size wr.heap.size #[.int .i64 k0, .string a0, .string b0, .string d0, .int .i64 k1, .string a1, .string b1, .string d1, .int .i64 k2, .string a2, .string b2, .string d2] (.slice A5 L9.length c5) L9 (.slice none 0 0) [] (.slice A6 L10.length c6) L10 w' := jw_of hJ0 (cR _)
        have HND := Lib.hid hnD
        have HNT := Lib.hid hnT
        have HN9 := Lib.hid n9
        have HN10 := Lib.hid n10
        have HI9 := Lib.hid hi9
        cases hk : okR x0 x1 x2 0 with
        | false =>
          have CG : ∀ {g13 g15 : Nat} {v9 v10 : Value} {M9 M10 : List (List Tm)} {W : World}, Jx w3 g13 #[.int .i64 k0, .string a0, .string b0, .string d0, .int .i64 k1, .string a1, .string b1, .string d1, .int .i64 k2, .string a2, .string b2, .string d2] g15 #[.iface t0 v0, .iface t1 v1, .iface t2 v2] v9 M9 v10 M10 W → Calls Tryz.prog 27 #[.agg #[.int .i64 k0, .string a0, .string b0, .string d0, .int .i64 k1, .string a1, .string b1, .string d1, .int .i64 k2, .string a2, .string b2, .string d2]] W fun e w' => e = .returned (.bool false) ∧ Jx w3 g13 #[.int .i64 k0, .string a0, .string b0, .string d0, .int .i64 k1, .string a1, .string b1, .string d1, .int .i64 k2, .string a2, .string b2, .string d2] g15 #[.iface t0 v0, .iface t1 v1, .iface t2 v2] v9 M9 v10 M10 w' := fun h => by
            have := jx_of h (cG _)
            rw [hk] at this
            exact this
          have CH : ∀ {g13 g15 : Nat} {v9 v10 : Value} {M9 M10 : List (List Tm)} {W : World}, Jx w3 g13 #[.int .i64 k0, .string a0, .string b0, .string d0, .int .i64 k1, .string a1, .string b1, .string d1, .int .i64 k2, .string a2, .string b2, .string d2] g15 #[.iface t0 v0, .iface t1 v1, .iface t2 v2] v9 M9 v10 M10 W → Calls Tryz.prog 26 #[.agg #[.iface t0 v0, .iface t1 v1, .iface t2 v2]] W fun e w' => e = .returned (.bool false) ∧ Jx w3 g13 #[.int .i64 k0, .string a0, .string b0, .string d0, .int .i64 k1, .string a1, .string b1, .string d1, .int .i64 k2, .string a2, .string b2, .string d2] g15 #[.iface t0 v0, .iface t1 v1, .iface t2 v2] v9 M9 v10 M10 w' := fun h => by
            have := jx_of h (cH _)
            rw [hk] at this
            exact this
          have HB := Lib.hid (hbad hk)
          clear HND HNT hk hbad hgood hnD hnT cG cH cR cT cX cTT cQ hPs hyP e1P hJ hq hgb hts hig h10 hx f0 f1 f2 w0 w1 w2 e0 e1 e2 hL9 hL10 n9 n10 hi9 htW yk0 ya0 yb0 yd0 yk1 ya1 yb1 yd1 yk2 ya2 yb2 yd2
          go_wp2_with (go_at_call 25; (with_reducible refine CR.mono ?_); rintro e w5 ⟨rfl, hJ1⟩)
          have hX1 := hJ1.boxed2 #[.iface t0 v0, .iface t1 v1, .iface t2 v2]
          clear hJ0 hJ1 CR q0 q1 q2 q3 q4 q5 q6 q7 q8 q9 q10 q11
          generalize wr.heap.size = g13 at hX1 ⊢
          generalize w5.heap.size = g15 at hX1 ⊢
          go_region_held3 (fun W => W.cell? ⟨g13, 0, none⟩ = some (.int .i64 k0) ∧ W.cell? ⟨g13, 1, none⟩ = some (.string a0) ∧ W.cell? ⟨g13, 2, none⟩ = some (.string b0) ∧ W.cell? ⟨g13, 3, none⟩ = some (.string d0) ∧ W.cell? ⟨g13, 4, none⟩ = some (.int .i64 k1) ∧ W.cell? ⟨g13, 5, none⟩ = some (.string a1) ∧ W.cell? ⟨g13, 6, none⟩ = some (.string b1) ∧ W.cell? ⟨g13, 7, none⟩ = some (.string d1) ∧ W.cell? ⟨g13, 8, none⟩ = some (.int .i64 k2) ∧ W.cell? ⟨g13, 9, none⟩ = some (.string a2) ∧ W.cell? ⟨g13, 10, none⟩ = some (.string b2) ∧ W.cell? ⟨g13, 11, none⟩ = some (.string d2) ∧ W.cell? ⟨g15, 0, none⟩ = some (.iface t0 v0) ∧ W.cell? ⟨g15, 1, none⟩ = some (.iface t1 v1) ∧ W.cell? ⟨g15, 2, none⟩ = some (.iface t2 v2))
            (first | exact Jx.c15 (by assumption) | exact Jx.c15 (Jx.drew (by assumption)) | exact Jx.c15 (Jx.alloc (by assumption) _) | exact Jx.c15 (Jx.alloc (Jx.drew (by assumption)) _) | exact Jx.c15 (Jx.alloc (Jx.alloc (by assumption) _) _) | exact Jx.c15 (Jx.alloc (Jx.alloc (Jx.drew (by assumption)) _) _))
            (first
              | (go_at_call 26; (with_reducible refine (CH (by first | assumption | exact Jx.drew (by assumption))).mono ?_); rintro e wa ⟨rfl, hXa⟩)
              | (go_at_call 27; (with_reducible refine (CG (by first | assumption | exact Jx.drew (by assumption))).mono ?_); rintro e wb ⟨rfl, hXb⟩))
          all_goals
            obtain ⟨z0, z1, z2, z3, z4, z5, z6, z7, z8, z9, za, zb, zc, zd, ze⟩ := Jx.c15 hXb
            go_wp2_with (go_at_call 26; (with_reducible refine (CH hXb).mono ?_); rintro e wc ⟨rfl, hXc⟩)
            go_roundg g
            case measure => exact Nat.lt_succ_self g
            case rel => exact HB.out _ _ (by have := HI9.out; first | rfl | (rw [IntWalk.wrap64_in _ ⟨by omega, by omega⟩, Int.natCast_succ])) hXc.1.j0
        | true =>
          have CG : ∀ {g13 g15 : Nat} {v9 v10 : Value} {M9 M10 : List (List Tm)} {W : World}, Jx w3 g13 #[.int .i64 k0, .string a0, .string b0, .string d0, .int .i64 k1, .string a1, .string b1, .string d1, .int .i64 k2, .string a2, .string b2, .string d2] g15 #[.iface t0 v0, .iface t1 v1, .iface t2 v2] v9 M9 v10 M10 W → Calls Tryz.prog 27 #[.agg #[.int .i64 k0, .string a0, .string b0, .string d0, .int .i64 k1, .string a1, .string b1, .string d1, .int .i64 k2, .string a2, .string b2, .string d2]] W fun e w' => e = .returned (.bool true) ∧ Jx w3 g13 #[.int .i64 k0, .string a0, .string b0, .string d0, .int .i64 k1, .string a1, .string b1, .string d1, .int .i64 k2, .string a2, .string b2, .string d2] g15 #[.iface t0 v0, .iface t1 v1, .iface t2 v2] v9 M9 v10 M10 w' := fun h => by
            have := jx_of h (cG _)
            rw [hk] at this
            exact this
          have CH : ∀ {g13 g15 : Nat} {v9 v10 : Value} {M9 M10 : List (List Tm)} {W : World}, Jx w3 g13 #[.int .i64 k0, .string a0, .string b0, .string d0, .int .i64 k1, .string a1, .string b1, .string d1, .int .i64 k2, .string a2, .string b2, .string d2] g15 #[.iface t0 v0, .iface t1 v1, .iface t2 v2] v9 M9 v10 M10 W → Calls Tryz.prog 26 #[.agg #[.iface t0 v0, .iface t1 v1, .iface t2 v2]] W fun e w' => e = .returned (.bool true) ∧ Jx w3 g13 #[.int .i64 k0, .string a0, .string b0, .string d0, .int .i64 k1, .string a1, .string b1, .string d1, .int .i64 k2, .string a2, .string b2, .string d2] g15 #[.iface t0 v0, .iface t1 v1, .iface t2 v2] v9 M9 v10 M10 w' := fun h => by
            have := jx_of h (cH _)
            rw [hk] at this
            exact this
          have HG := Lib.hid (hgood hk)
          have hps := hPs hk
          have CT0 := cT hk
          have CX0 := cX hk
          have CTT0 := cTT hk
          have CQ0 := cQ hk
          generalize textOf (lnS [x0, x1, x2]) = Pt at hps hyP CQ0
          generalize textOf (lnT x0 x1 x2) = Tt at hyP CTT0
          generalize textOf (tS x2) = zt at CT0 CX0
          have hTs : Tt.size ≤ 2820 := by rw [← hyP, ByteArray.size_append] at hps; omega
          have B1 : ∀ W, (Op.stringOp .add Tt ⟨#[10]⟩).run Tryz.prog W = .ok (.string Pt) W := fun W => by rw [← hyP]; exact add_any _ _ (by show Tt.size + 1 ≤ _; omega) W
          have CT : ∀ {g13 g15 : Nat} {v9 v10 : Value} {M9 M10 : List (List Tm)} {W : World}, Jx w3 g13 #[.int .i64 k0, .string a0, .string b0, .string d0, .int .i64 k1, .string a1, .string b1, .string d1, .int .i64 k2, .string a2, .string b2, .string d2] g15 #[.iface t0 v0, .iface t1 v1, .iface t2 v2] v9 M9 v10 M10 W → Calls Tryz.prog 28 #[.iface t2 v2] W fun e w' => e = .returned (.string zt) ∧ Jx w3 g13 #[.int .i64 k0, .string a0, .string b0, .string d0, .int .i64 k1, .string a1, .string b1, .string d1, .int .i64 k2, .string a2, .string b2, .string d2] g15 #[.iface t0 v0, .iface t1 v1, .iface t2 v2] v9 M9 v10 M10 w' := fun h => jx_of h (CT0 _ (htW h.1.b))
          have CX : ∀ {g13 g15 : Nat} {v9 v10 : Value} {M9 M10 : List (List Tm)} {W : World}, Jx w3 g13 #[.int .i64 k0, .string a0, .string b0, .string d0, .int .i64 k1, .string a1, .string b1, .string d1, .int .i64 k2, .string a2, .string b2, .string d2] g15 #[.iface t0 v0, .iface t1 v1, .iface t2 v2] v9 M9 v10 M10 W → Calls Tryz.prog 29 #[F4 k2 a2 b2 d2] W fun e w' => e = .returned (.string zt) ∧ Jx w3 g13 #[.int .i64 k0, .string a0, .string b0, .string d0, .int .i64 k1, .string a1, .string b1, .string d1, .int .i64 k2, .string a2, .string b2, .string d2] g15 #[.iface t0 v0, .iface t1 v1, .iface t2 v2] v9 M9 v10 M10 w' := fun h => jx_of h (CX0 _)
          have CTT : ∀ {g13 g15 : Nat} {v9 v10 : Value} {M9 M10 : List (List Tm)} {W : World}, Jx w3 g13 #[.int .i64 k0, .string a0, .string b0, .string d0, .int .i64 k1, .string a1, .string b1, .string d1, .int .i64 k2, .string a2, .string b2, .string d2] g15 #[.iface t0 v0, .iface t1 v1, .iface t2 v2] v9 M9 v10 M10 W → Calls Tryz.prog 30 #[.agg #[.iface t0 v0, .iface t1 v1, .iface t2 v2]] W fun e w' => e = .returned (.string Tt) ∧ Jx w3 g13 #[.int .i64 k0, .string a0, .string b0, .string d0, .int .i64 k1, .string a1, .string b1, .string d1, .int .i64 k2, .string a2, .string b2, .string d2] g15 #[.iface t0 v0, .iface t1 v1, .iface t2 v2] v9 M9 v10 M10 w' := fun h => jx_of h (CTT0 _ (htW h.1.b))
          have CTS : ∀ {g13 g15 : Nat} {v9 v10 : Value} {M9 M10 : List (List Tm)} {W : World}, Jx w3 g13 #[.int .i64 k0, .string a0, .string b0, .string d0, .int .i64 k1, .string a1, .string b1, .string d1, .int .i64 k2, .string a2, .string b2, .string d2] g15 #[.iface t0 v0, .iface t1 v1, .iface t2 v2] v9 M9 v10 M10 W → Calls Tryz.prog 30 #[.agg #[.iface t0 v0, .iface t1 v1, .iface t2 v2]] (W.alloc (.cells #[.int .i64 k0, .string a0, .string b0, .string d0, .int .i64 k1, .string a1, .string b1, .string d1, .int .i64 k2, .string a2, .string b2, .string d2] 57)) fun e w' => e = .returned (.string Tt) ∧ Jx w3 g13 #[.int .i64 k0, .string a0, .string b0, .string d0, .int .i64 k1, .string a1, .string b1, .string d1, .int .i64 k2, .string a2, .string b2, .string d2] g15 #[.iface t0 v0, .iface t1 v1, .iface t2 v2] v9 M9 v10 M10 w' ∧ Fb w' W.heap.size 57 #[.int .i64 k0, .string a0, .string b0, .string d0, .int .i64 k1, .string a1, .string b1, .string d1, .int .i64 k2, .string a2, .string b2, .string d2] := fun {g13 g15 v9 v10 M9 M10 W} h =>
            (CTT0 (W.alloc (.cells #[.int .i64 k0, .string a0, .string b0, .string d0, .int .i64 k1, .string a1, .string b1, .string d1, .int .i64 k2, .string a2, .string b2, .string d2] 57)) (htW (h.alloc _).1.b)).mono fun _ _ ⟨x, y⟩ => ⟨x, (h.alloc _).below y, (Fb.new _ _ _).below y⟩
          have CQ : ∀ {g13 g15 : Nat} {v9 v10 : Value} {M9 M10 : List (List Tm)} {W : World}, Jx w3 g13 #[.int .i64 k0, .string a0, .string b0, .string d0, .int .i64 k1, .string a1, .string b1, .string d1, .int .i64 k2, .string a2, .string b2, .string d2] g15 #[.iface t0 v0, .iface t1 v1, .iface t2 v2] v9 M9 v10 M10 W → Calls Tryz.prog 31 #[.slice (some ⟨W.heap.size, 0, none⟩) 1 1] (W.alloc (.cells #[.int .i64 k0, .string a0, .string b0, .string d0, .int .i64 k1, .string a1, .string b1, .string d1, .int .i64 k2, .string a2, .string b2, .string d2] 57)) fun e w' => e = .returned (.string Pt) ∧ Jx w3 g13 #[.int .i64 k0, .string a0, .string b0, .string d0, .int .i64 k1, .string a1, .string b1, .string d1, .int .i64 k2, .string a2, .string b2, .string d2] g15 #[.iface t0 v0, .iface t1 v1, .iface t2 v2] v9 M9 v10 M10 w' := fun h =>
            jx_of (h.alloc _) (CQ0 _ _ (sl_fb (Fb.new _ _ _)))
          have CQS : ∀ {g13 g15 gq : Nat} {v9 v10 : Value} {M9 M10 : List (List Tm)} {W : World}, Jx w3 g13 #[.int .i64 k0, .string a0, .string b0, .string d0, .int .i64 k1, .string a1, .string b1, .string d1, .int .i64 k2, .string a2, .string b2, .string d2] g15 #[.iface t0 v0, .iface t1 v1, .iface t2 v2] v9 M9 v10 M10 W → Fb W gq 57 #[.int .i64 k0, .string a0, .string b0, .string d0, .int .i64 k1, .string a1, .string b1, .string d1, .int .i64 k2, .string a2, .string b2, .string d2] → Calls Tryz.prog 31 #[.slice (some ⟨gq, 0, none⟩) 1 1] W fun e w' => e = .returned (.string Pt) ∧ Jx w3 g13 #[.int .i64 k0, .string a0, .string b0, .string d0, .int .i64 k1, .string a1, .string b1, .string d1, .int .i64 k2, .string a2, .string b2, .string d2] g15 #[.iface t0 v0, .iface t1 v1, .iface t2 v2] v9 M9 v10 M10 w' := fun h hf =>
            jx_of h (CQ0 _ _ (sl_fb hf))
          have hzz : (zt.toList == zt.toList) = true := by simp
          have hpp : (Pt.toList == Pt.toList) = true := by simp
          clear CT0 CX0 CTT0 CQ0 hps hTs hk hbad hgood hnD hnT cG cH cR cT cX cTT cQ hPs hyP e1P hJ hq hgb hts hig h10 hx f0 f1 f2 w0 w1 w2 e0 e1 e2 hL9 hL10 n9 n10 hi9 htW yk0 ya0 yb0 yd0 yk1 ya1 yb1 yd1 yk2 ya2 yb2 yd2
          go_wp2_with (go_at_call 25; (with_reducible refine CR.mono ?_); rintro e w5 ⟨rfl, hJ1⟩)
          have hX1 := hJ1.boxed2 #[.iface t0 v0, .iface t1 v1, .iface t2 v2]
          clear hJ0 hJ1 CR q0 q1 q2 q3 q4 q5 q6 q7 q8 q9 q10 q11
          generalize wr.heap.size = g13 at hX1 ⊢
          generalize w5.heap.size = g15 at hX1 ⊢
          go_region_held3 (fun W => W.cell? ⟨g13, 0, none⟩ = some (.int .i64 k0) ∧ W.cell? ⟨g13, 1, none⟩ = some (.string a0) ∧ W.cell? ⟨g13, 2, none⟩ = some (.string b0) ∧ W.cell? ⟨g13, 3, none⟩ = some (.string d0) ∧ W.cell? ⟨g13, 4, none⟩ = some (.int .i64 k1) ∧ W.cell? ⟨g13, 5, none⟩ = some (.string a1) ∧ W.cell? ⟨g13, 6, none⟩ = some (.string b1) ∧ W.cell? ⟨g13, 7, none⟩ = some (.string d1) ∧ W.cell? ⟨g13, 8, none⟩ = some (.int .i64 k2) ∧ W.cell? ⟨g13, 9, none⟩ = some (.string a2) ∧ W.cell? ⟨g13, 10, none⟩ = some (.string b2) ∧ W.cell? ⟨g13, 11, none⟩ = some (.string d2) ∧ W.cell? ⟨g15, 0, none⟩ = some (.iface t0 v0) ∧ W.cell? ⟨g15, 1, none⟩ = some (.iface t1 v1) ∧ W.cell? ⟨g15, 2, none⟩ = some (.iface t2 v2))
            (first | exact Jx.c15 (by assumption) | exact Jx.c15 (Jx.drew (by assumption)) | exact Jx.c15 (Jx.alloc (by assumption) _) | exact Jx.c15 (Jx.alloc (Jx.drew (by assumption)) _) | exact Jx.c15 (Jx.alloc (Jx.alloc (by assumption) _) _) | exact Jx.c15 (Jx.alloc (Jx.alloc (Jx.drew (by assumption)) _) _))
            (first
              | (go_at_call 26; (with_reducible refine (CH (by first | assumption | exact Jx.drew (by assumption))).mono ?_); rintro e wa ⟨rfl, hXa⟩)
              | (go_at_call 27; (with_reducible refine (CG (by first | assumption | exact Jx.drew (by assumption))).mono ?_); rintro e wb ⟨rfl, hXb⟩))
          all_goals
            obtain ⟨z0, z1, z2, z3, z4, z5, z6, z7, z8, z9, za, zb, zc, zd, ze⟩ := Jx.c15 hXb
            go_wp2_with (go_at_call 26; (with_reducible refine (CH hXb).mono ?_); rintro e wc ⟨rfl, hXc⟩)
            clear hX1 hXa hXb z0 z1 z2 z3 z4 z5 z6 z7 z8 z9 za zb zc zd ze CG CH
            have hXd := Jx.drew hXc
            go_region_held3 (fun W => W.cell? ⟨g13, 0, none⟩ = some (.int .i64 k0) ∧ W.cell? ⟨g13, 1, none⟩ = some (.string a0) ∧ W.cell? ⟨g13, 2, none⟩ = some (.string b0) ∧ W.cell? ⟨g13, 3, none⟩ = some (.string d0) ∧ W.cell? ⟨g13, 4, none⟩ = some (.int .i64 k1) ∧ W.cell? ⟨g13, 5, none⟩ = some (.string a1) ∧ W.cell? ⟨g13, 6, none⟩ = some (.string b1) ∧ W.cell? ⟨g13, 7, none⟩ = some (.string d1) ∧ W.cell? ⟨g13, 8, none⟩ = some (.int .i64 k2) ∧ W.cell? ⟨g13, 9, none⟩ = some (.string a2) ∧ W.cell? ⟨g13, 10, none⟩ = some (.string b2) ∧ W.cell? ⟨g13, 11, none⟩ = some (.string d2) ∧ W.cell? ⟨g15, 0, none⟩ = some (.iface t0 v0) ∧ W.cell? ⟨g15, 1, none⟩ = some (.iface t1 v1) ∧ W.cell? ⟨g15, 2, none⟩ = some (.iface t2 v2))
              (first | exact Jx.c15 (by assumption) | exact Jx.c15 (Jx.drew (by assumption)) | exact Jx.c15 (Jx.alloc (by assumption) _) | exact Jx.c15 (Jx.alloc (Jx.drew (by assumption)) _) | exact Jx.c15 (Jx.alloc (Jx.alloc (by assumption) _) _) | exact Jx.c15 (Jx.alloc (Jx.alloc (Jx.drew (by assumption)) _) _))
              (first
                | (refine step_append_lies _ rfl _ _ 52 rfl w3.heap.size 57 iD (.agg #[.int .i64 0, .string ⟨#[]⟩, .string ⟨#[]⟩, .string ⟨#[]⟩, .int .i64 0, .string ⟨#[]⟩, .string ⟨#[]⟩, .string ⟨#[]⟩, .int .i64 0, .string ⟨#[]⟩, .string ⟨#[]⟩, .string ⟨#[]⟩]) 12 168 Tryz.underlying52 hD0 hD1 hD2 hD3 rfl (by decide) _ _ _ rfl (Jx.alloc hXd _).1.all ⟨wc.drew.heap.size, 0, none⟩ 1 1 [.int .i64 k0, .string a0, .string b0, .string d0, .int .i64 k1, .string a1, .string b1, .string d1, .int .i64 k2, .string a2, .string b2, .string d2] rfl rfl (cells_new _ _ _) (oc12 _ _ _ _ _ _ _ _ _ _ _ _) (by decide) (by have := HN9.out; unfold maxLen; omega) (by have := HN9.out; omega) ((Jx.alloc hXd _).1.b.size) _ rfl ?_; intro g5 c7 w6 hown hgrow hloc hg5; have hX2 := Jx.app9 (Jx.alloc hXd _) rfl HND.out hown hgrow hloc)
                | (refine step_append_lies _ rfl _ _ 52 rfl w3.heap.size 57 iD (.agg #[.int .i64 0, .string ⟨#[]⟩, .string ⟨#[]⟩, .string ⟨#[]⟩, .int .i64 0, .string ⟨#[]⟩, .string ⟨#[]⟩, .string ⟨#[]⟩, .int .i64 0, .string ⟨#[]⟩, .string ⟨#[]⟩, .string ⟨#[]⟩]) 12 168 Tryz.underlying52 hD0 hD1 hD2 hD3 rfl (by decide) _ _ _ rfl (Jx.alloc (Jx.alloc hXd _) _).1.all ⟨wc.drew.heap.size, 0, none⟩ 1 1 [.int .i64 k0, .string a0, .string b0, .string d0, .int .i64 k1, .string a1, .string b1, .string d1, .int .i64 k2, .string a2, .string b2, .string d2] rfl rfl (cells_old _ _ _ _) (oc12 _ _ _ _ _ _ _ _ _ _ _ _) (by decide) (by have := HN9.out; unfold maxLen; omega) (by have := HN9.out; omega) ((Jx.alloc (Jx.alloc hXd _) _).1.b.size) _ rfl ?_; intro g5 c7 w6 hown hgrow hloc hg5; have hX2 := Jx.app9 (Jx.alloc (Jx.alloc hXd _) _) rfl HND.out hown hgrow hloc; have hTmp := Jx.temp9 (Jx.alloc (Jx.alloc hXd _) _) (Fb.new _ 59 #[.iface t0 v0, .iface t1 v1, .iface t2 v2]) hgrow)
                | (refine step_append_lies _ rfl _ _ 52 rfl w3.heap.size 57 iD (.agg #[.int .i64 0, .string ⟨#[]⟩, .string ⟨#[]⟩, .string ⟨#[]⟩, .int .i64 0, .string ⟨#[]⟩, .string ⟨#[]⟩, .string ⟨#[]⟩, .int .i64 0, .string ⟨#[]⟩, .string ⟨#[]⟩, .string ⟨#[]⟩]) 12 168 Tryz.underlying52 hD0 hD1 hD2 hD3 rfl (by decide) _ _ _ rfl (Jx.alloc (Jx.alloc hXd _) _).1.all ⟨(wc.drew.alloc (.cells #[.iface t0 v0, .iface t1 v1, .iface t2 v2] 59)).heap.size, 0, none⟩ 1 1 [.int .i64 k0, .string a0, .string b0, .string d0, .int .i64 k1, .string a1, .string b1, .string d1, .int .i64 k2, .string a2, .string b2, .string d2] (by simp [go_sem]) rfl (cells_new _ _ _) (oc12 _ _ _ _ _ _ _ _ _ _ _ _) (by decide) (by have := HN9.out; unfold maxLen; omega) (by have := HN9.out; omega) ((Jx.alloc (Jx.alloc hXd _) _).1.b.size) _ rfl ?_; intro g5 c7 w6 hown hgrow hloc hg5; have hX2 := Jx.app9 (Jx.alloc (Jx.alloc hXd _) _) rfl HND.out hown hgrow hloc; have hTmp := Jx.temp9 (Jx.alloc (Jx.alloc hXd _) _) ((Fb.new wc.drew 59 #[.iface t0 v0, .iface t1 v1, .iface t2 v2]).alloc _) hgrow)
                | (refine step_append_lies _ rfl _ _ 55 rfl w3.heap.size 59 iT (.agg #[.nilIface, .nilIface, .nilIface]) 3 48 Tryz.underlying55 hT0 hT1 hT2 hT3 rfl (by decide) _ _ _ rfl (Jx.alloc hX2 _).1.row ⟨w6.heap.size, 0, none⟩ 1 1 [.iface t0 v0, .iface t1 v1, .iface t2 v2] rfl rfl (cells_new _ _ _) (oc3 _ _ _ _ _ _) (by decide) (by have := HN10.out; unfold maxLen; omega) (by have := HN10.out; omega) ((Jx.alloc hX2 _).1.n1) _ rfl ?_; intro g6 c8 w8 hown2 hgrow2 hloc2 hg6; have hX4 := Jx.app10 (Jx.alloc hX2 _) rfl HNT.out hown2 hgrow2 hloc2)
                | (refine step_append_lies _ rfl _ _ 55 rfl w3.heap.size 59 iT (.agg #[.nilIface, .nilIface, .nilIface]) 3 48 Tryz.underlying55 hT0 hT1 hT2 hT3 rfl (by decide) _ _ _ rfl hX2.1.row ⟨_, 0, none⟩ 1 1 [.iface t0 v0, .iface t1 v1, .iface t2 v2] (by first | rfl | simp [go_sem]) rfl (fb_news hTmp) (oc3 _ _ _ _ _ _) (by decide) (by have := HN10.out; unfold maxLen; omega) (by have := HN10.out; omega) (hX2.1.n1) _ rfl ?_; intro g6 c8 w8 hown2 hgrow2 hloc2 hg6; have hX4 := Jx.app10 hX2 rfl HNT.out hown2 hgrow2 hloc2))
            all_goals
              clear hXc hXd hX2 hown hgrow hloc hg5 hown2 hgrow2 hloc2 hg6
              go_wp2
              go_region_held3 (fun W => W.cell? ⟨g13, 0, none⟩ = some (.int .i64 k0) ∧ W.cell? ⟨g13, 1, none⟩ = some (.string a0) ∧ W.cell? ⟨g13, 2, none⟩ = some (.string b0) ∧ W.cell? ⟨g13, 3, none⟩ = some (.string d0) ∧ W.cell? ⟨g13, 4, none⟩ = some (.int .i64 k1) ∧ W.cell? ⟨g13, 5, none⟩ = some (.string a1) ∧ W.cell? ⟨g13, 6, none⟩ = some (.string b1) ∧ W.cell? ⟨g13, 7, none⟩ = some (.string d1) ∧ W.cell? ⟨g13, 8, none⟩ = some (.int .i64 k2) ∧ W.cell? ⟨g13, 9, none⟩ = some (.string a2) ∧ W.cell? ⟨g13, 10, none⟩ = some (.string b2) ∧ W.cell? ⟨g13, 11, none⟩ = some (.string d2) ∧ W.cell? ⟨g15, 0, none⟩ = some (.iface t0 v0) ∧ W.cell? ⟨g15, 1, none⟩ = some (.iface t1 v1) ∧ W.cell? ⟨g15, 2, none⟩ = some (.iface t2 v2))
                (first | exact Jx.c15 (by assumption) | exact Jx.c15 (Jx.drew (by assumption)) | exact Jx.c15 (Jx.alloc (by assumption) _) | exact Jx.c15 (Jx.alloc (Jx.drew (by assumption)) _) | exact Jx.c15 (Jx.alloc (Jx.alloc (by assumption) _) _) | exact Jx.c15 (Jx.alloc (Jx.alloc (Jx.drew (by assumption)) _) _))
                (first
                  | (go_at_call 28; (with_reducible refine (CT (by first | assumption | exact Jx.drew (by assumption))).mono ?_); rintro e we ⟨rfl, hXe⟩)
                  | (go_at_call 29; (with_reducible refine (CX hXe).mono ?_); rintro e wf ⟨rfl, hXf⟩)
                  | (go_at_call 30; (with_reducible refine (CTT hXf).mono ?_); rintro e wg ⟨rfl, hXg⟩)
                  | (go_at_call 30; (with_reducible refine (CTS hXf).mono ?_); rintro e wg ⟨rfl, hXg, hTg⟩)
                  | (go_at_call 31; (with_reducible refine (CQ hXg).mono ?_); rintro e wh ⟨rfl, hXh⟩)
                  | (go_at_call 31; (with_reducible refine (CQS hXg hTg).mono ?_); rintro e wh ⟨rfl, hXh⟩))
              all_goals
                clear CT CX CTT CTS CQ CQS
                go_wp2
                go_roundg g
                case measure => exact Nat.lt_succ_self g
                case rel => exact HG.out _ _ _ _ _ _ (by have := HI9.out; first | rfl | (rw [IntWalk.wrap64_in _ ⟨by omega, by omega⟩, Int.natCast_succ])) hXh.1.j0
end Go.Proofs.YtjalhcbomjgkoaaGreatDoor
