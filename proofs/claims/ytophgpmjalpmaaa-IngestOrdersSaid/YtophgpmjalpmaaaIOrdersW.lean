/-
  IngestOrders's walk. (Out of iorders.py.)
-/
import Derived.Test.YtophgpmjalpmaaaIOrdersL
import Derived.Deep.LoopGhost
import Derived.BigQuiet
import Derived.Deep.QuietTactic
namespace Go.Proofs.Ytophgpmjalpmaaa
open Go.RowKit
set_option linter.unusedVariables false
set_option linter.unusedSimpArgs false
set_option maxRecDepth 100000

def OrRel (w1 : World) (da db : Nat) (tm : Nat → Int) (n u g : Nat) (s45 : Value) (wr : World) : Prop := ∃ i : Nat, i + g = n ∧ s45 = .int .i64 i ∧ O2 w1 da db tm (List.range i) (rotK n u i) wr
def cfO (x y : List It) (i k : Nat) : Int := ctI (x.take i) k + ctI (y.take i) k
def OsRel (W6 : World) (gs n : Nat) (x y : List It) (g : Nat) (s95 : Value) (wr : World) : Prop := ∃ i : Nat, i + g = n ∧ s95 = .int .i64 i ∧ Below W6.heap.size W6 wr ∧ CnR gs n (cfO x y i) wr
def OtRel (W6 : World) (n g : Nat) (s210 : Value) (wr : World) : Prop := ∃ i : Nat, i + g = n ∧ s210 = .int .i64 i ∧ wr = W6
theorem OsRel.step {W6 : World} {gs n : Nat} {x y : List It} {i : Nat} {wr : World} (hb : Below W6.heap.size W6 wr) (hs : CnR gs n (cfO x y i) wr) (hg : W6.heap.size ≤ gs) {p q : It} (hp : x[i]? = some p) (hq : y[i]? = some q) {k m : Nat} (hk : p.a = (k : Int)) (hm : q.a = (m : Int)) (hkn : k < n) (hmn : m < n) (q1 q2 : Nat) :
    Below W6.heap.size W6 (((wr.drewN q1).setCell ⟨gs, k, none⟩ (.int .i64 (cfO x y i k + 1))).setCell ⟨gs, m, none⟩ (.int .i64 ((if m = k then cfO x y i k + 1 else cfO x y i m) + 1))) ∧ CnR gs n (cfO x y (i + 1)) (((wr.drewN q1).setCell ⟨gs, k, none⟩ (.int .i64 (cfO x y i k + 1))).setCell ⟨gs, m, none⟩ (.int .i64 ((if m = k then cfO x y i k + 1 else cfO x y i m) + 1))) := by
  refine ⟨Below.setCell (Below.setCell (below_drewN hb q1) (p := ⟨gs, k, none⟩) hg _) (p := ⟨gs, m, none⟩) hg _, ?_⟩
  refine ((((hs.drewN q1).set hkn (cfO x y i k + 1)).set hmn ((if m = k then cfO x y i k + 1 else cfO x y i m) + 1))).congr fun j hj => ?_
  unfold cfO
  rw [ctI_snoc hp, ctI_snoc hq, hk, hm]
  by_cases e1 : j = m
  · subst e1
    rw [if_pos rfl]
    by_cases e2 : j = k
    · subst e2
      rw [if_pos rfl, if_pos rfl]; omega
    · rw [if_neg e2, if_neg (by omega), if_pos rfl]; omega
  · rw [if_neg e1]
    by_cases e2 : j = k
    · subst e2
      rw [if_pos rfl, if_pos rfl, if_neg (by omega)]; omega
    · rw [if_neg e2, if_neg (by omega), if_neg (by omega)]; omega
/-! ### The walk -/
set_option maxHeartbeats 64000000 in
theorem orders_walk (l : List Int) (hl : ∀ x ∈ l, 0 ≤ x ∧ x ≤ 255) (A : Option Addr) (cap : Nat) (hc : l.length ≤ cap) (hm : cap ≤ maxLen) (u : Int) (u0 : 0 ≤ u) (u1 : u ≤ 255) (w : World) (hs : SlAt w A 1 (l.map u8c)) :
    Calls Try.prog 5 #[.slice A l.length cap, .int .u8 u] w fun e w' => e = .returned (.bool true) ∧ Below w.heap.size w w' := by
  have cA : ∀ {W : World}, Below w.heap.size w W → Calls Try.prog 9 #[] W fun e w' => e = .returned (.bool true) ∧ Below w.heap.size w w' := fun {W} hb => (iawake_ok W).mono fun _ _ ⟨x, y⟩ => ⟨x, hb.trans (y.mono hb.size)⟩
  have hB0 : Below w.heap.size w w := Below.refl _ _
  by_cases hz : 100 < l.length
  · have hzI : (100 : Int) < (l.length : Int) := by omega
    clear hz hl hc hm hs u0 u1
    go_enter Try.func5, Try.ntmps5
    go_wp2_with (first
      | (go_at_call 9; (with_reducible refine (cA hB0).mono ?_); rintro e w1 ⟨rfl, hB1⟩)
      | (go_at_call 9; (with_reducible refine (cA hB1).mono ?_); rintro e w2 ⟨rfl, hB2⟩))
    go_ret
    exact ⟨rfl, by assumption⟩
  have hzI : ¬ (100 : Int) < (l.length : Int) := by omega
  by_cases hz0 : l.length = 0
  · have hz1 : ((l.length : Int) == 0) = true := by rw [hz0]; rfl
    have hz2 : (l.length : Int) = 0 := by omega
    have hz3 : l = [] := List.length_eq_zero_iff.1 hz0
    subst hz3
    clear hz hl hc hm hs u0 u1 hz0 hzI hz1 hz2
    go_enter Try.func5, Try.ntmps5
    go_wp2_with (first
      | (go_at_call 9; (with_reducible refine (cA hB0).mono ?_); rintro e w1 ⟨rfl, hB1⟩)
      | (go_at_call 9; (with_reducible refine (cA hB1).mono ?_); rintro e w2 ⟨rfl, hB2⟩))
    go_ret
    exact ⟨rfl, by assumption⟩
  obtain ⟨n, hn⟩ : ∃ n, n = l.length := ⟨_, rfl⟩
  have hn60 : n ≤ 100 := by omega
  obtain ⟨tm, htm⟩ : ∃ tm : Nat → Int, tm = fun i => l.getD i 0 := ⟨_, rfl⟩
  have htb : ∀ i, i < n → 0 ≤ tm i ∧ tm i ≤ 255 := fun i hi => by
    obtain ⟨r, hr⟩ : ∃ r, l[i]? = some r := ⟨_, List.getElem?_eq_getElem (by omega)⟩
    rw [htm]
    show 0 ≤ l.getD i 0 ∧ l.getD i 0 ≤ 255
    rw [List.getD_eq_getElem?_getD, hr]
    exact hl r (List.mem_of_getElem? hr)
  have hel : ∀ {W : World}, Below w.heap.size w W → ∃ g o, A = some ⟨g, o, none⟩ ∧ g < w.heap.size ∧ ∀ i, i < n → W.cell? ⟨g, o + i, none⟩ = some (.int .u8 (tm i)) := fun {W} hb => by
    have hsb := hs.below hb
    obtain ⟨r, hr⟩ : ∃ r, l[0]? = some r := ⟨_, List.getElem?_eq_getElem (by omega)⟩
    obtain ⟨g, o, e, hg, _⟩ := hs 0 (u8c r) (by rw [List.getElem?_map, hr]; rfl)
    refine ⟨g, o, e, hg, fun i hi => ?_⟩
    obtain ⟨r, hr⟩ : ∃ r, l[i]? = some r := ⟨_, List.getElem?_eq_getElem (by omega)⟩
    obtain ⟨g', o', e', h'⟩ := sl_at1 (f := u8c) (fun _ => rfl) hsb hr
    rw [e] at e'
    injection e' with e'
    injection e' with e1 e2
    subst e1 e2
    rw [h', htm]
    show _ = some (Value.int .u8 (l.getD i 0))
    rw [List.getD_eq_getElem?_getD, hr]; rfl
  have cN := fun W => inew_ok 1000 1000 (by decide) (by decide) (by decide) (by decide) W
  obtain ⟨un, hun⟩ : ∃ un : Nat, u = un := ⟨u.toNat, by omega⟩
  subst hun
  have hnz : 0 < n := by omega
  have hz1 : ((n : Int) == 0) = false := by rw [beq_eq_false_iff_ne]; omega
  have hz2 : ¬ (n : Int) = 0 := by omega
  have hn9 : (n : Int) ≤ 100 := by omega
  have hnp : (0 : Int) < (n : Int) := by omega
  rw [← hn] at hzI ⊢
  have HEL := Lib.hid (fun W => @hel W)
  have HTB := Lib.hid htb
  have HN := Lib.hid (And.intro hn60 hnz)
  clear hz hz0 hl hc hm hs hel hn60 hn htm htb hnz
  go_enter Try.func5, Try.ntmps5
  go_wp2_with (first
    | (go_at_call 9; (with_reducible refine (cA hB0).mono ?_); rintro e w1 ⟨rfl, hB1⟩)
    | (go_at_call 10; (with_reducible refine (cN _).mono ?_); rintro e w2 ⟨da, rfl, hD2, hb2⟩; clear cA)
    | (go_at_call 10; (with_reducible refine (cN w2).mono ?_); rintro e w3 ⟨db, rfl, hD3, hb3⟩))
  have HB1 := Lib.hid hB1
  have hR : R2 w1 da db (Bs.first 1000 1000) (Bs.first 1000 1000) (.slice none 0 0) (.slice none 0 0) [] [] w3 := ⟨(rn_new hD2 hb2).below hb3, rn_new (hD3.mono hb2.size) (hb2.trans (hb3.mono hb2.size)), fun e => by have h1 := hD2.lt; have h2 := hD3.gd; omega, fun k hk => by cases hk⟩
  have HST := Lib.hid (show OrRel w1 da db tm n un n (.int .i64 0) w3 from ⟨0, by omega, rfl, _, _, _, _, _, _, hR, Oi.start tm, Oi.start tm⟩)
  clear hB0 hB1 hD2 hb2 hD3 hb3 cN hR
  go_loopg [45] n (fun g s45 wr => OrRel w1 da db tm n un g s45 wr)
  case atStart => exact HST.out
  case round =>
    clear HST
    obtain ⟨i, hig, rfl, hK⟩ := hrel
    have hi9 : (i : Int) ≤ 100 := by omega
    obtain ⟨gg, og, rfl, hgl, hcell⟩ := HEL.out _ (HB1.out.trans (hK.b.mono HB1.out.size))
    cases gk with
    | zero =>
      obtain rfl : i = n := by omega
      have hin : ¬ (i : Int) < (i : Int) := by omega
      have cF := hK.flush (by rw [List.length_range]; omega)
      have hmk := mk_ints i (by omega)
      have HWR := Lib.hid hK.b.size
      clear hK hig hcell
      go_wp2_with (first
        | (go_at_call 18; (with_reducible refine cF.mono ?_); rintro e w4 ⟨A4, c4, x, rfl, hF4⟩; have hxl : x.length = i := (by have := hF4.1.length_eq; rwa [mkP_len, List.length_range] at this); have cF5 := O2F.flush hF4 (by rw [rotK_len]; exact HN.out.1); clear hF4)
        | (go_at_call 18; (with_reducible refine cF5.mono ?_); rintro e w5 ⟨A5, c5, y, rfl, hG⟩; have hyl : y.length = i := (by have := hG.2.1.1.length_eq; rwa [mkP_len, rotK_len] at this); have HG := Lib.hid hG; clear hG))
      obtain ⟨⟨xp, xo, xr⟩, ⟨yp, yo, yr⟩, hb5⟩ := HG.out
      have hTS := times_same xp yp (rotK_perm i un HN.out.2) xo yo
      obtain ⟨g6, c6, e6, _, hg6, _⟩ := xr.full (by have := HN.out.2; omega)
      injection e6 with e6 _ e6'
      subst e6
      subst e6'
      obtain ⟨g7, c7, e7, _, hg7, _⟩ := yr.full (by have := HN.out.2; omega)
      injection e7 with e7 _ e7'
      subst e7
      subst e7'
      have HST2 := Lib.hid (show OsRel w5 w5.heap.size i x y i (.int .i64 0) (w5.alloc (.cells (madeCells #[.int .i64 0] i) 3)) from ⟨0, by omega, rfl, (Below.refl _ _).alloc (Nat.le_refl _) _, (CnR.start w5 i).congr fun k hk => by unfold cfO ctI; simp⟩)
      have HTS := Lib.hid hTS
      have HB5 := Lib.hid hb5
      have HXP := Lib.hid (And.intro xp (And.intro xo xr))
      have HYP := Lib.hid (And.intro yp (And.intro yo yr))
      have HXL := Lib.hid (And.intro hxl hyl)
      have HG67 := Lib.hid (And.intro hg6 hg7)
      clear hTS hb5 xp xo xr yp yo yr hxl hyl hg6 hg7 HG cF hmk HWR
      go_loopg [95] i (fun g s95 wr => OsRel w5 w5.heap.size i x y g s95 wr)
      case atStart => exact HST2.out
      case round =>
        clear HST2
        obtain ⟨j, hjg, rfl, hB, hCn⟩ := hrel
        have hj9 : (j : Int) ≤ 100 := by omega
        cases gk with
        | zero =>
          obtain rfl : j = i := by omega
          have hjn : ¬ (j : Int) < (j : Int) := by omega
          have HBE := Lib.hid (HB1.out.trans ((HB5.out.trans (hB.mono HB5.out.size)).mono HB1.out.size))
          have h2 : ∀ k : Nat, k < j → wr.cell? ⟨w5.heap.size, k, none⟩ = some (.int .i64 2) := fun k hk => by
            have h := (hCn.cells hk).1
            have e1 : cfO x y j k = 2 := by
              unfold cfO
              rw [List.take_of_length_le (by have := HXL.out.1; omega), List.take_of_length_le (by have := HXL.out.2; omega), ctI_all HXP.out.1 (List.Perm.refl _) hk, ctI_all HYP.out.1 (rotK_perm j un HN.out.2) hk]
              rfl
            rwa [e1] at h
          have H2 := Lib.hid h2
          clear hB hCn hjg h2
          go_wp2
          go_loopg [210] j (fun g s210 w' => OtRel wr j g s210 w')
          case atStart => exact ⟨0, by omega, rfl, rfl⟩
          case round =>
            obtain ⟨t, htg, rfl, rfl⟩ := hrel
            have ht9 : (t : Int) ≤ 100 := by omega
            cases gk with
            | zero =>
              obtain rfl : t = j := by omega
              have htn : ¬ (t : Int) < (t : Int) := by omega
              clear htg
              go_wp2
              go_ret
              exact ⟨rfl, HBE.out⟩
            | succ g3 =>
              have htn : (t : Int) < (j : Int) := by omega
              have htz : (0 : Int) ≤ (t : Int) := by omega
              have hc := H2.out t (by omega)
              have HT := Lib.hid (show t + 1 + g3 = j from by omega)
              clear htg
              go_wp2
              go_roundg g3
              case measure => exact Nat.lt_succ_self g3
              case rel => exact ⟨t + 1, HT.out, by go_num, rfl⟩
        | succ g2 =>
          have hjn : (j : Int) < (i : Int) := by omega
          have hjz : (0 : Int) ≤ (j : Int) := by omega
          obtain ⟨p, hp⟩ : ∃ p, x[j]? = some p := ⟨_, List.getElem?_eq_getElem (by have := HXL.out.1; omega)⟩
          obtain ⟨q, hq⟩ : ∃ q, y[j]? = some q := ⟨_, List.getElem?_eq_getElem (by have := HXL.out.2; omega)⟩
          have hpq : p.t = q.t := by
            have h := congrArg (fun l : List Int => l[j]?) HTS.out
            simp only [List.getElem?_map, hp, hq] at h
            exact Option.some.inj h
          obtain ⟨k, hkK, hpa, hpt⟩ := mkP_mem (HXP.out.1.mem_iff.1 (List.mem_of_getElem? hp))
          obtain ⟨m, hmK, hqa, hqt⟩ := mkP_mem (HYP.out.1.mem_iff.1 (List.mem_of_getElem? hq))
          have hkn : k < i := List.mem_range.1 hkK
          have hmn : m < i := List.mem_range.1 ((rotK_perm i un HN.out.2).mem_iff.1 hmK)
          have hrx := HXP.out.2.2.below hB
          have hry := HYP.out.2.2.below hB
          obtain ⟨q0, q1, q2, _, _⟩ := hrx.at hp
          obtain ⟨r0, r1, r2, _, _⟩ := hry.at hq
          rw [hpa] at q2
          rw [hqa, ] at r2
          rw [← hpq] at r0
          obtain ⟨g', o', e', _, hcl⟩ := HEL.out _ (HB1.out.trans ((HB5.out.trans (hB.mono HB5.out.size)).mono HB1.out.size))
          injection e' with e'
          injection e' with e1 e2
          subst e1 e2
          have ck := hcl k hkn
          have cm := hcl m hmn
          rw [← hpt] at ck
          rw [← hqt, ← hpq] at cm
          obtain ⟨z1, z2, z3⟩ := hCn.cells hkn
          obtain ⟨y1, y2, _⟩ := hCn.cells hmn
          have HJ := Lib.hid (show j + 1 + g2 = i from by omega)
          have HEND := Lib.hid (fun q1 q2 => OsRel.step hB hCn (Nat.le_refl _) hp hq hpa hqa hkn hmn q1 q2)
          have hfk : 0 ≤ cfO x y j k ∧ cfO x y j k ≤ 300 := by
            unfold cfO
            have h1 := ctI_le (x.take j) k
            have h2 := ctI_le (y.take j) k
            rw [List.length_take] at h1 h2
            omega
          have hfm : 0 ≤ cfO x y j m ∧ cfO x y j m ≤ 300 := by
            unfold cfO
            have h1 := ctI_le (x.take j) m
            have h2 := ctI_le (y.take j) m
            rw [List.length_take] at h1 h2
            omega
          have htb := HTB.out k hkn
          rw [← hpt] at htb
          have hway : j = 0 ∨ ∃ pp yt ys : _, j = pp + 1 ∧ wr.cell? ⟨g6, pp * 5, none⟩ = some (.int .i64 yt) ∧ wr.cell? ⟨g6, pp * 5 + 1, none⟩ = some (.int .i64 ys) ∧ (yt < p.t ∨ yt = p.t ∧ ys < p.s) := by
            by_cases hj0 : j = 0
            · exact .inl hj0
            · right
              obtain ⟨pp, rfl⟩ : ∃ pp, j = pp + 1 := ⟨j - 1, by omega⟩
              obtain ⟨y', hy'⟩ : ∃ y', x[pp]? = some y' := ⟨_, List.getElem?_eq_getElem (by have := HXL.out.1; omega)⟩
              obtain ⟨v0, v1, _, _, _⟩ := hrx.at hy'
              have hle := ord_at HXP.out.2.1 hy' hp (Nat.lt_succ_self pp)
              have hnd := not_seen ((HXP.out.1.map It.s).nodup_iff.2 (mkP_nodup tm (List.range i))) hp
              have hns : y'.s ≠ p.s := fun e => by
                have : y' ∈ x.take (pp + 1) := List.mem_of_getElem? (by rw [List.getElem?_take_of_lt (Nat.lt_succ_self pp)]; exact hy')
                have h3 : (x.take (pp + 1)).any (fun z => decide (z.s = p.s)) = true := List.any_eq_true.2 ⟨y', this, decide_eq_true e⟩
                rw [h3] at hnd
                cases hnd
              unfold LeI at hle
              exact ⟨pp, y'.t, y'.s, rfl, v0, v1, by omega⟩
          obtain ⟨T0, T1⟩ := htb
          obtain ⟨fk0, fk1⟩ := hfk
          obtain ⟨fm0, fm1⟩ := hfm
          obtain ⟨hg6, hg7⟩ := HG67.out
          have ne6 : ¬ g6 = w5.heap.size := by omega
          have ne6' : ¬ w5.heap.size = g6 := by omega
          have HFE := Lib.hid (show m = k → cfO x y j m = cfO x y j k from fun e => by rw [e])
          generalize p.t = T at *
          generalize p.s = ps at *
          generalize cfO x y j k = fk at *
          generalize cfO x y j m = fm at *
          have wT : IntKind.i64.wrap T = T := IntWalk.i64_in _ (by omega)
          have b0 : (0 : Int) ≤ (k : Int) := by omega
          have b1 : (k : Int) < (i : Int) := by omega
          have b2 : ¬ (k : Int) < 0 := by omega
          have b3 : ¬ (i : Int) ≤ (k : Int) := by omega
          have b4 : (0 : Int) ≤ (m : Int) := by omega
          have b5 : (m : Int) < (i : Int) := by omega
          have b6 : ¬ (m : Int) < 0 := by omega
          have b7 : ¬ (i : Int) ≤ (m : Int) := by omega
          have d1 : decide ((k : Int) < 0) = false := decide_eq_false b2
          have d2 : decide ((i : Int) ≤ (k : Int)) = false := decide_eq_false b3
          have d3 : decide (i ≤ k) = false := decide_eq_false (by omega)
          have d5 : decide ((m : Int) < 0) = false := decide_eq_false b6
          have d6 : decide ((i : Int) ≤ (m : Int)) = false := decide_eq_false b7
          have d7 : decide (i ≤ m) = false := decide_eq_false (by omega)
          clear hp hq hpq hkK hmK hpa hpt hqa hqt hrx hry hjg hB hCn hcl
          go_wp2
          go_quiet (fail)
          go_wp2
          go_quiet (fail)
          by_cases hmk : m = k
          · obtain rfl := HFE.out hmk
            subst hmk
            rw [if_pos rfl] at HEND
            go_wp2
            rcases hway with hj0 | ⟨pp, yt, ys, hjp, v0, v1, hle⟩
            · have hj1 : ¬ (0 : Int) < (j : Int) := by omega
              have d8 : decide ((0 : Int) < (j : Int)) = false := decide_eq_false hj1
              have d9 : decide (0 < j) = false := decide_eq_false (by omega)
              clear hj0
              go_quiet (fail)
              go_wp2
              go_roundg g2
              case measure => exact Nat.lt_succ_self g2
              case rel =>
                refine ⟨j + 1, HJ.out, by go_num, ?_⟩
                exact ⟨below_drewN (HEND.out _ 0).1 _, (HEND.out _ 0).2.drewN _⟩
            · have hj1 : (0 : Int) < (j : Int) := by omega
              have d8 : decide ((0 : Int) < (j : Int)) = true := decide_eq_true hj1
              have d9 : decide (0 < j) = true := decide_eq_true (by omega)
              have hj0 : 0 < j := by omega
              have r8 : (j : Int) - 1 = (pp : Int) := by omega
              have w1x : IntKind.i64.wrap ((j : Int) - 1) = (pp : Int) := by rw [IntWalk.i64_in _ (by omega)]; omega
              have r9 : (0 : Int) ≤ (pp : Int) := by omega
              have r10 : (pp : Int) < (i : Int) := by omega
              rcases hle with hle | ⟨hle, hls⟩
              · have n1 : (T == yt) = false := by rw [beq_eq_false_iff_ne]; omega
                have n2 : ¬ T = yt := by omega
                clear hjp
                go_quiet (fail)
                go_wp2
                go_roundg g2
                case measure => exact Nat.lt_succ_self g2
                case rel =>
                  refine ⟨j + 1, HJ.out, by go_num, ?_⟩
                  exact ⟨below_drewN (HEND.out _ 0).1 _, (HEND.out _ 0).2.drewN _⟩
              · subst hle
                have n1 : ¬ ps ≤ ys := by omega
                have d10 : decide (ps ≤ ys) = false := decide_eq_false n1
                clear hjp
                go_quiet (fail)
                go_wp2
                go_roundg g2
                case measure => exact Nat.lt_succ_self g2
                case rel =>
                  refine ⟨j + 1, HJ.out, by go_num, ?_⟩
                  exact ⟨below_drewN (HEND.out _ 0).1 _, (HEND.out _ 0).2.drewN _⟩
          · have nmk : ¬ k = m := fun e => hmk e.symm
            simp only [if_neg hmk] at HEND
            go_wp2
            rcases hway with hj0 | ⟨pp, yt, ys, hjp, v0, v1, hle⟩
            · have hj1 : ¬ (0 : Int) < (j : Int) := by omega
              have d8 : decide ((0 : Int) < (j : Int)) = false := decide_eq_false hj1
              have d9 : decide (0 < j) = false := decide_eq_false (by omega)
              clear hj0
              go_quiet (fail)
              go_wp2
              go_roundg g2
              case measure => exact Nat.lt_succ_self g2
              case rel =>
                refine ⟨j + 1, HJ.out, by go_num, ?_⟩
                exact ⟨below_drewN (HEND.out _ 0).1 _, (HEND.out _ 0).2.drewN _⟩
            · have hj1 : (0 : Int) < (j : Int) := by omega
              have d8 : decide ((0 : Int) < (j : Int)) = true := decide_eq_true hj1
              have d9 : decide (0 < j) = true := decide_eq_true (by omega)
              have hj0 : 0 < j := by omega
              have r8 : (j : Int) - 1 = (pp : Int) := by omega
              have w1x : IntKind.i64.wrap ((j : Int) - 1) = (pp : Int) := by rw [IntWalk.i64_in _ (by omega)]; omega
              have r9 : (0 : Int) ≤ (pp : Int) := by omega
              have r10 : (pp : Int) < (i : Int) := by omega
              rcases hle with hle | ⟨hle, hls⟩
              · have n1 : (T == yt) = false := by rw [beq_eq_false_iff_ne]; omega
                have n2 : ¬ T = yt := by omega
                clear hjp
                go_quiet (fail)
                go_wp2
                go_roundg g2
                case measure => exact Nat.lt_succ_self g2
                case rel =>
                  refine ⟨j + 1, HJ.out, by go_num, ?_⟩
                  exact ⟨below_drewN (HEND.out _ 0).1 _, (HEND.out _ 0).2.drewN _⟩
              · subst hle
                have n1 : ¬ ps ≤ ys := by omega
                have d10 : decide (ps ≤ ys) = false := decide_eq_false n1
                clear hjp
                go_quiet (fail)
                go_wp2
                go_roundg g2
                case measure => exact Nat.lt_succ_self g2
                case rel =>
                  refine ⟨j + 1, HJ.out, by go_num, ?_⟩
                  exact ⟨below_drewN (HEND.out _ 0).1 _, (HEND.out _ 0).2.drewN _⟩
    | succ g =>
      have hin : (i : Int) < (n : Int) := by omega
      have hiz : (0 : Int) ≤ (i : Int) := by omega
      have uz : (0 : Int) ≤ (un : Int) := by omega
      have HI := Lib.hid (show i + 1 + g = n from by omega)
      obtain ⟨kj, hkj⟩ : ∃ kj, kj = (i + un) % n := ⟨_, rfl⟩
      have hkn : kj < n := by rw [hkj]; exact Nat.mod_lt _ HN.out.2
      have hk1 : ((i : Int) + (un : Int)) % (n : Int) = (kj : Int) := by rw [hkj, Int.natCast_emod, Int.natCast_add]
      have hk2 : (0 : Int) ≤ (kj : Int) := by omega
      have hk3 : (kj : Int) < (n : Int) := by omega
      have c0 := hcell i (by omega)
      have c1 := hcell kj hkn
      have ti := HTB.out i (by omega)
      have tk := HTB.out kj hkn
      have cP1 := hK.push (by rw [List.length_range]; omega) i ti
      have cP2 := fun {W : World} (h : O2 w1 da db tm (List.range i ++ [i]) (rotK n un i) W) => h.swap.push (by rw [rotK_len]; omega) kj tk
      have HKJ := Lib.hid hkj
      have HGL := Lib.hid (And.intro hgl hK.b.size)
      have hcl : ∀ {W : World}, O2 w1 da db tm (List.range i ++ [i]) (rotK n un i) W → W.cell? ⟨gg, og + kj, none⟩ = some (.int .u8 (tm kj)) := fun {W} h => by
        obtain ⟨g', o', e', _, h'⟩ := HEL.out _ (HB1.out.trans (h.b.mono HB1.out.size))
        injection e' with e'
        injection e' with e1 e2
        subst e1 e2
        exact h' kj hkn
      obtain ⟨a1, a2⟩ := ti
      obtain ⟨b1, b2⟩ := tk
      generalize htk : tm kj = tkj at *
      generalize hti : tm i = tii at *
      have HCL := Lib.hid (fun W => @hcl W)
      clear hK hig hcell hkj hgl hcl hti htk hkn c1
      go_wp2_with (first
        | (go_at_call 12; (with_reducible refine cP1.mono ?_); rintro e w4 ⟨rfl, hN⟩; have c1 := HCL.out _ hN; have HN4 := Lib.hid hN; clear hN)
        | (go_at_call 12; (with_reducible refine (cP2 HN4.out).mono ?_); rintro e w5 ⟨rfl, hN⟩; have HN5 := Lib.hid hN; clear hN))
      go_roundg g
      case measure => exact Nat.lt_succ_self g
      case rel =>
        refine ⟨i + 1, HI.out, by go_num, ?_⟩
        have h := HN5.out.swap
        rw [HKJ.out, ← rotK_succ, ← List.range_succ] at h
        exact h
end Go.Proofs.Ytophgpmjalpmaaa
