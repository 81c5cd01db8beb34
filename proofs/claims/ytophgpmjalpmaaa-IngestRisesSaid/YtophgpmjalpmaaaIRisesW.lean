/-
  IngestRises's walk.
-/
import Derived.Test.YtophgpmjalpmaaaIRisesM
import Derived.Deep.LoopGhost
import Derived.BigQuiet
import Derived.Deep.QuietTactic
namespace Go.Proofs.Ytophgpmjalpmaaa
open Go.RowKit
set_option linter.unusedVariables false
set_option linter.unusedSimpArgs false
set_option maxRecDepth 100000

theorem intInfo : (Try.prog.info? 3).map (fun i => (i.zero, i.size, i.bytes)) = some (some (.int .i64 0), 1, 8) := by kernel_rfl
def RsRel (w1 : World) (d : Nat) (a : Int) (n g : Nat) (s7 s8 s31 : Value) (wr : World) : Prop := ∃ (i : Nat) (out : List It) (came : List Int), i + g = n ∧ s31 = .int .i64 i ∧ RsN w1 d a i s7 out s8 came came wr
theorem tm_of {B : Nat} {W : World} {v : Value} {came : List Int} {n : Nat} {t : Int} (hn : n = came.length + 1) (h : W.ownsRow B 3 1 v n (came.map (Value.int .i64) ++ [.int .i64 t])) : TmR B W v (came ++ [t]) := by
  subst hn
  unfold TmR
  rw [List.length_append, List.map_append]
  exact h
/-- Behind the second loop. -/
theorem fz_calls {w1 W : World} {d : Nat} {s : Bs} {v vo : Value} {o : List It} {vc : Value} {came : List Int} (h : Fz w1 d s v vo o vc came W) :
    (Calls Try.prog 20 #[.pointer (some ⟨d, 0, none⟩)] W fun e w' => e = .returned (.int .i64 0) ∧ W = w') ∧ (Calls Try.prog 21 #[.pointer (some ⟨d, 0, none⟩)] W fun e w' => e = .returned (.bool true) ∧ W = w') ∧
    Calls Try.prog 12 #[.pointer (some ⟨d, 0, none⟩), .int .i64 5, .agg #[.int .i64 0, .int .i64 0, .int .i64 0]] W fun e w' => e = .returned (.int .i64 14) ∧ Below w1.heap.size w1 w' := by
  refine ⟨h.rz.rn.len (by simp), ?_, ?_⟩
  · have := h.rz.rn.closed
    rw [h.closed] at this
    exact this
  · refine (ipush_any h.rz.rn.bc h.rz.rn.b.size (by simp) Hp.nil h.ok 5 0 0 0).mono ?_
    rintro e w' ⟨h1, v', l', h2, h3, h4, h5⟩
    rw [Bs.push_closed h.closed] at h1
    exact ⟨h1, h3.below h.rz.rn.bc h.rz.rn.b⟩
theorem Fz.below {w1 W W' : World} {d : Nat} {s : Bs} {v vo : Value} {o : List It} {vc : Value} {came : List Int} (h : Fz w1 d s v vo o vc came W) (hb : Below W.heap.size W W') : Fz w1 d s v vo o vc came W' := ⟨h.rz.below hb, h.closed, h.ok, h.ord, h.pm, h.len⟩
/-! ### The walk -/
set_option maxHeartbeats 64000000 in
theorem rises_walk (a : Int) (a0 : 0 ≤ a) (a1 : a ≤ 255) (l : List Ax) (hl : ∀ a ∈ l, a.ok) (A : Option Addr) (cap : Nat) (hc : l.length ≤ cap) (hm : cap ≤ maxLen) (w : World) (hs : SlAt w A 5 (l.map Ax.cells)) :
    Calls Try.prog 4 #[.int .u8 a, .slice A l.length cap] w fun e w' => e = .returned (.bool true) ∧ Below w.heap.size w w' := by
  have cA : ∀ {W : World}, Below w.heap.size w W → Calls Try.prog 9 #[] W fun e w' => e = .returned (.bool true) ∧ Below w.heap.size w w' := fun {W} hb => (iawake_ok W).mono fun _ _ ⟨x, y⟩ => ⟨x, hb.trans (y.mono hb.size)⟩
  have hB0 : Below w.heap.size w w := Below.refl _ _
  by_cases hz : 100 < l.length
  · have hzI : (100 : Int) < (l.length : Int) := by omega
    clear hz hl hc hm hs a0 a1
    go_enter Try.func4, Try.ntmps4
    go_wp2_with (first
      | (go_at_call 9; (with_reducible refine (cA hB0).mono ?_); rintro e w1 ⟨rfl, hB1⟩)
      | (go_at_call 9; (with_reducible refine (cA hB1).mono ?_); rintro e w2 ⟨rfl, hB2⟩))
    go_ret
    exact ⟨rfl, by assumption⟩
  have hzI : ¬ (100 : Int) < (l.length : Int) := by omega
  obtain ⟨n, hn⟩ : ∃ n, n = l.length := ⟨_, rfl⟩
  have hn60 : n ≤ 100 := by omega
  have hel : ∀ i, i < n → ∃ r : Ax, r.ok ∧ ∀ {W : World}, Below w.heap.size w W → ∃ g o, A = some ⟨g, o, none⟩ ∧ W.cell? ⟨g, o + i * 5, none⟩ = some (.int .u8 r.k) ∧ W.cell? ⟨g, o + i * 5 + 1, none⟩ = some (.int .i64 r.t) ∧ W.cell? ⟨g, o + i * 5 + 2, none⟩ = some (.int .i64 r.a) ∧ W.cell? ⟨g, o + i * 5 + 3, none⟩ = some (.int .i64 r.b) ∧ W.cell? ⟨g, o + i * 5 + 4, none⟩ = some (.int .i64 r.c) := fun i hi => by
    obtain ⟨r, hr⟩ : ∃ r, l[i]? = some r := ⟨_, List.getElem?_eq_getElem (by omega)⟩
    exact ⟨r, hl r (List.mem_of_getElem? hr), fun {W} hb => sl_at5 (hs.below hb) hr⟩
  have cN := fun W => inew_ok a 1000 a0 (by omega) (by decide) (by decide) W
  obtain ⟨iT, hT0, hT1, hT2, hT3⟩ := info_parts intInfo
  rw [← hn] at hzI ⊢
  have HEL := Lib.hid hel
  have HN := Lib.hid hn60
  have HA := Lib.hid (And.intro a0 a1)
  clear hz hl hc hm hs hel hn60 hn
  go_enter Try.func4, Try.ntmps4
  go_wp2_with (first
    | (go_at_call 9; (with_reducible refine (cA hB0).mono ?_); rintro e w1 ⟨rfl, hB1⟩)
    | (go_at_call 10; (with_reducible refine (cN _).mono ?_); rintro e w2 ⟨d, rfl, hD2, hb2⟩))
  have HB1 := Lib.hid hB1
  have HST := Lib.hid (show RsRel w1 d a n n (.slice none 0 0) (.slice none 0 0) (.int .i64 0) w2 from ⟨0, [], [], by omega, rfl, _, _, _, ⟨rn_new hD2 hb2, itR_nil _ _, World.ownsRow_nil _ _ _ _, fun k hk => by cases hk⟩, ⟨rfl, rfl, rfl, (by show (-1152921504606846976 : Int) ≤ 0; decide), (by show (0 : Int) ≤ 1152921504606846976; decide), rfl, Int.le_refl 0, (by show ((0 : Nat) : Int) + 0 ≤ ((0 : Nat) : Int); decide), List.Perm.refl _, List.Pairwise.nil, fun x hx => (by cases hx), fun x hx => (by cases hx), fun x hx => (by cases hx)⟩⟩)
  clear hB0 hB1 hD2 hb2 cA cN a0 a1
  go_loopg [7, 8, 31] n (fun g s7 s8 s31 wr => RsRel w1 d a n g s7 s8 s31 wr)
  case atStart => exact HST.out
  case round =>
    clear HST
    obtain ⟨i, out, came, hig, rfl, hK⟩ := hrel
    have hi9 : (i : Int) ≤ 100 := by have := HN.out; omega
    obtain ⟨AO, cO, hvo⟩ := hK.ro.shape
    obtain ⟨AC, cC, hvc⟩ := hK.rc.shape
    subst hvo hvc
    have hcn : came.length ≤ 100 := by have := hK.lens.2; have := HN.out; omega
    have HCN := Lib.hid hcn
    cases gk with
    | zero =>
      obtain rfl : i = n := by omega
      have hin : ¬ (i : Int) < (i : Int) := by omega
      have cF := hK.flush HN.out HA.out.1 HA.out.2
      have hmk := fun W => mk_bools came.length (by omega) W
      have hcz : (0 : Int) ≤ (came.length : Int) := by omega
      have hcz9 : (came.length : Int) ≤ 100 := by omega
      clear hK hig hcn
      go_wp2_with (first
        | (go_at_call 18; (with_reducible refine cF.mono ?_); rintro e w3 ⟨A3, c3, out2, rfl, hF3⟩; have HF3 := Lib.hid hF3; clear hF3)
        | (at_builtin; refine wpList_app_items rfl (.tmp 65) (.tmp 67) rfl (B := w1.heap.size) (N := wr.heap.size) rfl rfl (HF3.out.choose_spec.choose_spec.1.ro) (HF3.out.choose_spec.choose_spec.2.1) (by have := HF3.out.lens; omega) (HF3.out.choose_spec.choose_spec.1.rn.b.size) ?_; intro vo6 w6 hr6 hg6 hf6; have HFZ := Lib.hid (HF3.out.more hr6 hg6 hf6); clear hr6 hg6 hf6; obtain ⟨o, ho⟩ : ∃ o, o = out ++ out2 := ⟨_, rfl⟩; rw [← ho] at HFZ; clear ho; obtain ⟨AF, cF6, hvf⟩ := HFZ.out.choose_spec.choose_spec.rz.ro.shape; subst hvf))
      obtain ⟨s6, v6, hZ⟩ := HFZ.out
      have hlen : o.length = came.length := by have := hZ.pm.length_eq; rwa [mkI_len] at this
      have ho9 : (o.length : Int) ≤ 100 := by omega
      have HZ := Lib.hid hZ
      have HLN := Lib.hid hlen
      have HST2 := Lib.hid (show SoRel w6 w6.heap.size came.length o o.length (.int .i64 0) (w6.alloc (.cells (madeCells #[.bool false] came.length) 4)) from ⟨0, by omega, rfl, (Below.refl _ _).alloc (Nat.le_refl _) _, SnR.start _ _ _⟩)
      clear hZ HFZ HF3 hlen cF hmk
      go_loopg [74] o.length (fun g s74 wr => SoRel w6 w6.heap.size came.length o g s74 wr)
      case atStart => exact HST2.out
      case round =>
        clear HST2
        obtain ⟨j, hjg, rfl, hB, hSn⟩ := hrel
        cases gk with
        | zero =>
          obtain rfl : j = o.length := by omega
          have hjn : ¬ (o.length : Int) < (o.length : Int) := by omega
          obtain ⟨cL, cC2, cP⟩ := fz_calls (HZ.out.below hB)
          have hle : (o.length : Int) = (came.length : Int) := by have := HLN.out; omega
          clear hB hSn hjg
          go_wp2_with (first
            | (go_at_call 20; (with_reducible refine cL.mono ?_); rintro e w8 ⟨rfl, rfl⟩)
            | (go_at_call 21; (with_reducible refine cC2.mono ?_); rintro e w9 ⟨rfl, rfl⟩)
            | (go_at_call 12; (with_reducible refine cP.mono ?_); rintro e w10 ⟨rfl, hB10⟩))
          go_ret
          exact ⟨rfl, HB1.out.trans (hB10.mono HB1.out.size)⟩
        | succ g2 =>
          have hjn : (j : Int) < (o.length : Int) := by omega
          have hjz : (0 : Int) ≤ (j : Int) := by omega
          obtain ⟨x, hx⟩ : ∃ x, o[j]? = some x := ⟨_, List.getElem?_eq_getElem (by omega)⟩
          obtain ⟨kn, hck, hxk⟩ := mkI_mem (HZ.out.pm.mem_iff.1 (List.mem_of_getElem? hx))
          have hkn : kn < came.length := (List.getElem?_eq_some_iff.1 hck).1
          have hxs : x.s = (kn : Int) := by rw [hxk]; rfl
          have hxa : x.a = (kn : Int) := by rw [hxk]; rfl
          obtain ⟨z1, z2, z3⟩ := hSn.cells hkn
          have hns := not_seen (perm_nodup HZ.out.pm) hx
          rw [hxs] at hns
          rw [hns] at z1
          obtain ⟨g9, c9, e9, y9⟩ := (HZ.out.below hB).rz.rc.at hck
          injection e9 with e9 _ e9'
          subst e9
          subst e9'
          have hrow := (HZ.out.below hB).rz.ro
          obtain ⟨g6, c6, e6, _, hg6, _⟩ := hrow.full (by omega)
          injection e6 with e6 _ e7
          subst e6
          subst e7
          have hg9 : g9 < wr.heap.size := (World.ownsRow.lt (HZ.out.below hB).rz.rc g9 rfl).2
          obtain ⟨q0, q1, q2, q3, q4⟩ := hrow.at hx
          rw [hxs] at q1
          rw [hxa] at q2
          have b0 : (0 : Int) ≤ (kn : Int) := by omega
          have b1 : ¬ (kn : Int) < 0 := by omega
          have b2 : ¬ (came.length : Int) ≤ (kn : Int) := by omega
          have b3 : (kn : Int) < (came.length : Int) := by omega
          have d1 : decide ((kn : Int) < 0) = false := decide_eq_false b1
          have d2 : decide ((came.length : Int) ≤ (kn : Int)) = false := decide_eq_false b2
          have d3 : decide (came.length ≤ kn) = false := decide_eq_false (by omega)
          have HJ := Lib.hid (show j + 1 + g2 = o.length from by omega)
          have HEND := Lib.hid (fun ob q => SoRel.step hB hSn (Nat.le_refl _) hx hxs hkn ob q)
          have hway : j = 0 ∨ ∃ p yt ys : _, j = p + 1 ∧ wr.cell? ⟨g6, p * 5, none⟩ = some (.int .i64 yt) ∧ wr.cell? ⟨g6, p * 5 + 1, none⟩ = some (.int .i64 ys) ∧ (yt < x.t ∨ yt = x.t ∧ ys ≤ (kn : Int)) := by
            by_cases hj0 : j = 0
            · exact .inl hj0
            · right
              obtain ⟨p, rfl⟩ : ∃ p, j = p + 1 := ⟨j - 1, by omega⟩
              obtain ⟨y, hy⟩ : ∃ y, o[p]? = some y := ⟨_, List.getElem?_eq_getElem (by omega)⟩
              obtain ⟨v0, v1, _, _, _⟩ := hrow.at hy
              have hle := ord_at HZ.out.ord hy hx (Nat.lt_succ_self p)
              unfold LeI at hle
              rw [hxs] at hle
              exact ⟨p, y.t, y.s, rfl, v0, v1, hle⟩
          generalize x.t = xt at *
          generalize x.s = xs at *
          generalize x.a = xa at *
          generalize x.b = xb at *
          generalize x.c = xc at *
          have hjn9 : (j : Int) ≤ 100 := by omega
          clear hx hxk hxs hxa hns hrow hjg hB hSn hck hkn
          rcases hway with hj0 | ⟨p, yt, ys, hjp, v0, v1, hle⟩
          · have hj1 : ¬ (0 : Int) < (j : Int) := by omega
            have d4 : decide ((0 : Int) < (j : Int)) = false := decide_eq_false hj1
            have d4n : decide (0 < j) = false := decide_eq_false (by omega)
            clear hj0
            go_wp2
            go_quiet (fail)
            go_wp2
            go_roundg g2
            case measure => exact Nat.lt_succ_self g2
            case rel => first | exact ⟨j + 1, HJ.out, by go_num, (HEND.out _ _).1.1, (HEND.out _ _).1.2⟩ | exact ⟨j + 1, HJ.out, by go_num, (HEND.out _ _).2.1, (HEND.out _ _).2.2⟩
          · have hj1 : (0 : Int) < (j : Int) := by omega
            have r1 : (j : Int) - 1 = (p : Int) := by omega
            have r2 : (0 : Int) ≤ (p : Int) := by omega
            have r3 : (p : Int) < (o.length : Int) := by omega
            have r4 : (p : Int) ≤ 100 := by omega
            have d4 : decide ((0 : Int) < (j : Int)) = true := decide_eq_true hj1
            have d4n : decide (0 < j) = true := decide_eq_true (by omega)
            have hj0 : 0 < j := by omega
            have w1x : IntKind.i64.wrap ((j : Int) - 1) = (p : Int) := by rw [IntWalk.i64_in _ (by omega)]; omega
            rcases hle with hle | ⟨hle, hls⟩
            · have n1 : ¬ xt < yt := by omega
              have n2 : (yt == xt) = false := by rw [beq_eq_false_iff_ne]; omega
              have n3 : ¬ yt = xt := by omega
              have d5 : decide (xt < yt) = false := decide_eq_false n1
              clear hjp
              go_wp2
              go_quiet (fail)
              go_wp2
              go_roundg g2
              case measure => exact Nat.lt_succ_self g2
              case rel => first | exact ⟨j + 1, HJ.out, by go_num, (HEND.out _ _).1.1, (HEND.out _ _).1.2⟩ | exact ⟨j + 1, HJ.out, by go_num, (HEND.out _ _).2.1, (HEND.out _ _).2.2⟩
            · subst hle
              have n1 : ¬ yt < yt := by omega
              have n2 : ¬ (kn : Int) < ys := by omega
              have d5 : decide (yt < yt) = false := decide_eq_false n1
              have d6 : decide ((kn : Int) < ys) = false := decide_eq_false n2
              clear hjp
              go_wp2
              go_quiet (fail)
              go_wp2
              go_roundg g2
              case measure => exact Nat.lt_succ_self g2
              case rel => first | exact ⟨j + 1, HJ.out, by go_num, (HEND.out _ _).1.1, (HEND.out _ _).1.2⟩ | exact ⟨j + 1, HJ.out, by go_num, (HEND.out _ _).2.1, (HEND.out _ _).2.2⟩
    | succ g =>
      have hin : (i : Int) < (n : Int) := by omega
      have hiz : (0 : Int) ≤ (i : Int) := by omega
      obtain ⟨⟨k, t, ka, kb, kc⟩, ⟨⟨k0, k1⟩, ht, hka, hkb, hkc⟩, hcell⟩ := HEL.out i (by omega)
      obtain ⟨gg, og, rfl, c0, c1, c2, c3, c4⟩ := hcell (HB1.out.trans (hK.b.mono HB1.out.size))
      have HI := Lib.hid (show i + 1 + g = n from by omega)
      have HI9 := Lib.hid (show i ≤ 100 from by have := HN.out; omega)
      dsimp only at *
      have hX := hK.below ((Below.refl _ _).alloc (Nat.le_refl _) (.cells #[.int .u8 k, .int .i64 t, .int .i64 ka, .int .i64 kb, .int .i64 kc] 35))
      obtain ⟨m, hkm⟩ : ∃ m, k % 8 = m := ⟨_, rfl⟩
      have m0 : 0 ≤ m := by omega
      have m1 : m ≤ 7 := by omega
      by_cases h5 : 5 ≤ m
      · have cK := hX.take (by have := HI9.out; omega) HA.out.1 HA.out.2
        clear hK hcell hig ht hka hkb hkc hX m0 m1 hcn
        go_wp2_with (first
          | (go_at_call 17; (with_reducible refine cK.mono ?_); rintro e w3 ⟨A3, c3, out2, rfl, hF3⟩; have HF3 := Lib.hid hF3; clear hF3)
          | (at_builtin; refine wpList_app_items rfl (.tmp 39) (.tmp 41) rfl (B := w1.heap.size) (N := (wr.alloc (.cells #[.int .u8 k, .int .i64 t, .int .i64 ka, .int .i64 kb, .int .i64 kc] 35)).heap.size) rfl rfl (HF3.out.choose_spec.choose_spec.choose_spec.1.ro) (HF3.out.choose_spec.choose_spec.choose_spec.2.1) (by have := HF3.out.lens; have := HI9.out; omega) (HF3.out.choose_spec.choose_spec.choose_spec.1.rn.b.size) ?_; intro vo6 w6 hr6 hg6 hf6; have HFZ := Lib.hid (HF3.out.more hr6 hg6 hf6); clear hr6 hg6 hf6))
        go_roundg g
        case measure => exact Nat.lt_succ_self g
        case rel => exact ⟨i + 1, _, came, HI.out, by go_num, HFZ.out⟩
      by_cases h4 : m = 4
      · subst h4
        have cT := hX.tick t
        clear hK hcell hig ht hka hkb hkc hX m0 m1 hcn
        go_wp2_with (go_at_call 14; (with_reducible refine cT.mono ?_); rintro e w3 ⟨⟨c, rfl⟩, hN⟩; have HN3 := Lib.hid hN; clear hN)
        go_roundg g
        case measure => exact Nat.lt_succ_self g
        case rel => exact ⟨i + 1, _, came, HI.out, by go_num, HN3.out⟩
      have e4 : (m == 4) = false := by rw [beq_eq_false_iff_ne]; exact h4
      rcases hX.push (by have := HI9.out; omega) HA.out.1 HA.out.2 t with ⟨c, hc0, cP⟩ | cP
      · clear hK hcell hig ht hka hkb hkc hX hcn h4
        go_wp2_with (go_at_call 12; (with_reducible refine cP.mono ?_); rintro e w3 ⟨rfl, hN⟩; have HN3 := Lib.hid hN; clear hN)
        go_roundg g
        case measure => exact Nat.lt_succ_self g
        case rel => exact ⟨i + 1, _, came, HI.out, by go_num, HN3.out⟩
      · clear hK hcell hig ht hka hkb hkc hX hcn h4
        go_wp2_with (first
          | (go_at_call 12; (with_reducible refine cP.mono ?_); rintro e w3 ⟨rfl, hN, hKT⟩; have HN3 := Lib.hid hN; have p1 := Fb.cell (hKT wr.heap.size _ (Fb.new wr 35 #[.int .u8 k, .int .i64 t, .int .i64 ka, .int .i64 kb, .int .i64 kc])) 1; clear hN hKT)
          | (at_builtin; refine wpList_append_lies _ rfl (.tmp 59) (.tmp 62) 30 rfl w1.heap.size 3 iT (.int .i64 0) 1 8 Try.underlying30 hT0 hT1 hT2 hT3 rfl (by decide) (.slice AC came.length cC) came.length (came.map (Value.int .i64)) rfl (World.ownsRow.alloc HN3.out.rc _) ⟨w3.heap.size, 0, none⟩ 1 1 [.int .i64 t] rfl rfl (cell_one_new _ _ _) (fun u hu => by simp at hu; subst hu; rfl) (by decide) (by have := HCN.out; unfold maxLen; omega) (by have := HCN.out; omega) (by have := HN3.out.b.size; simp; omega) _ rfl ?_; intro g6 c6 w6 hown hgrow hloc hlt; have HTM := Lib.hid (HN3.out.time ((Below.refl _ _).alloc (Nat.le_refl _) _) (tm_of rfl hown) hgrow); clear hown hgrow hloc hlt))
        go_roundg g
        case measure => exact Nat.lt_succ_self g
        case rel => exact ⟨i + 1, _, came ++ [t], HI.out, by go_num, HTM.out⟩
end Go.Proofs.Ytophgpmjalpmaaa
