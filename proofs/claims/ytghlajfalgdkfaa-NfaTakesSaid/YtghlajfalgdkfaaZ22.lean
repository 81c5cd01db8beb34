/-
  MERGED (a claim has at most 60 files): NgFx.
-/
import Derived.Test.YtghlajfalgdkfaaZ19
/-
  Fix: nodes with the forms that they must have.
-/
namespace Go.Proofs.Ytghlajfalgdkfaa
open Go.RowKit
set_option linter.unusedVariables false
set_option linter.unusedSimpArgs false
set_option maxRecDepth 100000

def FyR (B : Nat) (w2 : World) (R : Nat) (K N q : Int) (len gk : Nat) (s39 : Value) (w : World) : Prop := ∃ (j : Nat) (sv : Value) (ds : List Int), j + gk = len ∧ s39 = .int .i64 (j : Int) ∧ ds.length = j ∧ BtR B w sv ds ∧ Fb w (R + 1) 48 #[.int .i64 K, .int .i64 N, sv] ∧ Below R w2 w ∧ (j = 0 ∨ (q ≠ 0 ∧ 2 ≤ K ∧ j ≤ 2 ∧ (3 < K → j ≤ 1))) ∧ ∀ d ∈ ds, 0 ≤ d ∧ d < q
theorem fx_end {W w7 w9 : World} {n i : Nat} {ns : List Nd} {ps : List Pa} {v v9 : Value} {p : Pa} {d : Nd} (hin : i < n) (hi8 : i < 8) (hlen : ns.length = i) (hl : ps.length = ns.length) (hrow : NdR W.heap.size w7 v ps) (hel : ∀ (j : Nat) (p : Pa) (nd : Nd), ps[j]? = some p → ns[j]? = some nd → p.kd = nd.k ∧ p.n = nd.n ∧ BtR W.heap.size w7 p.s nd.ds) (hg : w7.grownBy w9 v.ownBlock) (h9 : NdR W.heap.size w9 v9 (ps ++ [p])) (hp : p.kd = d.k ∧ p.n = d.n ∧ BtR W.heap.size w7 p.s d.ds) (hb : Below W.heap.size W w7) (hF : ∀ (j : Nat) (d : Nd), ns[j]? = some d → Fm (min n 8) j d) (hd : Fm (min n 8) i d) : FxR W n (n - (i + 1)) v9 (.int .i64 ((i : Int) + 1)) w9 := by
  refine ⟨i + 1, ns ++ [d], by omega, by omega, by rw [Int.natCast_add]; rfl, NdO.snoc hrow hl hel hg h9 hp, by simp [hlen], hb.grown hg hb.size (fun q hq => (row_lt hrow q hq).1), fun j d' hj => ?_⟩
  rcases Nat.lt_or_ge j ns.length with h | h
  · rw [List.getElem?_append_left h] at hj
    exact hF j d' hj
  · rw [List.getElem?_append_right h] at hj
    have h0 : j - ns.length = 0 := by
      have := (List.getElem?_eq_some_iff.1 hj).1
      simp at this; omega
    rw [h0] at hj
    simp at hj
    subst hj
    rw [show j = i by omega]
    exact hd
set_option maxHeartbeats 32000000 in
theorem fix_any {W : World} {A : Option Addr} {c n : Nat} (hl : NdI W A n) (hlc : n ≤ maxLen) :
    Calls Try.prog 12 #[.slice A n c] W (FxQ W n) := by
  have HL := Lib.hid hl
  have hmx : (n : Int) ≤ 9223372036854775807 := by unfold maxLen at hlc; omega
  have n0 : (0 : Int) ≤ (n : Int) := by omega
  clear hl hlc
  go_enter Try.func12, Try.ntmps12
  go_wp2
  go_loopg [3, 12] n (fun gk s3 s12 wr => FxR W n gk s3 s12 wr)
  case atStart => exact ⟨0, [], by omega, by omega, rfl, ⟨[], World.ownsRow_nil _ _ _ _, rfl, fun j p nd h => by simp at h⟩, rfl, Below.refl _ _, fun j d h => by simp at h⟩
  case round =>
    obtain ⟨i, ns, hi, hi8, rfl, hO, hlen, hb, hF⟩ := hrel
    obtain ⟨A3, c3, rfl⟩ := hO.shape
    rw [hlen] at hO ⊢
    have i0 : (0 : Int) ≤ (i : Int) := by omega
    have i8 : (i : Int) ≤ 8 := by omega
    by_cases hlt : i < n
    · obtain ⟨g, o, kd, nn, A', m', c', l', hA, hg, x0, x1, x2, hm, hm9, hByt, hB8, k1, k2, n1, n2⟩ := HL.out i hlt
      subst hA
      have x0' := cell_below x0 hb
      have x1' := cell_below x1 hb
      have x2' := cell_below x2 hb
      have j1 : (i : Int) < (n : Int) := by omega
      by_cases h8 : i = 8
      · have HE := Lib.hid (show FxQ W n (.returned (.slice A3 i c3)) (wr.alloc (.cells #[.int .i64 kd, .int .i64 nn, .slice A' m' c'] 48)) from ⟨_, ns, rfl, hO.below ((Below.refl _ _).alloc (Nat.le_refl _) _), by omega, hF, hb.alloc hb.size _⟩)
        have z5 : ((i : Int) == 8) = true := by rw [beq_iff_eq]; omega
        clear hi hi8 hO hlen hb hF hlt x0 x1 x2 hm9 hByt hB8 h8
        subst hm
        go_wp2
        go_ret
        exact HE.out
      · have z5 : ((i : Int) == 8) = false := by rw [beq_eq_false_iff_ne]; omega
        have mI : (m' : Int) ≤ 9223372036854775807 := by unfold maxLen at hm9; omega
        have mI0 : (0 : Int) ≤ (m' : Int) := by omega
        obtain ⟨ps, hrow, hpl, hel⟩ := hO
        obtain ⟨W2, hW2⟩ : ∃ W2, W2 = (wr.alloc (.cells #[.int .i64 kd, .int .i64 nn, .slice A' m' c'] 48)).alloc (.cells #[.int .i64 (wrap64 ((IntKind.u64.wrap kd).tmod 7)), .int .i64 (wrap64 ((IntKind.u64.wrap nn).tmod 4)), .slice none 0 0] 48) := ⟨_, rfl⟩
        have hbW2 : Below wr.heap.size wr W2 := by
          rw [hW2]
          exact ((Below.refl _ _).alloc (Nat.le_refl _) _).alloc (by simp) _
        have hF2 : Fb W2 (wr.heap.size + 1) 48 #[.int .i64 (wrap64 ((IntKind.u64.wrap kd).tmod 7)), .int .i64 (wrap64 ((IntKind.u64.wrap nn).tmod 4)), .slice none 0 0] := by
          have := Fb.new (wr.alloc (.cells #[.int .i64 kd, .int .i64 nn, .slice A' m' c'] 48)) 48 #[.int .i64 (wrap64 ((IntKind.u64.wrap kd).tmod 7)), .int .i64 (wrap64 ((IntKind.u64.wrap nn).tmod 4)), .slice none 0 0]
          rw [World.size_alloc] at this
          rw [hW2]; exact this
        have hk7 := k7 kd
        have hk4 := k4 nn
        obtain ⟨mp, hmp⟩ : ∃ mp, mp = m' := ⟨_, rfl⟩
        have HX := Lib.hid (And.intro hi (And.intro hi8 (And.intro hlen (And.intro hlt h8))))
        have HB := Lib.hid hb
        have HFo := Lib.hid hF
        have HP := Lib.hid (And.intro hrow (And.intro hpl hel))
        have HBt := Lib.hid (And.intro hm (And.intro hByt hB8))
        have HW2 := Lib.hid (And.intro hbW2 hF2)
        have HK := Lib.hid (And.intro hk7 hk4)
        have Hmp := Lib.hid hmp
        clear hi hi8 hlen hb hF hlt x0 x1 x2 hm9 hByt hB8 h8 hrow hpl hel hm hbW2 hF2 hk7 hk4 hmp
        go_wp2
        rw [← hW2]
        clear hW2
        obtain ⟨K, hKe⟩ : ∃ K, K = wrap64 ((IntKind.u64.wrap kd).tmod 7) := ⟨_, rfl⟩
        obtain ⟨N, hNe⟩ : ∃ N, N = wrap64 ((IntKind.u64.wrap nn).tmod 4) := ⟨_, rfl⟩
        obtain ⟨q, hqe⟩ : ∃ q, q = min (n : Int) 8 - (i : Int) - 1 := ⟨_, rfl⟩
        have HK' := HK.out
        have HW2' := HW2.out
        rw [← hKe, ← hNe] at HK' HW2'
        rw [← hKe, ← hNe, ← hqe]
        have K0 : 0 ≤ K := HK'.1.1
        have K6 : K ≤ 6 := HK'.1.2
        have N0 : 0 ≤ N := HK'.2.1
        have N3 : N ≤ 3 := HK'.2.2
        have q0 : 0 ≤ q := by have := HX.out.2.2.2.1; have := HX.out.2.2.2.2; have := HX.out.2.1; omega
        have q8 : q ≤ 7 := by omega
        have HQ := Lib.hid hqe
        have HI0 := Lib.hid (show FyR wr.heap.size W2 wr.heap.size K N q m' m' (.int .i64 0) W2 from ⟨0, _, [], by omega, rfl, rfl, World.ownsRow_nil _ _ _ _, HW2'.2, Below.refl _ _, .inl rfl, fun d h => by cases h⟩)
        have HRW := Lib.hid (show Below wr.heap.size wr W2 from HW2'.1)
        clear HK HK' HW2 HW2' hKe hNe hqe x0' x1' x2' k1 k2 n1 n2
        obtain ⟨R, hR⟩ : ∃ R, R = wr.heap.size := ⟨_, rfl⟩
        have HRe := Lib.hid hR
        rw [← hR] at HI0 HRW ⊢
        clear hR
        obtain ⟨wo, hwo⟩ : ∃ wo, wo = wr := ⟨_, rfl⟩
        rw [← hwo] at HB HP HRW HRe
        clear hwo
        go_loopg [39] m' (fun gk s39 w => FyR R W2 R K N q m' gk s39 w)
        case atStart => exact HI0.out
        case round =>
          obtain ⟨j, sv, ds, hj, rfl, hdl, hsv, hF6, hb6, hinv, hds⟩ := hrel
          obtain ⟨A6, c6, rfl, _⟩ := row_shape hsv
          have HF6 := Lib.hid hF6
          have HB6 := Lib.hid hb6
          have HS6 := Lib.hid (And.intro hsv hds)
          have j0 : (0 : Int) ≤ (j : Int) := by omega
          have y0 := hF6.cell 0
          have y1 := hF6.cell 1
          have y2 := hF6.cell 2
          rw [hdl] at y2 HF6 HS6
          have HJ := Lib.hid (And.intro hj hinv)
          have HDl := Lib.hid hdl
          clear hj hdl hsv hF6 hb6 hinv hds
          by_cases hjl : j < m'
          · obtain ⟨x, hx⟩ : ∃ x, l'[j]? = some x := ⟨_, List.getElem?_eq_getElem (by have := HBt.out.1; omega)⟩
            obtain ⟨g', o', hA', hg', hcell⟩ := HBt.out.2.1 j x hx
            subst hA'
            have hbo : Below wo.heap.size wo wr := by
              have := HRW.out.trans HB6.out
              rw [HRe.out] at this
              exact this
            have hcell' := cell_below hcell (HB.out.trans (hbo.mono HB.out.size))
            obtain ⟨x0, x1⟩ := HBt.out.2.2 x (List.mem_of_getElem? hx)
            have z1 : (j : Int) < (m' : Int) := by omega
            have j8 : (j : Int) ≤ 2 := by have := HJ.out.2; omega
            have HJL := Lib.hid hjl
            clear hx hg' hcell hjl hbo
            by_cases hq : q = 0
            · have z2 : (q == 0) = true := beq_iff_eq.2 hq
              have hj0 : j = 0 := by have := HJ.out.2; omega
              subst hj0
              have hcell0 : wr.cell? ⟨g', o', none⟩ = some (.int .u8 x) := hcell'
              clear hq
              by_cases hk1 : 1 < K
              · have z4 : 1 < K := hk1
                have y3 := HF6.out.free 0
                have HKm := Lib.hid (show 0 ≤ K % 2 ∧ K % 2 ≤ 1 by omega)
                obtain ⟨w7, hw7⟩ : ∃ w7, w7 = (wr.setCell ⟨R + 1, 0, none⟩ (.int .i64 (K % 2))).alloc (.cells #[.int .i64 (K % 2), .int .i64 N, .slice A6 0 c6] 48) := ⟨_, rfl⟩
                have hbo7 : Below R wo w7 := by
                  rw [hw7]
                  have h1 := HRW.out.trans HB6.out
                  exact (h1.setCell (show R ≤ (⟨R + 1, 0, none⟩ : Addr).block from Nat.le_succ R) _).alloc (by rw [World.size_setCell]; have := h1.size; have := HRe.out; omega) _
                rw [HRe.out] at hbo7
                have hb7 : Below W.heap.size W w7 := HB.out.trans (hbo7.mono HB.out.size)
                have hkeep : ∀ (v : Value) (es : List Int), BtR W.heap.size wr v es → BtR W.heap.size w7 v es := fun v es h => row_keep h fun k hk => by
                  obtain ⟨cs, hc⟩ := row_type h hk
                  rw [hw7]
                  exact (heap_alloc_old _ _ (by rw [World.size_setCell]; exact hc.lt)).trans (heap_setCell_other _ _ _ _ (by
                    have := hc.nt HF6.out (by decide)
                    simpa using this))
                have hnew : NdR W.heap.size w7 (.slice (some ⟨wr.heap.size, 0, none⟩) 1 1) [⟨(K % 2), N, .slice A6 0 c6⟩] := by
                  rw [hw7]
                  rw [← World.size_setCell wr ⟨R + 1, 0, none⟩ (.int .i64 (K % 2))]
                  exact World.ownsRow_lit (base := W.heap.size) (e := 48) (size := 3) (wr.setCell ⟨R + 1, 0, none⟩ (.int .i64 (K % 2))) #[.int .i64 (K % 2), .int .i64 N, .slice A6 0 c6] 1 (by rw [World.size_setCell]; have := HB.out.size; have := (HRW.out.trans HB6.out).size; have := HRe.out; omega) (by unfold maxLen; omega) rfl
                have HEnd := Lib.hid (fun (v9 : Value) (w9 : World) (hg : w7.grownBy w9 (Value.slice A3 i c3).ownBlock) (h9 : NdR W.heap.size w9 v9 (ps ++ [⟨(K % 2), N, .slice A6 0 c6⟩])) => fx_end (d := ⟨(K % 2), N, []⟩) HX.out.2.2.2.1 (by have := HX.out.2.1; have := HX.out.2.2.2.2; omega) HX.out.2.2.1 HP.out.2.1 (row_below HP.out.1 hbo7) (fun j p nd a b => ⟨(HP.out.2.2 j p nd a b).1, (HP.out.2.2 j p nd a b).2.1, row_below (HP.out.2.2 j p nd a b).2.2 hbo7⟩) hg h9 ⟨rfl, rfl, hkeep _ _ ((by have := row_mono HS6.out.1 (show W.heap.size ≤ R by have := HB.out.size; have := HRe.out; omega); rw [List.length_eq_zero_iff.1 HDl.out] at this; exact this))⟩ hb7 HFo.out
                  ⟨(by have := HKm.out; dsimp only; omega), ⟨N0, N3⟩, (by simp), (fun _ => rfl), (fun h => by have := HKm.out; dsimp only at h; omega), (fun h => by simp), (fun x hx => by cases hx)⟩)
                have HRow := Lib.hid (show NdR W.heap.size w7 (.slice A3 i c3) ps from row_below HP.out.1 hbo7)
                have HNew := Lib.hid hnew
                have HSz := Lib.hid hb7.size
                have HPl := Lib.hid (show ps.length ≤ 1000 by have := HP.out.2.1; have := HX.out.2.2.1; have := HX.out.2.1; omega)
                clear hnew hb7 hbo7 hkeep HF6 HB6 HS6 HFo HP HL HI0 HBt HRW
                subst hw7
                go_wp2_with (at_builtin; refine wpl_app_n rfl _ _ rfl rfl rfl HRow.out HNew.out HSz.out HPl.out rfl ?_; intro A9 n9 c9 w9 hn9 hr9 hg9 hq9; have HE := Lib.hid (HEnd.out _ _ hg9 hr9); clear hn9 hr9 hg9 hq9)
                go_roundg (n - (i + 1))
                case measure => have := HX.out; omega
                case rel => exact HE.out
              · have z4 : ¬ (1 < K) := hk1
                have HKm := Lib.hid (show 0 ≤ K % 2 ∧ K % 2 ≤ 1 by omega)
                obtain ⟨w7, hw7⟩ : ∃ w7, w7 = wr.alloc (.cells #[.int .i64 K, .int .i64 N, .slice A6 0 c6] 48) := ⟨_, rfl⟩
                have hbo7 : Below R wo w7 := by
                  rw [hw7]
                  have h1 := HRW.out.trans HB6.out
                  exact h1.alloc (by have := h1.size; have := HRe.out; omega) _
                rw [HRe.out] at hbo7
                have hb7 : Below W.heap.size W w7 := HB.out.trans (hbo7.mono HB.out.size)
                have hkeep : ∀ (v : Value) (es : List Int), BtR W.heap.size wr v es → BtR W.heap.size w7 v es := fun v es h => row_keep h fun k hk => by
                  obtain ⟨cs, hc⟩ := row_type h hk
                  rw [hw7]
                  exact heap_alloc_old _ _ hc.lt
                have hnew : NdR W.heap.size w7 (.slice (some ⟨wr.heap.size, 0, none⟩) 1 1) [⟨K, N, .slice A6 0 c6⟩] := by
                  rw [hw7]
                  exact World.ownsRow_lit (base := W.heap.size) (e := 48) (size := 3) wr #[.int .i64 K, .int .i64 N, .slice A6 0 c6] 1 (by have := HB.out.size; have := (HRW.out.trans HB6.out).size; have := HRe.out; omega) (by unfold maxLen; omega) rfl
                have HEnd := Lib.hid (fun (v9 : Value) (w9 : World) (hg : w7.grownBy w9 (Value.slice A3 i c3).ownBlock) (h9 : NdR W.heap.size w9 v9 (ps ++ [⟨K, N, .slice A6 0 c6⟩])) => fx_end (d := ⟨K, N, []⟩) HX.out.2.2.2.1 (by have := HX.out.2.1; have := HX.out.2.2.2.2; omega) HX.out.2.2.1 HP.out.2.1 (row_below HP.out.1 hbo7) (fun j p nd a b => ⟨(HP.out.2.2 j p nd a b).1, (HP.out.2.2 j p nd a b).2.1, row_below (HP.out.2.2 j p nd a b).2.2 hbo7⟩) hg h9 ⟨rfl, rfl, hkeep _ _ ((by have := row_mono HS6.out.1 (show W.heap.size ≤ R by have := HB.out.size; have := HRe.out; omega); rw [List.length_eq_zero_iff.1 HDl.out] at this; exact this))⟩ hb7 HFo.out
                  ⟨⟨K0, K6⟩, ⟨N0, N3⟩, (by simp), (fun _ => rfl), (fun h => by dsimp only at h; omega), (fun h => by simp), (fun x hx => by cases hx)⟩)
                have HRow := Lib.hid (show NdR W.heap.size w7 (.slice A3 i c3) ps from row_below HP.out.1 hbo7)
                have HNew := Lib.hid hnew
                have HSz := Lib.hid hb7.size
                have HPl := Lib.hid (show ps.length ≤ 1000 by have := HP.out.2.1; have := HX.out.2.2.1; have := HX.out.2.1; omega)
                clear hnew hb7 hbo7 hkeep HF6 HB6 HS6 HFo HP HL HI0 HBt HRW
                subst hw7
                go_wp2_with (at_builtin; refine wpl_app_n rfl _ _ rfl rfl rfl HRow.out HNew.out HSz.out HPl.out rfl ?_; intro A9 n9 c9 w9 hn9 hr9 hg9 hq9; have HE := Lib.hid (HEnd.out _ _ hg9 hr9); clear hn9 hr9 hg9 hq9)
                go_roundg (n - (i + 1))
                case measure => have := HX.out; omega
                case rel => exact HE.out
            · have z2 : (q == 0) = false := beq_eq_false_iff_ne.2 hq
              have HQ0 := Lib.hid hq
              clear hq
              by_cases hj2 : j = 2
              · have z3 : ((j : Int) == 2) = true := by rw [beq_iff_eq]; omega
                have z0 : ((j : Int) == 0) = false := by rw [beq_eq_false_iff_ne]; omega
                have hj0 : ¬ j = 0 := by omega
                clear hj2
                have HKm := Lib.hid (show 0 ≤ K % 2 ∧ K % 2 ≤ 1 by omega)
                obtain ⟨w7, hw7⟩ : ∃ w7, w7 = wr.alloc (.cells #[.int .i64 K, .int .i64 N, .slice A6 j c6] 48) := ⟨_, rfl⟩
                have hbo7 : Below R wo w7 := by
                  rw [hw7]
                  have h1 := HRW.out.trans HB6.out
                  exact h1.alloc (by have := h1.size; have := HRe.out; omega) _
                rw [HRe.out] at hbo7
                have hb7 : Below W.heap.size W w7 := HB.out.trans (hbo7.mono HB.out.size)
                have hkeep : ∀ (v : Value) (es : List Int), BtR W.heap.size wr v es → BtR W.heap.size w7 v es := fun v es h => row_keep h fun k hk => by
                  obtain ⟨cs, hc⟩ := row_type h hk
                  rw [hw7]
                  exact heap_alloc_old _ _ hc.lt
                have hnew : NdR W.heap.size w7 (.slice (some ⟨wr.heap.size, 0, none⟩) 1 1) [⟨K, N, .slice A6 j c6⟩] := by
                  rw [hw7]
                  exact World.ownsRow_lit (base := W.heap.size) (e := 48) (size := 3) wr #[.int .i64 K, .int .i64 N, .slice A6 j c6] 1 (by have := HB.out.size; have := (HRW.out.trans HB6.out).size; have := HRe.out; omega) (by unfold maxLen; omega) rfl
                have HEnd := Lib.hid (fun (v9 : Value) (w9 : World) (hg : w7.grownBy w9 (Value.slice A3 i c3).ownBlock) (h9 : NdR W.heap.size w9 v9 (ps ++ [⟨K, N, .slice A6 j c6⟩])) => fx_end (d := ⟨K, N, ds⟩) HX.out.2.2.2.1 (by have := HX.out.2.1; have := HX.out.2.2.2.2; omega) HX.out.2.2.1 HP.out.2.1 (row_below HP.out.1 hbo7) (fun j p nd a b => ⟨(HP.out.2.2 j p nd a b).1, (HP.out.2.2 j p nd a b).2.1, row_below (HP.out.2.2 j p nd a b).2.2 hbo7⟩) hg h9 ⟨rfl, rfl, hkeep _ _ ((show BtR W.heap.size wr (.slice A6 j c6) ds from row_mono HS6.out.1 (by have := HB.out.size; have := HRe.out; omega)))⟩ hb7 HFo.out
                  ⟨⟨K0, K6⟩, ⟨N0, N3⟩, (by have := HDl.out; have := HJ.out.2; dsimp only; omega), (fun h => by have := HJ.out.2; dsimp only at h; omega), (fun h e => by have := HDl.out; dsimp only at e; rw [e] at this; simp at this; omega), (fun h => by have := HDl.out; have := HJ.out.2; dsimp only at h ⊢; omega), (fun x hx => by have := HS6.out.2 x hx; have := HQ.out; have := HX.out.2.2.2.1; omega)⟩)
                have HRow := Lib.hid (show NdR W.heap.size w7 (.slice A3 i c3) ps from row_below HP.out.1 hbo7)
                have HNew := Lib.hid hnew
                have HSz := Lib.hid hb7.size
                have HPl := Lib.hid (show ps.length ≤ 1000 by have := HP.out.2.1; have := HX.out.2.2.1; have := HX.out.2.1; omega)
                clear hnew hb7 hbo7 hkeep HF6 HB6 HS6 HFo HP HL HI0 HBt HRW
                subst hw7
                go_wp2_with (at_builtin; refine wpl_app_n rfl _ _ rfl rfl rfl HRow.out HNew.out HSz.out HPl.out rfl ?_; intro A9 n9 c9 w9 hn9 hr9 hg9 hq9; have HE := Lib.hid (HEnd.out _ _ hg9 hr9); clear hn9 hr9 hg9 hq9)
                go_roundg (n - (i + 1))
                case measure => have := HX.out; omega
                case rel => exact HE.out
              · have z3 : ((j : Int) == 2) = false := by rw [beq_eq_false_iff_ne]; omega
                by_cases hk3 : 3 < K
                · by_cases hj1 : j = 1
                  · have z6 : ((j : Int) == 1) = true := by rw [beq_iff_eq]; omega
                    have z0 : ((j : Int) == 0) = false := by rw [beq_eq_false_iff_ne]; omega
                    have hj0 : ¬ j = 0 := by omega
                    clear hj1 hj2
                    have HKm := Lib.hid (show 0 ≤ K % 2 ∧ K % 2 ≤ 1 by omega)
                    obtain ⟨w7, hw7⟩ : ∃ w7, w7 = wr.alloc (.cells #[.int .i64 K, .int .i64 N, .slice A6 j c6] 48) := ⟨_, rfl⟩
                    have hbo7 : Below R wo w7 := by
                      rw [hw7]
                      have h1 := HRW.out.trans HB6.out
                      exact h1.alloc (by have := h1.size; have := HRe.out; omega) _
                    rw [HRe.out] at hbo7
                    have hb7 : Below W.heap.size W w7 := HB.out.trans (hbo7.mono HB.out.size)
                    have hkeep : ∀ (v : Value) (es : List Int), BtR W.heap.size wr v es → BtR W.heap.size w7 v es := fun v es h => row_keep h fun k hk => by
                      obtain ⟨cs, hc⟩ := row_type h hk
                      rw [hw7]
                      exact heap_alloc_old _ _ hc.lt
                    have hnew : NdR W.heap.size w7 (.slice (some ⟨wr.heap.size, 0, none⟩) 1 1) [⟨K, N, .slice A6 j c6⟩] := by
                      rw [hw7]
                      exact World.ownsRow_lit (base := W.heap.size) (e := 48) (size := 3) wr #[.int .i64 K, .int .i64 N, .slice A6 j c6] 1 (by have := HB.out.size; have := (HRW.out.trans HB6.out).size; have := HRe.out; omega) (by unfold maxLen; omega) rfl
                    have HEnd := Lib.hid (fun (v9 : Value) (w9 : World) (hg : w7.grownBy w9 (Value.slice A3 i c3).ownBlock) (h9 : NdR W.heap.size w9 v9 (ps ++ [⟨K, N, .slice A6 j c6⟩])) => fx_end (d := ⟨K, N, ds⟩) HX.out.2.2.2.1 (by have := HX.out.2.1; have := HX.out.2.2.2.2; omega) HX.out.2.2.1 HP.out.2.1 (row_below HP.out.1 hbo7) (fun j p nd a b => ⟨(HP.out.2.2 j p nd a b).1, (HP.out.2.2 j p nd a b).2.1, row_below (HP.out.2.2 j p nd a b).2.2 hbo7⟩) hg h9 ⟨rfl, rfl, hkeep _ _ ((show BtR W.heap.size wr (.slice A6 j c6) ds from row_mono HS6.out.1 (by have := HB.out.size; have := HRe.out; omega)))⟩ hb7 HFo.out
                      ⟨⟨K0, K6⟩, ⟨N0, N3⟩, (by have := HDl.out; have := HJ.out.2; dsimp only; omega), (fun h => by have := HJ.out.2; dsimp only at h; omega), (fun h e => by have := HDl.out; dsimp only at e; rw [e] at this; simp at this; omega), (fun h => by have := HDl.out; have := HJ.out.2; dsimp only at h ⊢; omega), (fun x hx => by have := HS6.out.2 x hx; have := HQ.out; have := HX.out.2.2.2.1; omega)⟩)
                    have HRow := Lib.hid (show NdR W.heap.size w7 (.slice A3 i c3) ps from row_below HP.out.1 hbo7)
                    have HNew := Lib.hid hnew
                    have HSz := Lib.hid hb7.size
                    have HPl := Lib.hid (show ps.length ≤ 1000 by have := HP.out.2.1; have := HX.out.2.2.1; have := HX.out.2.1; omega)
                    clear hnew hb7 hbo7 hkeep HF6 HB6 HS6 HFo HP HL HI0 HBt HRW
                    subst hw7
                    go_wp2_with (at_builtin; refine wpl_app_n rfl _ _ rfl rfl rfl HRow.out HNew.out HSz.out HPl.out rfl ?_; intro A9 n9 c9 w9 hn9 hr9 hg9 hq9; have HE := Lib.hid (HEnd.out _ _ hg9 hr9); clear hn9 hr9 hg9 hq9)
                    go_roundg (n - (i + 1))
                    case measure => have := HX.out; omega
                    case rel => exact HE.out
                  · have z6 : ((j : Int) == 1) = false := by rw [beq_eq_false_iff_ne]; omega
                    have hk2 : ¬ (K < 2) := by omega
                    have HIn : Hid (j + 1 ≤ 2 ∧ (3 < K → j + 1 ≤ 1)) := Lib.hid (by have := HJ.out.2; omega)
                    clear hj1 hj2
                    have y3 := HF6.out.free 2
                    obtain ⟨V, hV⟩ : ∃ V, V = x % q := ⟨_, rfl⟩
                    have hV0 : 0 ≤ V := by rw [hV]; exact Int.emod_nonneg _ HQ0.out
                    have hVq : V < q := by rw [hV]; exact Int.emod_lt_of_pos _ (by have := HQ0.out; omega)
                    have HV := Lib.hid (And.intro hV0 hVq)
                    have e1 : IntKind.i64.wrap x = x := IntWalk.i64_in _ (by omega)
                    have e2 : x.tmod q = V := by rw [hV]; exact Int.tmod_eq_emod_of_nonneg x0
                    have e3 : IntKind.u8.wrap V = V := by simp [IntKind.wrap, IntKind.signed, IntKind.bits]; omega
                    have hmin : min q 8 = q := by omega
                    have zq : ¬ q = 0 := HQ0.out
                    have HRs : Hid (R ≤ wr.heap.size) := Lib.hid (by have := (HRW.out.trans HB6.out).size; have := HRe.out; omega)
                    have HL9 : Hid (ds.length ≤ 1000) := Lib.hid (by have := HDl.out; omega)
                    have HK2 : Hid (2 ≤ K) := Lib.hid (by omega)
                    clear hV hV0 hVq
                    have y5 : (wr.alloc (.cells #[.int .u8 V] 5)).cell? ⟨R + 1, 2, none⟩ = some (.slice A6 j c6) := cell_below y2 ((Below.refl _ _).alloc (Nat.le_refl _) _)
                    go_wp2
                    go_region_law (first
                      | (refine step_app_b rfl _ _ (by rfl) HDl.out (by rfl) (by rfl) HS6.out.1 HF6.out (by first | exact (((Below.refl _ _).alloc (Nat.le_refl _) _).drew) | exact ((((Below.refl _ _).alloc (Nat.le_refl _) _).drew).drew) | exact ((((Below.refl _ _).drew).alloc (Nat.le_refl _) _).drew) | exact ((Below.refl _ _).alloc (Nat.le_refl _) _)) ((Fb.new _ _ _).cell 0) HRs.out HL9.out ?_; intro A8 c8 w8 hr8 hf8 hb8; have v2 := hf8.cell 2; have v3 := hf8.free 2; have HR8 := Lib.hid hr8; have HF8 := Lib.hid hf8; have HB8 := Lib.hid hb8; clear hr8 hf8 hb8))
                    all_goals
                      go_wp2
                      go_roundg (m' - (j + 1))
                      case measure => have := HJ.out.1; have := HJL.out; omega
                      case rel =>
                        refine ⟨j + 1, _, ds ++ [V], by have := HJ.out.1; have := HJL.out; omega, by rw [Int.natCast_add]; rfl, by have := HDl.out; simp; omega, row_keep HR8.out (fun k hk => heap_setCell_other _ _ _ _ (by
                          obtain ⟨cs, hc⟩ := row_type HR8.out hk
                          have := hc.nt HF8.out (by decide)
                          simpa using this)), HF8.out.set 2 _, HB6.out.trans ?_, .inr ⟨HQ0.out, HK2.out, HIn.out⟩, fun d hd => ?_⟩
                        · exact HB8.out.setCell (show R ≤ (⟨R + 1, 2, none⟩ : Addr).block from Nat.le_succ R) _
                        · rcases List.mem_append.1 hd with hd | hd
                          · exact HS6.out.2 d hd
                          · rw [List.mem_singleton.1 hd]; exact HV.out
                · by_cases hk2 : K < 2
                  · have hj0 : j = 0 := by have := HJ.out.2; omega
                    have hk1 : ¬ (1 < K) := by omega
                    subst hj0
                    have hcell0 : wr.cell? ⟨g', o', none⟩ = some (.int .u8 x) := hcell'
                    clear hj2
                    have z4 : ¬ (1 < K) := hk1
                    have HKm := Lib.hid (show 0 ≤ K % 2 ∧ K % 2 ≤ 1 by omega)
                    obtain ⟨w7, hw7⟩ : ∃ w7, w7 = wr.alloc (.cells #[.int .i64 K, .int .i64 N, .slice A6 0 c6] 48) := ⟨_, rfl⟩
                    have hbo7 : Below R wo w7 := by
                      rw [hw7]
                      have h1 := HRW.out.trans HB6.out
                      exact h1.alloc (by have := h1.size; have := HRe.out; omega) _
                    rw [HRe.out] at hbo7
                    have hb7 : Below W.heap.size W w7 := HB.out.trans (hbo7.mono HB.out.size)
                    have hkeep : ∀ (v : Value) (es : List Int), BtR W.heap.size wr v es → BtR W.heap.size w7 v es := fun v es h => row_keep h fun k hk => by
                      obtain ⟨cs, hc⟩ := row_type h hk
                      rw [hw7]
                      exact heap_alloc_old _ _ hc.lt
                    have hnew : NdR W.heap.size w7 (.slice (some ⟨wr.heap.size, 0, none⟩) 1 1) [⟨K, N, .slice A6 0 c6⟩] := by
                      rw [hw7]
                      exact World.ownsRow_lit (base := W.heap.size) (e := 48) (size := 3) wr #[.int .i64 K, .int .i64 N, .slice A6 0 c6] 1 (by have := HB.out.size; have := (HRW.out.trans HB6.out).size; have := HRe.out; omega) (by unfold maxLen; omega) rfl
                    have HEnd := Lib.hid (fun (v9 : Value) (w9 : World) (hg : w7.grownBy w9 (Value.slice A3 i c3).ownBlock) (h9 : NdR W.heap.size w9 v9 (ps ++ [⟨K, N, .slice A6 0 c6⟩])) => fx_end (d := ⟨K, N, []⟩) HX.out.2.2.2.1 (by have := HX.out.2.1; have := HX.out.2.2.2.2; omega) HX.out.2.2.1 HP.out.2.1 (row_below HP.out.1 hbo7) (fun j p nd a b => ⟨(HP.out.2.2 j p nd a b).1, (HP.out.2.2 j p nd a b).2.1, row_below (HP.out.2.2 j p nd a b).2.2 hbo7⟩) hg h9 ⟨rfl, rfl, hkeep _ _ ((by have := row_mono HS6.out.1 (show W.heap.size ≤ R by have := HB.out.size; have := HRe.out; omega); rw [List.length_eq_zero_iff.1 HDl.out] at this; exact this))⟩ hb7 HFo.out
                      ⟨⟨K0, K6⟩, ⟨N0, N3⟩, (by simp), (fun _ => rfl), (fun h => by dsimp only at h; omega), (fun h => by simp), (fun x hx => by cases hx)⟩)
                    have HRow := Lib.hid (show NdR W.heap.size w7 (.slice A3 i c3) ps from row_below HP.out.1 hbo7)
                    have HNew := Lib.hid hnew
                    have HSz := Lib.hid hb7.size
                    have HPl := Lib.hid (show ps.length ≤ 1000 by have := HP.out.2.1; have := HX.out.2.2.1; have := HX.out.2.1; omega)
                    clear hnew hb7 hbo7 hkeep HF6 HB6 HS6 HFo HP HL HI0 HBt HRW
                    subst hw7
                    go_wp2_with (at_builtin; refine wpl_app_n rfl _ _ rfl rfl rfl HRow.out HNew.out HSz.out HPl.out rfl ?_; intro A9 n9 c9 w9 hn9 hr9 hg9 hq9; have HE := Lib.hid (HEnd.out _ _ hg9 hr9); clear hn9 hr9 hg9 hq9)
                    go_roundg (n - (i + 1))
                    case measure => have := HX.out; omega
                    case rel => exact HE.out
                  · have HIn : Hid (j + 1 ≤ 2 ∧ (3 < K → j + 1 ≤ 1)) := Lib.hid (by have := HJ.out.2; omega)
                    clear hj2
                    have y3 := HF6.out.free 2
                    obtain ⟨V, hV⟩ : ∃ V, V = x % q := ⟨_, rfl⟩
                    have hV0 : 0 ≤ V := by rw [hV]; exact Int.emod_nonneg _ HQ0.out
                    have hVq : V < q := by rw [hV]; exact Int.emod_lt_of_pos _ (by have := HQ0.out; omega)
                    have HV := Lib.hid (And.intro hV0 hVq)
                    have e1 : IntKind.i64.wrap x = x := IntWalk.i64_in _ (by omega)
                    have e2 : x.tmod q = V := by rw [hV]; exact Int.tmod_eq_emod_of_nonneg x0
                    have e3 : IntKind.u8.wrap V = V := by simp [IntKind.wrap, IntKind.signed, IntKind.bits]; omega
                    have hmin : min q 8 = q := by omega
                    have zq : ¬ q = 0 := HQ0.out
                    have HRs : Hid (R ≤ wr.heap.size) := Lib.hid (by have := (HRW.out.trans HB6.out).size; have := HRe.out; omega)
                    have HL9 : Hid (ds.length ≤ 1000) := Lib.hid (by have := HDl.out; omega)
                    have HK2 : Hid (2 ≤ K) := Lib.hid (by omega)
                    clear hV hV0 hVq
                    have y5 : (wr.alloc (.cells #[.int .u8 V] 5)).cell? ⟨R + 1, 2, none⟩ = some (.slice A6 j c6) := cell_below y2 ((Below.refl _ _).alloc (Nat.le_refl _) _)
                    go_wp2
                    go_region_law (first
                      | (refine step_app_b rfl _ _ (by rfl) HDl.out (by rfl) (by rfl) HS6.out.1 HF6.out (by first | exact (((Below.refl _ _).alloc (Nat.le_refl _) _).drew) | exact ((((Below.refl _ _).alloc (Nat.le_refl _) _).drew).drew) | exact ((((Below.refl _ _).drew).alloc (Nat.le_refl _) _).drew) | exact ((Below.refl _ _).alloc (Nat.le_refl _) _)) ((Fb.new _ _ _).cell 0) HRs.out HL9.out ?_; intro A8 c8 w8 hr8 hf8 hb8; have v2 := hf8.cell 2; have v3 := hf8.free 2; have HR8 := Lib.hid hr8; have HF8 := Lib.hid hf8; have HB8 := Lib.hid hb8; clear hr8 hf8 hb8))
                    all_goals
                      go_wp2
                      go_roundg (m' - (j + 1))
                      case measure => have := HJ.out.1; have := HJL.out; omega
                      case rel =>
                        refine ⟨j + 1, _, ds ++ [V], by have := HJ.out.1; have := HJL.out; omega, by rw [Int.natCast_add]; rfl, by have := HDl.out; simp; omega, row_keep HR8.out (fun k hk => heap_setCell_other _ _ _ _ (by
                          obtain ⟨cs, hc⟩ := row_type HR8.out hk
                          have := hc.nt HF8.out (by decide)
                          simpa using this)), HF8.out.set 2 _, HB6.out.trans ?_, .inr ⟨HQ0.out, HK2.out, HIn.out⟩, fun d hd => ?_⟩
                        · exact HB8.out.setCell (show R ≤ (⟨R + 1, 2, none⟩ : Addr).block from Nat.le_succ R) _
                        · rcases List.mem_append.1 hd with hd | hd
                          · exact HS6.out.2 d hd
                          · rw [List.mem_singleton.1 hd]; exact HV.out
          · have z1 : ¬ ((j : Int) < (m' : Int)) := by omega
            have j8 : (j : Int) ≤ 2 := by have := HJ.out.2; omega
            by_cases hj0 : j = 0
            · subst hj0
              by_cases hk1 : 1 < K
              · have z4 : 1 < K := hk1
                have y3 := HF6.out.free 0
                have HKm := Lib.hid (show 0 ≤ K % 2 ∧ K % 2 ≤ 1 by omega)
                obtain ⟨w7, hw7⟩ : ∃ w7, w7 = (wr.setCell ⟨R + 1, 0, none⟩ (.int .i64 (K % 2))).alloc (.cells #[.int .i64 (K % 2), .int .i64 N, .slice A6 0 c6] 48) := ⟨_, rfl⟩
                have hbo7 : Below R wo w7 := by
                  rw [hw7]
                  have h1 := HRW.out.trans HB6.out
                  exact (h1.setCell (show R ≤ (⟨R + 1, 0, none⟩ : Addr).block from Nat.le_succ R) _).alloc (by rw [World.size_setCell]; have := h1.size; have := HRe.out; omega) _
                rw [HRe.out] at hbo7
                have hb7 : Below W.heap.size W w7 := HB.out.trans (hbo7.mono HB.out.size)
                have hkeep : ∀ (v : Value) (es : List Int), BtR W.heap.size wr v es → BtR W.heap.size w7 v es := fun v es h => row_keep h fun k hk => by
                  obtain ⟨cs, hc⟩ := row_type h hk
                  rw [hw7]
                  exact (heap_alloc_old _ _ (by rw [World.size_setCell]; exact hc.lt)).trans (heap_setCell_other _ _ _ _ (by
                    have := hc.nt HF6.out (by decide)
                    simpa using this))
                have hnew : NdR W.heap.size w7 (.slice (some ⟨wr.heap.size, 0, none⟩) 1 1) [⟨(K % 2), N, .slice A6 0 c6⟩] := by
                  rw [hw7]
                  rw [← World.size_setCell wr ⟨R + 1, 0, none⟩ (.int .i64 (K % 2))]
                  exact World.ownsRow_lit (base := W.heap.size) (e := 48) (size := 3) (wr.setCell ⟨R + 1, 0, none⟩ (.int .i64 (K % 2))) #[.int .i64 (K % 2), .int .i64 N, .slice A6 0 c6] 1 (by rw [World.size_setCell]; have := HB.out.size; have := (HRW.out.trans HB6.out).size; have := HRe.out; omega) (by unfold maxLen; omega) rfl
                have HEnd := Lib.hid (fun (v9 : Value) (w9 : World) (hg : w7.grownBy w9 (Value.slice A3 i c3).ownBlock) (h9 : NdR W.heap.size w9 v9 (ps ++ [⟨(K % 2), N, .slice A6 0 c6⟩])) => fx_end (d := ⟨(K % 2), N, []⟩) HX.out.2.2.2.1 (by have := HX.out.2.1; have := HX.out.2.2.2.2; omega) HX.out.2.2.1 HP.out.2.1 (row_below HP.out.1 hbo7) (fun j p nd a b => ⟨(HP.out.2.2 j p nd a b).1, (HP.out.2.2 j p nd a b).2.1, row_below (HP.out.2.2 j p nd a b).2.2 hbo7⟩) hg h9 ⟨rfl, rfl, hkeep _ _ ((by have := row_mono HS6.out.1 (show W.heap.size ≤ R by have := HB.out.size; have := HRe.out; omega); rw [List.length_eq_zero_iff.1 HDl.out] at this; exact this))⟩ hb7 HFo.out
                  ⟨(by have := HKm.out; dsimp only; omega), ⟨N0, N3⟩, (by simp), (fun _ => rfl), (fun h => by have := HKm.out; dsimp only at h; omega), (fun h => by simp), (fun x hx => by cases hx)⟩)
                have HRow := Lib.hid (show NdR W.heap.size w7 (.slice A3 i c3) ps from row_below HP.out.1 hbo7)
                have HNew := Lib.hid hnew
                have HSz := Lib.hid hb7.size
                have HPl := Lib.hid (show ps.length ≤ 1000 by have := HP.out.2.1; have := HX.out.2.2.1; have := HX.out.2.1; omega)
                clear hnew hb7 hbo7 hkeep HF6 HB6 HS6 HFo HP HL HI0 HBt HRW
                subst hw7
                go_wp2_with (at_builtin; refine wpl_app_n rfl _ _ rfl rfl rfl HRow.out HNew.out HSz.out HPl.out rfl ?_; intro A9 n9 c9 w9 hn9 hr9 hg9 hq9; have HE := Lib.hid (HEnd.out _ _ hg9 hr9); clear hn9 hr9 hg9 hq9)
                go_roundg (n - (i + 1))
                case measure => have := HX.out; omega
                case rel => exact HE.out
              · have z4 : ¬ (1 < K) := hk1
                have HKm := Lib.hid (show 0 ≤ K % 2 ∧ K % 2 ≤ 1 by omega)
                obtain ⟨w7, hw7⟩ : ∃ w7, w7 = wr.alloc (.cells #[.int .i64 K, .int .i64 N, .slice A6 0 c6] 48) := ⟨_, rfl⟩
                have hbo7 : Below R wo w7 := by
                  rw [hw7]
                  have h1 := HRW.out.trans HB6.out
                  exact h1.alloc (by have := h1.size; have := HRe.out; omega) _
                rw [HRe.out] at hbo7
                have hb7 : Below W.heap.size W w7 := HB.out.trans (hbo7.mono HB.out.size)
                have hkeep : ∀ (v : Value) (es : List Int), BtR W.heap.size wr v es → BtR W.heap.size w7 v es := fun v es h => row_keep h fun k hk => by
                  obtain ⟨cs, hc⟩ := row_type h hk
                  rw [hw7]
                  exact heap_alloc_old _ _ hc.lt
                have hnew : NdR W.heap.size w7 (.slice (some ⟨wr.heap.size, 0, none⟩) 1 1) [⟨K, N, .slice A6 0 c6⟩] := by
                  rw [hw7]
                  exact World.ownsRow_lit (base := W.heap.size) (e := 48) (size := 3) wr #[.int .i64 K, .int .i64 N, .slice A6 0 c6] 1 (by have := HB.out.size; have := (HRW.out.trans HB6.out).size; have := HRe.out; omega) (by unfold maxLen; omega) rfl
                have HEnd := Lib.hid (fun (v9 : Value) (w9 : World) (hg : w7.grownBy w9 (Value.slice A3 i c3).ownBlock) (h9 : NdR W.heap.size w9 v9 (ps ++ [⟨K, N, .slice A6 0 c6⟩])) => fx_end (d := ⟨K, N, []⟩) HX.out.2.2.2.1 (by have := HX.out.2.1; have := HX.out.2.2.2.2; omega) HX.out.2.2.1 HP.out.2.1 (row_below HP.out.1 hbo7) (fun j p nd a b => ⟨(HP.out.2.2 j p nd a b).1, (HP.out.2.2 j p nd a b).2.1, row_below (HP.out.2.2 j p nd a b).2.2 hbo7⟩) hg h9 ⟨rfl, rfl, hkeep _ _ ((by have := row_mono HS6.out.1 (show W.heap.size ≤ R by have := HB.out.size; have := HRe.out; omega); rw [List.length_eq_zero_iff.1 HDl.out] at this; exact this))⟩ hb7 HFo.out
                  ⟨⟨K0, K6⟩, ⟨N0, N3⟩, (by simp), (fun _ => rfl), (fun h => by dsimp only at h; omega), (fun h => by simp), (fun x hx => by cases hx)⟩)
                have HRow := Lib.hid (show NdR W.heap.size w7 (.slice A3 i c3) ps from row_below HP.out.1 hbo7)
                have HNew := Lib.hid hnew
                have HSz := Lib.hid hb7.size
                have HPl := Lib.hid (show ps.length ≤ 1000 by have := HP.out.2.1; have := HX.out.2.2.1; have := HX.out.2.1; omega)
                clear hnew hb7 hbo7 hkeep HF6 HB6 HS6 HFo HP HL HI0 HBt HRW
                subst hw7
                go_wp2_with (at_builtin; refine wpl_app_n rfl _ _ rfl rfl rfl HRow.out HNew.out HSz.out HPl.out rfl ?_; intro A9 n9 c9 w9 hn9 hr9 hg9 hq9; have HE := Lib.hid (HEnd.out _ _ hg9 hr9); clear hn9 hr9 hg9 hq9)
                go_roundg (n - (i + 1))
                case measure => have := HX.out; omega
                case rel => exact HE.out
            · have z0 : ((j : Int) == 0) = false := by rw [beq_eq_false_iff_ne]; omega
              have HKm := Lib.hid (show 0 ≤ K % 2 ∧ K % 2 ≤ 1 by omega)
              obtain ⟨w7, hw7⟩ : ∃ w7, w7 = wr.alloc (.cells #[.int .i64 K, .int .i64 N, .slice A6 j c6] 48) := ⟨_, rfl⟩
              have hbo7 : Below R wo w7 := by
                rw [hw7]
                have h1 := HRW.out.trans HB6.out
                exact h1.alloc (by have := h1.size; have := HRe.out; omega) _
              rw [HRe.out] at hbo7
              have hb7 : Below W.heap.size W w7 := HB.out.trans (hbo7.mono HB.out.size)
              have hkeep : ∀ (v : Value) (es : List Int), BtR W.heap.size wr v es → BtR W.heap.size w7 v es := fun v es h => row_keep h fun k hk => by
                obtain ⟨cs, hc⟩ := row_type h hk
                rw [hw7]
                exact heap_alloc_old _ _ hc.lt
              have hnew : NdR W.heap.size w7 (.slice (some ⟨wr.heap.size, 0, none⟩) 1 1) [⟨K, N, .slice A6 j c6⟩] := by
                rw [hw7]
                exact World.ownsRow_lit (base := W.heap.size) (e := 48) (size := 3) wr #[.int .i64 K, .int .i64 N, .slice A6 j c6] 1 (by have := HB.out.size; have := (HRW.out.trans HB6.out).size; have := HRe.out; omega) (by unfold maxLen; omega) rfl
              have HEnd := Lib.hid (fun (v9 : Value) (w9 : World) (hg : w7.grownBy w9 (Value.slice A3 i c3).ownBlock) (h9 : NdR W.heap.size w9 v9 (ps ++ [⟨K, N, .slice A6 j c6⟩])) => fx_end (d := ⟨K, N, ds⟩) HX.out.2.2.2.1 (by have := HX.out.2.1; have := HX.out.2.2.2.2; omega) HX.out.2.2.1 HP.out.2.1 (row_below HP.out.1 hbo7) (fun j p nd a b => ⟨(HP.out.2.2 j p nd a b).1, (HP.out.2.2 j p nd a b).2.1, row_below (HP.out.2.2 j p nd a b).2.2 hbo7⟩) hg h9 ⟨rfl, rfl, hkeep _ _ ((show BtR W.heap.size wr (.slice A6 j c6) ds from row_mono HS6.out.1 (by have := HB.out.size; have := HRe.out; omega)))⟩ hb7 HFo.out
                ⟨⟨K0, K6⟩, ⟨N0, N3⟩, (by have := HDl.out; have := HJ.out.2; dsimp only; omega), (fun h => by have := HJ.out.2; dsimp only at h; omega), (fun h e => by have := HDl.out; dsimp only at e; rw [e] at this; simp at this; omega), (fun h => by have := HDl.out; have := HJ.out.2; dsimp only at h ⊢; omega), (fun x hx => by have := HS6.out.2 x hx; have := HQ.out; have := HX.out.2.2.2.1; omega)⟩)
              have HRow := Lib.hid (show NdR W.heap.size w7 (.slice A3 i c3) ps from row_below HP.out.1 hbo7)
              have HNew := Lib.hid hnew
              have HSz := Lib.hid hb7.size
              have HPl := Lib.hid (show ps.length ≤ 1000 by have := HP.out.2.1; have := HX.out.2.2.1; have := HX.out.2.1; omega)
              clear hnew hb7 hbo7 hkeep HF6 HB6 HS6 HFo HP HL HI0 HBt HRW
              subst hw7
              go_wp2_with (at_builtin; refine wpl_app_n rfl _ _ rfl rfl rfl HRow.out HNew.out HSz.out HPl.out rfl ?_; intro A9 n9 c9 w9 hn9 hr9 hg9 hq9; have HE := Lib.hid (HEnd.out _ _ hg9 hr9); clear hn9 hr9 hg9 hq9)
              go_roundg (n - (i + 1))
              case measure => have := HX.out; omega
              case rel => exact HE.out
    · have hie : i = n := by omega
      have HE := Lib.hid (show FxQ W n (.returned (.slice A3 i c3)) wr from ⟨_, ns, rfl, hO, by omega, hF, hb⟩)
      have j1 : ¬ ((i : Int) < (n : Int)) := by omega
      clear hi hi8 hO hlen hb hF hlt hie
      go_wp2
      go_ret
      exact HE.out
end Go.Proofs.Ytghlajfalgdkfaa
