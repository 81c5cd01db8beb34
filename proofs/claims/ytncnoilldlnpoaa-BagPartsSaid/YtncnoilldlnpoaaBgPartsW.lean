/-
  BagParts, walked.
-/
import Derived.Test.YtncnoilldlnpoaaBgPaE
import Derived.Deep.RegionHeld3
namespace Go.Proofs.Ytncnoilldlnpoaa
open Go.RowKit Go.Lib
set_option linter.unusedVariables false
set_option linter.unusedSimpArgs false
set_option maxRecDepth 100000

theorem cntL_take {l : List (Ky × Nat)} {j : Nat} {p : Ky × Nat} (h : l[j]? = some p) (k : Ky) : cntL (l.take (j + 1)) k = cntL (l.take j) k + if p.1 = k then p.2 else 0 := by
  rw [List.take_add_one, h, Option.toList_some, cntL_app]
  congr 1
  rw [cntL_cons]
  simp [cntL]
theorem sumN_take {l : List (Ky × Nat)} {j : Nat} {p : Ky × Nat} (h : l[j]? = some p) : sumN (l.take (j + 1)) = sumN (l.take j) + p.2 := by
  rw [List.take_add_one, h, Option.toList_some, sumN_app]
  simp [sumN]
theorem cntL_le (l : List (Ky × Nat)) (k : Ky) : cntL l k ≤ sumN l := by
  induction l with
  | nil => exact Nat.le_refl _
  | cons p l ih =>
    rw [cntL_cons]
    unfold sumN at *
    simp only [List.map_cons, List.sum_cons]
    split <;> omega
theorem sum_take_le (l : List (Ky × Nat)) (j : Nat) : sumN (l.take j) ≤ sumN l := by
  have := sumN_app (l.take j) (l.drop j)
  rw [List.take_append_drop] at this
  omega
set_option maxHeartbeats 16000000 in
theorem bparts_walk (l : List Ga) (ok : ∀ t ∈ l, t.ok) (A : Option Addr) (cap : Nat) (hl : l.length ≤ cap) (hm : cap ≤ maxLen) (rr : Int × Int × Int) (okr : i64b rr.1 ∧ i64b rr.2.1 ∧ i64b rr.2.2) (W : World) (hs : SlAt W A 6 (l.map Ga.cells)) :
    Calls Try.prog 4 #[.slice A l.length cap, .agg #[.int .i64 rr.1, .int .i64 rr.2.1, .int .i64 rr.2.2]] W fun e w' => e = .returned (.bool true) ∧ Below W.heap.size W w' := by
  obtain ⟨a, b, c⟩ := rr
  clear okr ok hm
  dsimp only
  have hB0 : Below W.heap.size W (W.alloc (.cells #[.int .i64 a, .int .i64 b, .int .i64 c] 30)) := (Below.refl _ _).alloc (Nat.le_refl _) _
  have hf0 := Fb.new W 30 #[.int .i64 a, .int .i64 b, .int .i64 c]
  by_cases h40 : 40 < l.length
  · have d1 : decide ((40 : Int) < (l.length : Int)) = true := decide_eq_true (by omega)
    have n1 : (40 : Int) < (l.length : Int) := by omega
    have HB := Lib.hid hB0
    clear hs hB0 hf0
    generalize l.length = n at *
    go_enter Try.func4, Try.ntmps4
    go_wp2_with (go_at_call 6; (with_reducible refine (gawake_ok _).mono ?_); rintro e w1 ⟨rfl, hb⟩; have HB := Lib.hid (HB.out.trans (hb.mono HB.out.size)); clear hb)
    go_ret
    exact ⟨rfl, HB.out⟩
  · have d1 : decide ((40 : Int) < (l.length : Int)) = false := decide_eq_false (by omega)
    have n1 : ¬ (40 : Int) < (l.length : Int) := by omega
    have HB := Lib.hid hB0
    have HF := Lib.hid hf0
    have HS := Lib.hid hs
    have H40 := Lib.hid h40
    have HBW := Lib.hid (fun (w1 : World) (hb : Below (W.alloc (.cells #[.int .i64 a, .int .i64 b, .int .i64 c] 30)).heap.size (W.alloc (.cells #[.int .i64 a, .int .i64 b, .int .i64 c] 30)) w1) => (⟨hB0.trans (hb.mono hB0.size), (hf0.below hb).cell 0, (hf0.below hb).cell 1, (hf0.below hb).cell 2⟩ : Below W.heap.size W w1 ∧ w1.cell? ⟨W.heap.size, 0, none⟩ = some (.int .i64 a) ∧ w1.cell? ⟨W.heap.size, 1, none⟩ = some (.int .i64 b) ∧ w1.cell? ⟨W.heap.size, 2, none⟩ = some (.int .i64 c)))
    clear hs hB0 hf0 h40
    by_cases hab : a ≤ b ∧ b ≤ c
    · obtain ⟨hab1, hab2⟩ := hab
      have da : decide (b < a) = false := decide_eq_false (by omega)
      have db : decide (c < b) = false := decide_eq_false (by omega)
      have na : ¬ b < a := by omega
      have nb : ¬ c < b := by omega
      have HAB := Lib.hid (And.intro hab1 hab2)
      clear hab1 hab2
      go_enter Try.func4, Try.ntmps4
      go_wp2_with (go_at_call 6; (with_reducible refine (gawake_ok _).mono ?_); rintro e w1 ⟨rfl, hb⟩; obtain ⟨hb1, y0, y1, y2⟩ := HBW.out w1 hb; have HB1 := Lib.hid hb1; clear hb hb1)
      go_quiet (fail)
      have cN1 := gnew_any (w1.drewN nq) (room := 100) (by decide) (by decide)
      have HB2 : Hid (Below W.heap.size W (w1.drewN nq)) := Lib.hid (below_drewP HB1.out nq)
      have HS2 := Lib.hid (fun (w' : World) (hb : Below W.heap.size W w') => HS.out.below hb)
      obtain ⟨wq, hwq⟩ : ∃ wq, w1.drewN nq = wq := ⟨_, rfl⟩
      rw [hwq] at cN1 HB2
      simp only [hwq]
      clear y0 y1 y2 HB1 HBW hwq
      go_wp2_with (go_at_call 7; (with_reducible refine cN1.mono ?_); rintro e w' ⟨rfl, rfl⟩; clear cN1)
      go_loopg [50] l.length (fun gk s50 wr => ∃ i : Nat, s50 = .int .i64 (i : Int) ∧ i ≤ l.length ∧ l.length - i ≤ gk ∧ OneS wq (wq.heap.size + 1) i wr)
      case atStart => exact ⟨0, rfl, Nat.zero_le _, by omega, one_start wq⟩
      case round =>
        obtain ⟨i, rfl, hi, hgk, hex⟩ := hrel
        have hl40 := H40.out
        have hW : Below W.heap.size W wr := HB2.out.trans (hex.bl.mono HB2.out.size)
        by_cases hlt : i < l.length
        · obtain ⟨r, hr⟩ : ∃ r, l[i]? = some r := ⟨_, List.getElem?_eq_getElem hlt⟩
          obtain ⟨g, o, rfl, c0, c1, c2, c3, c4, c5⟩ := sl_at6 (HS2.out _ hW) hr
          have cA := one_round hex (by omega) (.cells #[.int .u8 r.k, .int .i64 r.t, .int .i64 r.n, .int .i64 r.key.1, .int .i64 r.key.2.1, .int .i64 r.key.2.2] 32) r.t r.key
          unfold kE at cA
          have hi0 : (0 : Int) ≤ (i : Int) := by omega
          have hi1 : (i : Int) < (l.length : Int) := by omega
          have hi2 : (i : Int) + 1 ≤ 41 := by omega
          have HGK := Lib.hid hgk
          have HLT := Lib.hid hlt
          obtain ⟨rk, rt, rn, rkey⟩ := r
          obtain ⟨k0, k1, k2⟩ := rkey
          dsimp only at *
          clear hex hW hr hgk hi hlt
          go_wp2_with (go_at_call 8; (with_reducible refine cA.mono ?_); rintro e w5 ⟨⟨c9, rfl⟩, hx⟩; have HX := Lib.hid hx; clear cA hx)
          go_roundg (l.length - (i + 1))
          case measure => have := HGK.out; have := HLT.out; omega
          case rel => exact ⟨i + 1, by rw [Int.natCast_add]; rfl, HLT.out, Nat.le_refl _, HX.out⟩
        · obtain rfl : i = l.length := by omega
          have cC := pa_end hex (by omega) HAB.out.1 HAB.out.2
          clear hex hW hgk hi hlt
          obtain ⟨i0, hi0, hi1, hi2, hi3⟩ := info_parts entInfo
          go_wp2_with (first
            | (go_at_call 10; (with_reducible refine cC.mono ?_); rintro e w3 ⟨v3, rfl, ⟨A3, n3, p3, rfl⟩, cD⟩; clear cC)
            | (go_at_call 10; (with_reducible refine cD.mono ?_); rintro e w4 ⟨v4, rfl, ⟨A4, n4, p4, rfl⟩, cE⟩; clear cD)
            | (go_at_call 10; (with_reducible refine cE.mono ?_); rintro e w5 ⟨v5, rfl, ⟨A5, n5, p5, rfl⟩, hQ⟩; have HQ := Lib.hid hQ; clear hQ cE)
            | (at_builtin; refine wpList_plain rfl fun _ hK => ?_; obtain ⟨L, N, P, Q, B4, B5, q1, q2, q3, q4, q5, q6, q7, q8, q9, qa⟩ := HQ.out; refine wp_app_any (.tmp 70) (.tmp 75) 35 rfl 41 i0 (.agg #[.int .i64 0, .int .i64 0, .int .i64 0, .int .i64 0]) 4 32 Try.underlying35 hi0 hi1 hi2 hi3 rfl (by decide) (by decide) rfl rfl q1 q2 (fun u hu => by obtain ⟨x, _, hx⟩ := List.mem_flatMap.1 hu; exact entC_one x u hx) (by omega) q3 ?_; intro v7 w7 hr7 hg7 hf7; refine hK _ _ ?_; obtain ⟨f1, f2, f3⟩ := q6 v7 w7 hr7 hg7; have HF1 := Lib.hid f1; have HF2 := Lib.hid f2; have HF3 := Lib.hid f3; have HQ7 := Lib.hid q7; have HQ8 := Lib.hid q8; have HQ9 := Lib.hid q9; have HQ5 := Lib.hid q5; have HNL := Lib.hid qa; clear hr7 hg7 hf7 hK q1 q2 q3 q4 q5 q6 q7 q8 q9 qa f1 f2 f3; obtain ⟨A7, c7, rfl, h7⟩ := HF2.out; have H7 := Lib.hid h7; clear h7))
          obtain ⟨A3', c3', e3, h3⟩ := HF1.out
          simp only [Value.slice.injEq] at e3
          obtain ⟨rfl, rfl, rfl⟩ := e3
          have H3 := Lib.hid h3
          clear h3 HF1 HF2 hi0 hi1 hi2 hi3
          have hN9 : sumN N ≤ 40 := by have := HQ8.out; have := HQ9.out; omega
          have HN9 := Lib.hid hN9
          clear hN9
          have hLl : (L.length : Int) ≤ 40 := by have := HQ5.out; omega
          go_loopg [14, 79] L.length (fun gk s14 s79 wr => ∃ i : Nat, s79 = .int .i64 (i : Int) ∧ s14 = .int .i64 (sumN (L.take i) : Int) ∧ i ≤ L.length ∧ L.length - i ≤ gk ∧ Below w7.heap.size w7 wr)
          case atStart => exact ⟨0, rfl, rfl, Nat.zero_le _, by omega, Below.refl _ _⟩
          case round =>
            obtain ⟨i, rfl, rfl, hi, hgk, hbl⟩ := hrel
            have hs4 : sumN (L.take i) ≤ 40 := Nat.le_trans (sum_take_le L i) HQ9.out
            by_cases hlt : i < L.length
            · obtain ⟨x, hx⟩ : ∃ x, L[i]? = some x := ⟨_, List.getElem?_eq_getElem hlt⟩
              obtain ⟨g, rfl, c0, c1, c2, c3⟩ := H3.out wr hbl i x hx
              have hmany := HQ7.out x (List.mem_of_getElem? hx)
              have hnx := sumN_take hx
              obtain ⟨k, n⟩ := x
              obtain ⟨k0, k1, k2⟩ := k
              dsimp only at *
              have hi0 : (0 : Int) ≤ (i : Int) := by omega
              have hi1 : (i : Int) < (L.length : Int) := by omega
              have hi2 : (i : Int) + 1 ≤ 41 := by omega
              have hs5 : (sumN (L.take i) : Int) ≤ 40 := by omega
              have hs6 : (0 : Int) ≤ (sumN (L.take i) : Int) := by omega
              have HS5 := Lib.hid (Nat.le_trans (sum_take_le L (i + 1)) HQ9.out)
              have HNX := Lib.hid hnx
              have HMN := Lib.hid hmany
              have HGK := Lib.hid hgk
              have HLT := Lib.hid hlt
              have hV := Fb.new wr 41 #[.int .i64 k0, .int .i64 k1, .int .i64 k2, .int .i64 (n : Int)]
              have HV := Lib.hid hV
              have HBV := Lib.hid (show Below w7.heap.size w7 (wr.alloc (.cells #[.int .i64 k0, .int .i64 k1, .int .i64 k2, .int .i64 (n : Int)] 41)) from hbl.alloc hbl.size _)
              clear hV hx hmany hnx hgk hlt hi hbl hs4
              generalize sumN (L.take i) = sm at *
              go_wp2
              go_loopg [17, 85] N.length (fun gk s17 s85 wr2 => ∃ j : Nat, s85 = .int .i64 (j : Int) ∧ s17 = .int .i64 (cntL (N.take j) (k0, k1, k2) : Int) ∧ j ≤ N.length ∧ N.length - j ≤ gk ∧ Below w7.heap.size w7 wr2 ∧ Fb wr2 wr.heap.size 41 #[.int .i64 k0, .int .i64 k1, .int .i64 k2, .int .i64 (n : Int)])
              case atStart => exact ⟨0, rfl, rfl, Nat.zero_le _, by omega, HBV.out, HV.out⟩
              case round =>
                obtain ⟨j, rfl, rfl, hj, hgk2, hbl2, hfe⟩ := hrel
                have hcl : cntL (N.take j) (k0, k1, k2) ≤ 40 := Nat.le_trans (cntL_le _ _) (Nat.le_trans (sum_take_le N j) HN9.out)
                have hnl := HNL.out
                by_cases hltj : j < N.length
                · obtain ⟨y, hy⟩ : ∃ y, N[j]? = some y := ⟨_, List.getElem?_eq_getElem hltj⟩
                  obtain ⟨g2, rfl, d0, d1, d2, d3⟩ := H7.out wr hbl2 j y hy
                  have hct := cntL_take hy (k0, k1, k2)
                  have hc2 : cntL (N.take (j + 1)) (k0, k1, k2) ≤ 40 := Nat.le_trans (cntL_le _ _) (Nat.le_trans (sum_take_le N (j + 1)) HN9.out)
                  obtain ⟨q, m⟩ := y
                  obtain ⟨q0, q1, q2⟩ := q
                  dsimp only at *
                  have x0 : (wr.alloc (.cells #[.int .i64 q0, .int .i64 q1, .int .i64 q2, .int .i64 (m : Int)] 41)).cell? ⟨_, 0, none⟩ = some (.int .i64 k0) := (hfe.alloc _).cell 0
                  have x1 : (wr.alloc (.cells #[.int .i64 q0, .int .i64 q1, .int .i64 q2, .int .i64 (m : Int)] 41)).cell? ⟨_, 1, none⟩ = some (.int .i64 k1) := (hfe.alloc _).cell 1
                  have x2 : (wr.alloc (.cells #[.int .i64 q0, .int .i64 q1, .int .i64 q2, .int .i64 (m : Int)] 41)).cell? ⟨_, 2, none⟩ = some (.int .i64 k2) := (hfe.alloc _).cell 2
                  have hke := fun w => keyEql (q0, q1, q2) (k0, k1, k2) w
                  unfold kE at hke
                  dsimp only at hke
                  have hj0 : (0 : Int) ≤ (j : Int) := by omega
                  have hj1 : (j : Int) < (N.length : Int) := by omega
                  have hj2 : (j : Int) + 1 ≤ 101 := by omega
                  have HBL3 := Lib.hid (show Below w7.heap.size w7 (wr.alloc (.cells #[.int .i64 q0, .int .i64 q1, .int .i64 q2, .int .i64 (m : Int)] 41)) from hbl2.alloc hbl2.size _)
                  have HFE3 := Lib.hid (hfe.alloc (.cells #[.int .i64 q0, .int .i64 q1, .int .i64 q2, .int .i64 (m : Int)] 41))
                  have HGK2 := Lib.hid hgk2
                  have HLTJ := Lib.hid hltj
                  by_cases hqk : ((q0, q1, q2) : Ky) = (k0, k1, k2)
                  · rw [if_pos hqk] at hct
                    rw [decide_eq_true hqk] at hke
                    have hw1 : (cntL (N.take j) (k0, k1, k2) : Int) + (m : Int) ≤ 40 := by omega
                    have hw0 : (0 : Int) ≤ (cntL (N.take j) (k0, k1, k2) : Int) := by omega
                    have hwm : (0 : Int) ≤ (m : Int) := by omega
                    have HCT := Lib.hid hct
                    clear hct hc2 hcl hy hbl2 hfe hgk2 hltj hqk hj hnl
                    generalize cntL (N.take j) (k0, k1, k2) = cc at *
                    go_wp2
                    go_roundg (N.length - (j + 1))
                    case measure => have := HGK2.out; have := HLTJ.out; omega
                    case rel => exact ⟨j + 1, by rw [Int.natCast_add]; rfl, by rw [HCT.out, Int.natCast_add], HLTJ.out, Nat.le_refl _, HBL3.out, HFE3.out⟩
                  · rw [if_neg hqk] at hct
                    rw [decide_eq_false hqk] at hke
                    have HCT := Lib.hid hct
                    clear hct hc2 hcl hy hbl2 hfe hgk2 hltj hqk hj hnl
                    generalize cntL (N.take j) (k0, k1, k2) = cc at *
                    go_wp2
                    go_roundg (N.length - (j + 1))
                    case measure => have := HGK2.out; have := HLTJ.out; omega
                    case rel => exact ⟨j + 1, by rw [Int.natCast_add]; rfl, by rw [HCT.out, Nat.add_zero], HLTJ.out, Nat.le_refl _, HBL3.out, HFE3.out⟩
                · obtain rfl : j = N.length := by omega
                  have hcn : cntL (N.take N.length) (k0, k1, k2) = n := by rw [List.take_length]; exact HMN.out
                  rw [hcn] at *
                  have hs7 := HS5.out
                  rw [HNX.out] at hs7
                  have x3 : wr.cell? ⟨_, 3, none⟩ = some (.int .i64 (n : Int)) := hfe.cell 3
                  have hn0 : (0 : Int) ≤ (n : Int) := by omega
                  have hw1 : (sm : Int) + (n : Int) ≤ 40 := by omega
                  have HBL3 := Lib.hid hbl2
                  clear hbl2 hfe hgk2 hltj hj hcn hs7 hnl hcl
                  go_wp2
                  go_roundg (L.length - (i + 1))
                  case measure => have := HGK.out; have := HLT.out; omega
                  case rel => exact ⟨i + 1, by rw [Int.natCast_add]; rfl, by rw [HNX.out, Int.natCast_add], HLT.out, Nat.le_refl _, HBL3.out⟩
            · obtain rfl : i = L.length := by omega
              have HB7 := Lib.hid hbl
              have HNN := HNL.out
              rw [List.take_length]
              have HSL := Lib.hid (show ∀ j, j ≤ N.length → sumN (N.take j) ≤ 40 from fun j _ => Nat.le_trans (sum_take_le N j) HN9.out)
              have hq9 := HQ9.out
              have hsl1 : (sumN L : Int) ≤ 40 := by omega
              have hsl0 : (0 : Int) ≤ (sumN L : Int) := by omega
              clear hs4 hi hgk hlt hbl hq9
              go_wp2
              go_loopg [14, 109] N.length (fun gk s14 s109 wr => ∃ (j : Nat) (z : Int), s109 = .int .i64 (j : Int) ∧ s14 = .int .i64 z ∧ z = (sumN L : Int) - (sumN (N.take j) : Int) ∧ j ≤ N.length ∧ N.length - j ≤ gk ∧ Below w7.heap.size w7 wr)
              case atStart => exact ⟨0, _, rfl, rfl, by simp [sumN], Nat.zero_le _, by omega, HB7.out⟩
              case round =>
                obtain ⟨j, z, rfl, rfl, hz, hj, hgk2, hbl2⟩ := hrel
                have hsj := HSL.out j hj
                by_cases hltj : j < N.length
                · obtain ⟨y, hy⟩ : ∃ y, N[j]? = some y := ⟨_, List.getElem?_eq_getElem hltj⟩
                  obtain ⟨g2, rfl, d0, d1, d2, d3⟩ := H7.out wr hbl2 j y hy
                  have hsn := sumN_take hy
                  have hsj2 := HSL.out (j + 1) hltj
                  obtain ⟨q, m⟩ := y
                  obtain ⟨q0, q1, q2⟩ := q
                  dsimp only at *
                  have hj0 : (0 : Int) ≤ (j : Int) := by omega
                  have hj1 : (j : Int) < (N.length : Int) := by omega
                  have hj2 : (j : Int) + 1 ≤ 101 := by omega
                  have hm0 : (0 : Int) ≤ (m : Int) := by omega
                  have hm1 : (m : Int) ≤ 40 := by omega
                  have hz0 : -40 ≤ z - (m : Int) := by omega
                  have hz1 : z - (m : Int) ≤ 40 := by omega
                  have HZ := Lib.hid (show z - (m : Int) = (sumN L : Int) - (sumN (N.take (j + 1)) : Int) from by omega)
                  have HBL3 := Lib.hid (show Below w7.heap.size w7 (wr.alloc (.cells #[.int .i64 q0, .int .i64 q1, .int .i64 q2, .int .i64 (m : Int)] 41)) from hbl2.alloc hbl2.size _)
                  have HGK2 := Lib.hid hgk2
                  have HLTJ := Lib.hid hltj
                  clear hz hj hgk2 hbl2 hsj hltj hy hsn hsj2
                  go_wp2
                  go_roundg (N.length - (j + 1))
                  case measure => have := HGK2.out; have := HLTJ.out; omega
                  case rel => exact ⟨j + 1, _, by rw [Int.natCast_add]; rfl, rfl, HZ.out, HLTJ.out, Nat.le_refl _, HBL3.out⟩
                · obtain rfl : j = N.length := by omega
                  have hz0 : z = 0 := by
                    rw [List.take_length, ← HQ8.out] at hz
                    omega
                  subst hz0
                  have HBE := Lib.hid (HB2.out.trans ((HF3.out.trans (hbl2.mono HF3.out.size)).mono HB2.out.size))
                  clear hz hj hgk2 hbl2 hsj hltj
                  go_wp2
                  go_ret
                  exact ⟨rfl, HBE.out⟩
    · by_cases h1 : b < a
      · have da : decide (b < a) = true := decide_eq_true h1
        clear hab
        go_enter Try.func4, Try.ntmps4
        go_wp2_with (go_at_call 6; (with_reducible refine (gawake_ok _).mono ?_); rintro e w1 ⟨rfl, hb⟩; obtain ⟨hb1, y0, y1, y2⟩ := HBW.out w1 hb; have HB1 := Lib.hid hb1; clear hb hb1)
        go_quiet (fail)
        go_wp2
        go_ret
        exact ⟨rfl, below_drewP HB1.out nq⟩
      · have da : decide (b < a) = false := decide_eq_false h1
        have h2 : c < b := by omega
        have db : decide (c < b) = true := decide_eq_true h2
        clear hab
        go_enter Try.func4, Try.ntmps4
        go_wp2_with (go_at_call 6; (with_reducible refine (gawake_ok _).mono ?_); rintro e w1 ⟨rfl, hb⟩; obtain ⟨hb1, y0, y1, y2⟩ := HBW.out w1 hb; have HB1 := Lib.hid hb1; clear hb hb1)
        go_quiet (fail)
        go_wp2
        go_ret
        exact ⟨rfl, below_drewP HB1.out nq⟩
end Go.Proofs.Ytncnoilldlnpoaa
