/-
  IngestLates's walk.
-/
import Derived.Test.YtophgpmjalpmaaaIRun
import Derived.Deep.LoopGhost
namespace Go.Proofs.Ytophgpmjalpmaaa
open Go.RowKit
set_option linter.unusedVariables false
set_option linter.unusedSimpArgs false
set_option maxRecDepth 100000

structure Li (a : Int) (i : Nat) (s : Bs) (n : Nat) : Prop where
  lat : s.lat = a
  room : s.room = 1000
  closed : s.closed = false
  m0 : -32768 ≤ s.mt
  m1 : s.mt ≤ 32767
  t0 : 0 ≤ s.late
  sum : s.late + n = i
  nx : s.next = n
theorem Li.ok {a : Int} {i : Nat} {s : Bs} {n : Nat} (h : Li a i s n) (hi : i ≤ 60) (a0 : 0 ≤ a) (a1 : a ≤ 255) : s.ok := by
  obtain ⟨h1, h2, h3, h4, h5, h6, h7, h8⟩ := h
  exact ⟨by omega, by omega, by omega, by omega, by omega, by omega, by omega, by omega⟩
def LtNext (w1 : World) (d : Nat) (a : Int) (i : Nat) (s' : Bs) (w' : World) : Prop := ∃ v' l', Rn w1 d s' v' l' w' ∧ Li a (i + 1) s' l'.length
def LtRel (w1 : World) (d : Nat) (a : Int) (n g : Nat) (s7 s8 s9 s32 : Value) (wr : World) : Prop := ∃ (i : Nat) (s : Bs) (v : Value) (l : List It), i + g = n ∧ s32 = .int .i64 i ∧ s7 = .int .i64 s.mt ∧ s8 = .bool s.mq ∧ s9 = .int .i64 s.late ∧ Rn w1 d s v l wr ∧ Li a i s l.length
section
variable {w1 : World} {d : Nat} {a : Int} {i : Nat} {s : Bs} {v : Value} {l : List It} {wr : World}
theorem lt_late (h : Rn w1 d s v l wr) (hL : Li a i s l.length) (hi : i < 60) (a0 : 0 ≤ a) (a1 : a ≤ 255) (t k0 k1 k2 : Int) (ht0 : -32768 ≤ t) (ht1 : t ≤ 32767) (ht : s.tl t = true) :
    Calls Try.prog 12 #[.pointer (some ⟨d, 0, none⟩), .int .i64 t, kv k0 k1 k2] wr fun e w' => e = .returned (.int .i64 7) ∧ LtNext w1 d a i { s with late := s.late + 1 } w' := by
  have hp := Bs.push_late (n := l.length) hL.closed (instB_iff.2 ⟨by omega, by omega⟩) ht
  have h4 := hL.sum
  have h5 := hL.t0
  refine (h.push (by omega) (hL.ok (by omega) a0 a1) t k0 k1 k2).mono ?_
  rintro e w' ⟨h1, v', l', h2, h3⟩
  rw [hp] at h1 h2 h3
  have h6 : l'.length = l.length := h3.length_eq
  refine ⟨h1, v', l', h2, hL.lat, hL.room, hL.closed, hL.m0, hL.m1, ?_, ?_, ?_⟩
  · show 0 ≤ s.late + 1
    omega
  · show s.late + 1 + (l'.length : Int) = ((i + 1 : Nat) : Int)
    omega
  · show s.next = (l'.length : Int)
    rw [h6]; exact hL.nx
theorem lt_ok (h : Rn w1 d s v l wr) (hL : Li a i s l.length) (hi : i < 60) (a0 : 0 ≤ a) (a1 : a ≤ 255) (t k0 k1 k2 : Int) (ht0 : -32768 ≤ t) (ht1 : t ≤ 32767) (ht : s.tl t = false) :
    Calls Try.prog 12 #[.pointer (some ⟨d, 0, none⟩), .int .i64 t, kv k0 k1 k2] wr fun e w' => e = .returned (.int .i64 0) ∧ LtNext w1 d a i (({ s with next := s.next + 1 } : Bs).see t) w' := by
  have h4 := hL.sum
  have h5 := hL.t0
  have hm0 := hL.m0
  have hm1 := hL.m1
  have hp := Bs.push_ok (n := l.length) hL.closed (instB_iff.2 ⟨by omega, by omega⟩) ht (by rw [hL.room]; omega)
  refine (h.push (by omega) (hL.ok (by omega) a0 a1) t k0 k1 k2).mono ?_
  rintro e w' ⟨h1, v', l', h2, h3⟩
  rw [hp] at h1 h2 h3
  have h6 : l'.length = l.length + 1 := by have := h3.length_eq; simpa using this
  refine ⟨h1, v', l', h2, hL.lat, hL.room, hL.closed, ?_, ?_, h5, ?_, ?_⟩
  · show -32768 ≤ (if behB s.mq s.mt t = true then s.mt else t)
    split <;> omega
  · show (if behB s.mq s.mt t = true then s.mt else t) ≤ 32767
    split <;> omega
  · show s.late + (l'.length : Int) = ((i + 1 : Nat) : Int)
    omega
  · show s.next + 1 = (l'.length : Int)
    rw [h6]; have := hL.nx; omega
end
set_option maxHeartbeats 32000000 in
theorem lates_walk (a : Int) (a0 : 0 ≤ a) (a1 : a ≤ 255) (l : List Int) (hl : ∀ x ∈ l, -32768 ≤ x ∧ x ≤ 32767) (A : Option Addr) (cap : Nat) (hc : l.length ≤ cap) (hm : cap ≤ maxLen) (w : World) (hs : SlAt w A 1 (l.map i16c)) :
    Calls Try.prog 8 #[.int .u8 a, .slice A l.length cap] w fun e w' => e = .returned (.bool true) ∧ Below w.heap.size w w' := by
  have cA : ∀ {W : World}, Below w.heap.size w W → Calls Try.prog 9 #[] W fun e w' => e = .returned (.bool true) ∧ Below w.heap.size w w' := fun {W} hb => (iawake_ok W).mono fun _ _ ⟨x, y⟩ => ⟨x, hb.trans (y.mono hb.size)⟩
  have hB0 : Below w.heap.size w w := Below.refl _ _
  by_cases hz : 60 < l.length
  · have hzI : (60 : Int) < (l.length : Int) := by omega
    clear hz hl hc hm hs a0 a1
    go_enter Try.func8, Try.ntmps8
    go_wp2_with (first
      | (go_at_call 9; (with_reducible refine (cA hB0).mono ?_); rintro e w1 ⟨rfl, hB1⟩)
      | (go_at_call 9; (with_reducible refine (cA hB1).mono ?_); rintro e w2 ⟨rfl, hB2⟩))
    go_ret
    exact ⟨rfl, by assumption⟩
  have hzI : ¬ (60 : Int) < (l.length : Int) := by omega
  obtain ⟨n, hn⟩ : ∃ n, n = l.length := ⟨_, rfl⟩
  have hn60 : n ≤ 60 := by omega
  have hel : ∀ i, i < n → ∃ x, (-32768 ≤ x ∧ x ≤ 32767) ∧ ∀ {W : World}, Below w.heap.size w W → ∃ g o, A = some ⟨g, o, none⟩ ∧ W.cell? ⟨g, o + i, none⟩ = some (.int .i16 x) := fun i hi => by
    obtain ⟨r, hr⟩ : ∃ r, l[i]? = some r := ⟨_, List.getElem?_eq_getElem (by omega)⟩
    exact ⟨r, hl r (List.mem_of_getElem? hr), fun {W} hb => sl_at1 (fun _ => rfl) (hs.below hb) hr⟩
  have cN := fun W => inew_ok a 1000 a0 (by omega) (by decide) (by decide) W
  rw [← hn] at hzI ⊢
  have HEL := Lib.hid hel
  have HN := Lib.hid hn60
  clear hz hl hc hm hs hel hn60 hn
  go_enter Try.func8, Try.ntmps8
  go_wp2_with (first
    | (go_at_call 9; (with_reducible refine (cA hB0).mono ?_); rintro e w1 ⟨rfl, hB1⟩)
    | (go_at_call 10; (with_reducible refine (cN _).mono ?_); rintro e w2 ⟨d, rfl, hD2, hb2⟩))
  have HB1 := Lib.hid hB1
  have HST := Lib.hid (show LtRel w1 d a n n (.int .i64 0) (.bool false) (.int .i64 0) (.int .i64 0) w2 from ⟨0, _, _, _, by omega, rfl, rfl, rfl, rfl, rn_new hD2 hb2, rfl, rfl, rfl, (by show (-32768 : Int) ≤ 0; decide), (by show (0 : Int) ≤ 32767; decide), Int.le_refl 0, rfl, rfl⟩)
  clear hB0 hB1 hD2 hb2 cA cN
  go_loopg [7, 8, 9, 32] n (fun g s7 s8 s9 s32 wr => LtRel w1 d a n g s7 s8 s9 s32 wr)
  case atStart => exact HST.out
  case round =>
    clear HST
    obtain ⟨i, s, v, l, hig, rfl, rfl, rfl, rfl, hK, hL⟩ := hrel
    have m0 := hL.m0
    have m1 := hL.m1
    have t0 := hL.t0
    have t1 : s.late ≤ 60 := by have := hL.sum; have := HN.out; omega
    have hll : l.length ≤ 4000 := by have := hL.sum; have := HN.out; omega
    cases gk with
    | zero =>
      obtain rfl : i = n := by omega
      have hin : ¬ (i : Int) < (i : Int) := by omega
      have hok := hL.ok HN.out a0 a1
      have cM := hK.mark hok
      have cLt := fun {W : World} (h : Rn w1 d s v l W) => h.late
      have cLn := fun {W : World} (h : Rn w1 d s v l W) => h.len hll
      have hlen : (i : Int) - s.late = (l.length : Int) := by have := hL.sum; omega
      have hi9 : (i : Int) ≤ 100 := by have := HN.out; omega
      have hlz : (0 : Int) ≤ (l.length : Int) := by omega
      have hi0 : (0 : Int) ≤ (i : Int) := by omega
      have hlat := hL.lat
      have hmk : s.mark = if s.mq = true then s.mt - a else 0 := by unfold Bs.mark; rw [hlat]
      have HLL := Lib.hid (show (l.length : Int) ≤ 4000 by omega)
      rw [hmk] at cM
      cases hq : s.mq with
      | false =>
        rw [hq, if_neg (by decide)] at cM
        clear hK hL hig hok hmk hlat hq hll
        go_wp2_with (first
          | (go_at_call 22; (with_reducible refine cM.mono ?_); rintro e w3 ⟨rfl, hK3⟩)
          | (go_at_call 23; (with_reducible refine (cLt hK3).mono ?_); rintro e w4 ⟨rfl, rfl⟩)
          | (go_at_call 20; (with_reducible refine (cLn hK3).mono ?_); rintro e w4 ⟨rfl, rfl⟩))
        go_ret
        exact ⟨rfl, HB1.out.trans (hK3.b.mono HB1.out.size)⟩
      | true =>
        rw [hq, if_pos rfl] at cM
        clear hK hL hig hok hmk hlat hq hll
        go_wp2_with (first
          | (go_at_call 22; (with_reducible refine cM.mono ?_); rintro e w3 ⟨rfl, hK3⟩)
          | (go_at_call 23; (with_reducible refine (cLt hK3).mono ?_); rintro e w4 ⟨rfl, rfl⟩)
          | (go_at_call 20; (with_reducible refine (cLn hK3).mono ?_); rintro e w4 ⟨rfl, rfl⟩))
        go_ret
        exact ⟨rfl, HB1.out.trans (hK3.b.mono HB1.out.size)⟩
    | succ g =>
      have hin : (i : Int) < (n : Int) := by omega
      have hiz : (0 : Int) ≤ (i : Int) := by omega
      have hi9 : (i : Int) ≤ 100 := by have := HN.out; omega
      obtain ⟨x, ⟨x0, x1⟩, hcell⟩ := HEL.out i (by omega)
      obtain ⟨gg, og, rfl, q0⟩ := hcell (HB1.out.trans (hK.b.mono HB1.out.size))
      have HI := Lib.hid (show i + 1 + g = n from by omega)
      have hi60 : i < 60 := by have := HN.out; omega
      have hlat := hL.lat
      have htl : s.tl x = (s.mq && decide (x < s.mark)) := rfl
      have hmk : s.mark = if s.mq = true then s.mt - a else 0 := by unfold Bs.mark; rw [hlat]
      rw [hmk] at htl
      clear hmk
      cases hq : s.mq with
      | false =>
        rw [hq, Bool.false_and] at htl
        have hbh : behB s.mq s.mt x = false := by unfold behB; rw [hq]; rfl
        have cO := lt_ok hK hL hi60 a0 a1 x i 0 0 x0 x1 htl
        have HMT := Lib.hid (show (if behB s.mq s.mt x = true then s.mt else x) = x from by rw [hbh, if_neg (by decide)])
        clear hK hL hcell hig hlat htl hbh hq hll hi60
        go_wp2_with (go_at_call 12; (with_reducible refine cO.mono ?_); rintro e w3 ⟨rfl, v3, l3, hR3, hL3⟩)
        go_roundg g
        case measure => exact Nat.lt_succ_self g
        case rel => exact ⟨i + 1, ({ s with next := s.next + 1 } : Bs).see x, v3, l3, HI.out, by go_num, (show Value.int .i64 x = .int .i64 (if behB s.mq s.mt x = true then s.mt else x) by rw [HMT.out]), rfl, rfl, hR3, hL3⟩
      | true =>
        rw [hq, Bool.true_and, if_pos rfl] at htl
        have hbh : behB s.mq s.mt x = decide (x < s.mt) := by unfold behB; rw [hq]; rfl
        by_cases hl1 : x < s.mt - a
        · rw [decide_eq_true hl1] at htl
          have cO := lt_late hK hL hi60 a0 a1 x i 0 0 x0 x1 htl
          clear hK hL hcell hig hlat htl hbh hll hi60
          have HQ := Lib.hid hq
          clear hq
          go_wp2_with (go_at_call 12; (with_reducible refine cO.mono ?_); rintro e w3 ⟨rfl, v3, l3, hR3, hL3⟩)
          go_roundg g
          case measure => exact Nat.lt_succ_self g
          case rel => exact ⟨i + 1, { s with late := s.late + 1 }, v3, l3, HI.out, by go_num, rfl, (show Value.bool true = .bool s.mq by rw [HQ.out]), rfl, hR3, hL3⟩
        · rw [decide_eq_false hl1] at htl
          have cO := lt_ok hK hL hi60 a0 a1 x i 0 0 x0 x1 htl
          by_cases h2 : x < s.mt
          · have h3 : ¬ s.mt < x := by omega
            have HMT := Lib.hid (show (if behB s.mq s.mt x = true then s.mt else x) = s.mt from by rw [hbh, decide_eq_true h2, if_pos rfl])
            clear hK hL hcell hig hlat htl hbh hq hll hi60
            go_wp2_with (go_at_call 12; (with_reducible refine cO.mono ?_); rintro e w3 ⟨rfl, v3, l3, hR3, hL3⟩)
            go_roundg g
            case measure => exact Nat.lt_succ_self g
            case rel => exact ⟨i + 1, ({ s with next := s.next + 1 } : Bs).see x, v3, l3, HI.out, by go_num, (show Value.int .i64 s.mt = .int .i64 (if behB s.mq s.mt x = true then s.mt else x) by rw [HMT.out]), rfl, rfl, hR3, hL3⟩
          · have HMT := Lib.hid (show (if behB s.mq s.mt x = true then s.mt else x) = x from by rw [hbh, decide_eq_false h2, if_neg (by decide)])
            by_cases h3 : s.mt < x
            · clear hK hL hcell hig hlat htl hbh hq hll hi60
              go_wp2_with (go_at_call 12; (with_reducible refine cO.mono ?_); rintro e w3 ⟨rfl, v3, l3, hR3, hL3⟩)
              go_roundg g
              case measure => exact Nat.lt_succ_self g
              case rel => exact ⟨i + 1, ({ s with next := s.next + 1 } : Bs).see x, v3, l3, HI.out, by go_num, (show Value.int .i64 x = .int .i64 (if behB s.mq s.mt x = true then s.mt else x) by rw [HMT.out]), rfl, rfl, hR3, hL3⟩
            · have HEQ := Lib.hid (show s.mt = x by omega)
              clear hK hL hcell hig hlat htl hbh hq hll hi60
              go_wp2_with (go_at_call 12; (with_reducible refine cO.mono ?_); rintro e w3 ⟨rfl, v3, l3, hR3, hL3⟩)
              go_roundg g
              case measure => exact Nat.lt_succ_self g
              case rel => exact ⟨i + 1, ({ s with next := s.next + 1 } : Bs).see x, v3, l3, HI.out, by go_num, (show Value.int .i64 s.mt = .int .i64 (if behB s.mq s.mt x = true then s.mt else x) by rw [HMT.out, HEQ.out]), rfl, rfl, hR3, hL3⟩
end Go.Proofs.Ytophgpmjalpmaaa
