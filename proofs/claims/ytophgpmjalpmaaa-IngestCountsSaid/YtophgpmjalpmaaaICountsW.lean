/-
  IngestCounts's walk. (Its rounds out of icounts.py.)
-/
import Derived.Test.YtophgpmjalpmaaaIRun
import Derived.Deep.LoopGhost
namespace Go.Proofs.Ytophgpmjalpmaaa
open Go.RowKit
set_option linter.unusedVariables false
set_option linter.unusedSimpArgs false
set_option maxRecDepth 100000

structure Ci (q r : Int) (i : Nat) (s : Bs) (l : List It) (N O L : Int) : Prop where
  lat : s.lat = q
  room : s.room = r
  closed : s.closed = false
  m0 : -1152921504606846976 ≤ s.mt
  m1 : s.mt ≤ 1152921504606846976
  nx : s.next = N
  lt : s.late = L
  sum : N + L ≤ i
  l0 : 0 ≤ L
  o0 : 0 ≤ O
  df : N - O = l.length
  le : (l.length : Int) ≤ r
  tm : ∀ x ∈ l, x.t ≤ 1152921504606846976
theorem Ci.ok {q r : Int} {i : Nat} {s : Bs} {l : List It} {N O L : Int} (h : Ci q r i s l N O L) (hi : i ≤ 100) (q0 : 0 ≤ q) (q1 : q ≤ 255) : s.ok := by
  obtain ⟨h1, h2, h3, h4, h5, h6, h7, h8, h9, h10, h11, h12, h13⟩ := h
  exact ⟨by omega, by omega, by omega, by omega, by omega, by omega, by omega, by omega⟩
def CNext (w1 : World) (d : Nat) (q r : Int) (i : Nat) (N O L : Int) (w' : World) : Prop := ∃ s v l, Rn w1 d s v l w' ∧ Ci q r i s l N O L
def CtRel (w1 : World) (d : Nat) (q r : Int) (n g : Nat) (s8 s9 s10 s37 : Value) (wr : World) : Prop := ∃ (i : Nat) (N O L : Int), i + g = n ∧ s37 = .int .i64 i ∧ s8 = .int .i64 N ∧ s9 = .int .i64 O ∧ s10 = .int .i64 L ∧ CNext w1 d q r i N O L wr
section
variable {w1 : World} {d : Nat} {q r : Int} {i : Nat} {N O L : Int} {W : World}
theorem CNext.below {W' : World} (h : CNext w1 d q r i N O L W) (hb : Below W.heap.size W W') : CNext w1 d q r i N O L W' := by
  obtain ⟨s, v, l, h1, h2⟩ := h
  exact ⟨s, v, l, h1.below hb, h2⟩
theorem CNext.b (h : CNext w1 d q r i N O L W) : Below w1.heap.size w1 W := by
  obtain ⟨s, v, l, h1, h2⟩ := h
  exact h1.b
theorem CNext.nums (h : CNext w1 d q r i N O L W) : 0 ≤ L ∧ 0 ≤ O ∧ O ≤ N ∧ N + L ≤ i ∧ N - O ≤ r := by
  obtain ⟨s, v, l, h1, h2⟩ := h
  have a1 := h2.l0
  have a2 := h2.o0
  have a3 := h2.df
  have a4 := h2.sum
  have a5 := h2.le
  refine ⟨a1, a2, ?_, a4, ?_⟩ <;> omega
theorem CNext.len (h : CNext w1 d q r i N O L W) (hi : i ≤ 100) : Calls Try.prog 20 #[.pointer (some ⟨d, 0, none⟩)] W fun e w' => e = .returned (.int .i64 (N - O)) ∧ W = w' := by
  have hn := h.nums
  obtain ⟨s, v, l, h1, h2⟩ := h
  rw [h2.df]
  refine h1.len ?_
  have := h2.df
  omega
theorem CNext.late (h : CNext w1 d q r i N O L W) : Calls Try.prog 23 #[.pointer (some ⟨d, 0, none⟩)] W fun e w' => e = .returned (.int .i64 L) ∧ W = w' := by
  obtain ⟨s, v, l, h1, h2⟩ := h
  rw [← h2.lt]
  exact h1.late
theorem CNext.closed (h : CNext w1 d q r i N O L W) : Calls Try.prog 21 #[.pointer (some ⟨d, 0, none⟩)] W fun e w' => e = .returned (.bool false) ∧ W = w' := by
  obtain ⟨s, v, l, h1, h2⟩ := h
  rw [← h2.closed]
  exact h1.closed
theorem CNext.tick (h : CNext w1 d q r i N O L W) (t : Int) : Calls Try.prog 14 #[.pointer (some ⟨d, 0, none⟩), .int .i64 t] W fun e w' => (∃ c, e = .returned (.int .i64 c)) ∧ CNext w1 d q r (i + 1) N O L w' := by
  obtain ⟨s, v, l, h1, h2⟩ := h
  refine (h1.tick t).mono ?_
  rintro e w' ⟨h3, h4⟩
  refine ⟨⟨_, h3⟩, _, v, l, h4, ?_⟩
  obtain ⟨a1, a2, a3, a4, a5, a6, a7, a8, a9, a10, a11, a12, a13⟩ := h2
  have hsum : N + L ≤ ((i + 1 : Nat) : Int) := by omega
  unfold Bs.tick
  split
  · exact ⟨a1, a2, a3, a4, a5, a6, a7, hsum, a9, a10, a11, a12, a13⟩
  · split
    · exact ⟨a1, a2, a3, a4, a5, a6, a7, hsum, a9, a10, a11, a12, a13⟩
    · split
      · exact ⟨a1, a2, a3, a4, a5, a6, a7, hsum, a9, a10, a11, a12, a13⟩
      · rename_i hi _
        have hi := instB_iff.1 (by simpa using hi : instB t = true)
        refine ⟨a1, a2, a3, ?_, ?_, a6, a7, hsum, a9, a10, a11, a12, a13⟩
        · show -1152921504606846976 ≤ (if behB s.mq s.mt t = true then s.mt else t)
          split <;> omega
        · show (if behB s.mq s.mt t = true then s.mt else t) ≤ 1152921504606846976
          split <;> omega
theorem CNext.take (h : CNext w1 d q r i N O L W) (hi : i ≤ 100) (q0 : 0 ≤ q) (q1 : q ≤ 255) : Calls Try.prog 17 #[.pointer (some ⟨d, 0, none⟩)] W fun e w' => ∃ A k c, e = .returned (.slice A k c) ∧ k ≤ 100 ∧ CNext w1 d q r (i + 1) N (O + (k : Nat)) L w' := by
  have hn := h.nums
  obtain ⟨s, v, l, h1, h2⟩ := h
  have h9 := h2.df
  refine (h1.take (by omega) (h2.ok hi q0 q1)).mono ?_
  rintro e w' ⟨u, out, v', rest, h3, h4⟩
  obtain ⟨A, c, rfl⟩ := h4.row.shape
  have hl := h4.pm.length_eq
  rw [List.length_append] at hl
  obtain ⟨a1, a2, a3, a4, a5, a6, a7, a8, a9, a10, a11, a12, a13⟩ := h2
  refine ⟨A, out.length, c, h3, by omega, s, v', rest, h4.rn, a1, a2, a3, a4, a5, a6, a7, by omega, a9, by omega, by omega, by omega, fun x hx => a13 x (h4.pm.mem_iff.1 (List.mem_append_right _ hx))⟩
theorem CNext.flush (h : CNext w1 d q r i N O L W) (hi : i ≤ 100) : Calls Try.prog 18 #[.pointer (some ⟨d, 0, none⟩)] W fun e w' => ∃ A k c s v, e = .returned (.slice A k c) ∧ k ≤ 100 ∧ (k : Int) = N - O ∧ Rn w1 d s v [] w' ∧ s.closed = true := by
  have hn := h.nums
  obtain ⟨s, v, l, h1, h2⟩ := h
  have h9 := h2.df
  refine (h1.flush (by omega) h2.tm).mono ?_
  rintro e w' ⟨u, out, v', h3, h4⟩
  obtain ⟨A, c, rfl⟩ := h4.row.shape
  have hl := h4.pm.length_eq
  exact ⟨A, out.length, c, _, v', h3, by omega, by omega, h4.rn, rfl⟩
theorem rn_flushed {s : Bs} {v : Value} (h : Rn w1 d s v [] W) : Calls Try.prog 18 #[.pointer (some ⟨d, 0, none⟩)] W fun e w' => ∃ A c, e = .returned (.slice A 0 c) ∧ Below w1.heap.size w1 w' := by
  refine (h.flush (by simp) (fun x hx => by cases hx)).mono ?_
  rintro e w' ⟨u, out, v', h3, h4⟩
  obtain ⟨A, c, rfl⟩ := h4.row.shape
  have hl := h4.pm.length_eq
  exact ⟨A, c, by rw [h3, hl]; rfl, h4.rn.b⟩
/-- What may come of a Push. -/
inductive CPw (r N O L : Int) : Int → Int → Int → Prop
  | none : CPw r N O L 2 N L
  | late : CPw r N O L 7 N (L + 1)
  | full : N - O = r → CPw r N O L 6 N L
  | ok : CPw r N O L 0 (N + 1) L
theorem CNext.push (h : CNext w1 d q r i N O L W) (hi : i ≤ 99) (q0 : 0 ≤ q) (q1 : q ≤ 255) (t k0 k1 k2 : Int) : ∃ c N' L', CPw r N O L c N' L' ∧ Calls Try.prog 12 #[.pointer (some ⟨d, 0, none⟩), .int .i64 t, kv k0 k1 k2] W fun e w' => e = .returned (.int .i64 c) ∧ CNext w1 d q r (i + 1) N' O L' w' := by
  have hn := h.nums
  obtain ⟨s, v, l, h1, h2⟩ := h
  have h9 := h2.df
  have hok := h2.ok (by omega) q0 q1
  have hP := h1.push (by omega) hok t k0 k1 k2
  obtain ⟨a1, a2, a3, a4, a5, a6, a7, a8, a9, a10, a11, a12, a13⟩ := h2
  unfold RPush at hP
  cases hins : instB t with
  | false =>
    rw [Bs.push_range a3 hins] at hP
    refine ⟨2, N, L, .none, hP.mono ?_⟩
    rintro e w' ⟨h3, v', l', h4, h5⟩
    have h5 : l'.Perm l := h5
    have hle := h5.length_eq
    exact ⟨h3, s, v', l', h4, a1, a2, a3, a4, a5, a6, a7, by omega, a9, a10, by omega, by omega, fun x hx => a13 x (h5.mem_iff.1 hx)⟩
  | true =>
    have hit := instB_iff.1 hins
    cases htl : s.tl t with
    | true =>
      rw [Bs.push_late a3 hins htl] at hP
      refine ⟨7, N, L + 1, .late, hP.mono ?_⟩
      rintro e w' ⟨h3, v', l', h4, h5⟩
      have h5 : l'.Perm l := h5
      have hle := h5.length_eq
      refine ⟨h3, _, v', l', h4, a1, a2, a3, a4, a5, a6, ?_, by omega, by omega, a10, by omega, by omega, fun x hx => a13 x (h5.mem_iff.1 hx)⟩
      show s.late + 1 = L + 1
      rw [a7]
    | false =>
      by_cases hr : s.room ≤ (l.length : Int)
      · rw [Bs.push_full a3 hins htl hr] at hP
        refine ⟨6, N, L, .full (by omega), hP.mono ?_⟩
        rintro e w' ⟨h3, v', l', h4, h5⟩
        have h5 : l'.Perm l := h5
        have hle := h5.length_eq
        exact ⟨h3, s, v', l', h4, a1, a2, a3, a4, a5, a6, a7, by omega, a9, a10, by omega, by omega, fun x hx => a13 x (h5.mem_iff.1 hx)⟩
      · rw [Bs.push_ok a3 hins htl hr] at hP
        refine ⟨0, N + 1, L, .ok, hP.mono ?_⟩
        rintro e w' ⟨h3, v', l', h4, h5⟩
        have h5 : l'.Perm (l ++ [⟨t, s.next, k0, k1, k2⟩]) := h5
        have hle := h5.length_eq
        rw [List.length_append, List.length_singleton] at hle
        refine ⟨h3, _, v', l', h4, a1, a2, a3, ?_, ?_, ?_, a7, by omega, a9, a10, by omega, by omega, fun x hx => ?_⟩
        · show -1152921504606846976 ≤ (if behB s.mq s.mt t = true then s.mt else t)
          split <;> omega
        · show (if behB s.mq s.mt t = true then s.mt else t) ≤ 1152921504606846976
          split <;> omega
        · show s.next + 1 = N + 1
          rw [a6]
        · rcases List.mem_append.1 (h5.mem_iff.1 hx) with hx | hx
          · exact a13 x hx
          · rw [List.mem_singleton.1 hx]; exact hit.2
end
/-! ### The walk -/
set_option maxHeartbeats 64000000 in
theorem counts_walk (x : Int × Int) (hx : (0 ≤ x.1 ∧ x.1 ≤ 255) ∧ 0 ≤ x.2 ∧ x.2 ≤ 255) (l : List Ax) (hl : ∀ a ∈ l, a.ok) (A : Option Addr) (cap : Nat) (hc : l.length ≤ cap) (hm : cap ≤ maxLen) (w : World) (hs : SlAt w A 5 (l.map Ax.cells)) :
    Calls Try.prog 7 #[.agg #[.int .u8 x.1, .int .u8 x.2], .slice A l.length cap] w fun e w' => e = .returned (.bool true) ∧ Below w.heap.size w w' := by
  obtain ⟨xa, xb⟩ := x
  obtain ⟨⟨xa0, xa1⟩, xb0, xb1⟩ := hx
  dsimp only at *
  have cA : ∀ {W : World}, Below w.heap.size w W → Calls Try.prog 9 #[] W fun e w' => e = .returned (.bool true) ∧ Below w.heap.size w w' := fun {W} hb => (iawake_ok W).mono fun _ _ ⟨x, y⟩ => ⟨x, hb.trans (y.mono hb.size)⟩
  have hB0 : Below w.heap.size w (w.alloc (.cells #[.int .u8 xa, .int .u8 xb] 58)) := (Below.refl _ _).alloc (Nat.le_refl _) _
  by_cases hz : 60 < l.length
  · have hzI : (60 : Int) < (l.length : Int) := by omega
    clear hz hl hc hm hs
    go_enter Try.func7, Try.ntmps7
    go_wp2_with (first
      | (go_at_call 9; (with_reducible refine (cA hB0).mono ?_); rintro e w1 ⟨rfl, hB1⟩)
      | (go_at_call 9; (with_reducible refine (cA hB1).mono ?_); rintro e w2 ⟨rfl, hB2⟩))
    go_ret
    exact ⟨rfl, by assumption⟩
  have hzI : ¬ (60 : Int) < (l.length : Int) := by omega
  obtain ⟨n, hn⟩ : ∃ n, n = l.length := ⟨_, rfl⟩
  have hn60 : n ≤ 60 := by omega
  have hel : ∀ i, i < n → ∃ r : Ax, r.ok ∧ ∀ {W : World}, Below w.heap.size w W → ∃ g o, A = some ⟨g, o, none⟩ ∧ W.cell? ⟨g, o + i * 5, none⟩ = some (.int .u8 r.k) ∧ W.cell? ⟨g, o + i * 5 + 1, none⟩ = some (.int .i64 r.t) ∧ W.cell? ⟨g, o + i * 5 + 2, none⟩ = some (.int .i64 r.a) ∧ W.cell? ⟨g, o + i * 5 + 3, none⟩ = some (.int .i64 r.b) ∧ W.cell? ⟨g, o + i * 5 + 4, none⟩ = some (.int .i64 r.c) := fun i hi => by
    obtain ⟨r, hr⟩ : ∃ r, l[i]? = some r := ⟨_, List.getElem?_eq_getElem (by omega)⟩
    exact ⟨r, hl r (List.mem_of_getElem? hr), fun {W} hb => sl_at5 (hs.below hb) hr⟩
  obtain ⟨q, hq⟩ : ∃ q, xa % 30 = q := ⟨_, rfl⟩
  obtain ⟨r9, hr9⟩ : ∃ r9, xb % 9 = r9 := ⟨_, rfl⟩
  have q0 : 0 ≤ q := by omega
  have q1 : q ≤ 255 := by omega
  have r0 : 0 ≤ r9 := by omega
  have r1 : r9 ≤ 8 := by omega
  have cN := fun W => inew_ok q (1 + r9) q0 (by omega) (by omega) (by omega) W
  have hbox : ∀ {W : World}, Below (w.alloc (.cells #[.int .u8 xa, .int .u8 xb] 58)).heap.size (w.alloc (.cells #[.int .u8 xa, .int .u8 xb] 58)) W → W.cell? ⟨w.heap.size, 0, none⟩ = some (.int .u8 xa) ∧ W.cell? ⟨w.heap.size, 1, none⟩ = some (.int .u8 xb) := fun {W} hb => by
    have h := (Fb.new w 58 #[.int .u8 xa, .int .u8 xb]).below hb
    exact ⟨h.cell 0, h.cell 1⟩
  have cA2 : ∀ {W : World}, Below (w.alloc (.cells #[.int .u8 xa, .int .u8 xb] 58)).heap.size (w.alloc (.cells #[.int .u8 xa, .int .u8 xb] 58)) W → Calls Try.prog 9 #[] W fun e w' => e = .returned (.bool true) ∧ Below (w.alloc (.cells #[.int .u8 xa, .int .u8 xb] 58)).heap.size (w.alloc (.cells #[.int .u8 xa, .int .u8 xb] 58)) w' := fun {W} hb => (iawake_ok W).mono fun _ _ ⟨x, y⟩ => ⟨x, hb.trans (y.mono hb.size)⟩
  have hBx : Below (w.alloc (.cells #[.int .u8 xa, .int .u8 xb] 58)).heap.size (w.alloc (.cells #[.int .u8 xa, .int .u8 xb] 58)) (w.alloc (.cells #[.int .u8 xa, .int .u8 xb] 58)) := Below.refl _ _
  rw [← hn] at hzI ⊢
  have HEL := Lib.hid hel
  have HN := Lib.hid hn60
  have HB0 := Lib.hid hB0
  clear hz hl hc hm hs hel hn60 hn cA hB0
  go_enter Try.func7, Try.ntmps7
  go_wp2_with (first
    | (go_at_call 9; (with_reducible refine (cA2 hBx).mono ?_); rintro e w1 ⟨rfl, hB1⟩; obtain ⟨p0, p1⟩ := hbox hB1)
    | (go_at_call 10; (with_reducible refine (cN _).mono ?_); rintro e w2 ⟨d, rfl, hD2, hb2⟩))
  have HB1 := Lib.hid (HB0.out.trans (hB1.mono HB0.out.size))
  have HST := Lib.hid (show CtRel w1 d q (1 + r9) n n (.int .i64 0) (.int .i64 0) (.int .i64 0) (.int .i64 0) w2 from ⟨0, 0, 0, 0, by omega, rfl, rfl, rfl, rfl, _, _, _, rn_new hD2 hb2, rfl, rfl, rfl, (by show (-1152921504606846976 : Int) ≤ 0; decide), (by show (0 : Int) ≤ 1152921504606846976; decide), rfl, rfl, by decide, Int.le_refl 0, Int.le_refl 0, rfl, (by show (0 : Int) ≤ 1 + r9; omega), fun x hx => (by cases hx)⟩)
  have HR := Lib.hid (And.intro q0 q1)
  clear hbox hB1 hD2 hb2 cA2 cN hBx p0 p1 hq hr9 xa0 xa1 xb0 xb1 HB0 q0 q1
  go_loopg [8, 9, 10, 37] n (fun g s8 s9 s10 s37 wr => CtRel w1 d q (1 + r9) n g s8 s9 s10 s37 wr)
  case atStart => exact HST.out
  case round =>
    clear HST
    obtain ⟨i, N, O, L, hig, rfl, rfl, rfl, rfl, hK⟩ := hrel
    obtain ⟨y0, y1, y2, y3, y4⟩ := hK.nums
    have hi9 : (i : Int) ≤ 60 := by have := HN.out; omega
    have HI9 := Lib.hid (show i + 1 ≤ 100 by have := HN.out; omega)
    cases gk with
    | zero =>
      obtain rfl : i = n := by omega
      have hin : ¬ (i : Int) < (i : Int) := by omega
      have cF := hK.flush (by have := HN.out; omega)
      have cF2 := fun {s : Bs} {v : Value} {W : World} (h : Rn w1 d s v [] W) => rn_flushed h
      clear hK hig
      go_wp2_with (first
        | (go_at_call 18; (with_reducible refine cF.mono ?_); rintro e w3 ⟨A3, k3, c3, s3, v3, rfl, hk3, hkk, hR3, hc3⟩; have cC := hR3.closed; rw [hc3] at cC; have HC3 := Lib.hid hc3; clear hc3)
        | (go_at_call 21; (with_reducible refine cC.mono ?_); rintro e w4 ⟨rfl, rfl⟩)
        | (go_at_call 18; (with_reducible refine (cF2 hR3).mono ?_); rintro e w5 ⟨A5, c5, rfl, hB5⟩))
      go_ret
      exact ⟨rfl, HB1.out.trans (hB5.mono HB1.out.size)⟩
    | succ g =>
      have hin : (i : Int) < (n : Int) := by omega
      have hiz : (0 : Int) ≤ (i : Int) := by omega
      obtain ⟨⟨k, t, ka, kb, kc⟩, ⟨⟨k0, k1⟩, ht, hka, hkb, hkc⟩, hcell⟩ := HEL.out i (by omega)
      obtain ⟨gg, og, rfl, c0, c1, c2, c3, c4⟩ := hcell (HB1.out.trans (hK.b.mono HB1.out.size))
      have HI := Lib.hid (show i + 1 + g = n from by omega)
      dsimp only at *
      have cT := fun {W : World} (h : CNext w1 d q (1 + r9) i N O L W) => h.tick t
      have cK := fun {W : World} (h : CNext w1 d q (1 + r9) i N O L W) => h.take (by have := HI9.out; omega) HR.out.1 HR.out.2
      have cP := CNext.push (hK.below ((Below.refl _ _).alloc (Nat.le_refl _) (.cells #[.int .u8 k, .int .i64 t, .int .i64 ka, .int .i64 kb, .int .i64 kc] 35))) (by have := HN.out; omega) HR.out.1 HR.out.2 t ka kb kc
      have hX := hK.below ((Below.refl _ _).alloc (Nat.le_refl _) (.cells #[.int .u8 k, .int .i64 t, .int .i64 ka, .int .i64 kb, .int .i64 kc] 35))
      have HX := Lib.hid hX
      obtain ⟨m, hkm⟩ : ∃ m, k % 8 = m := ⟨_, rfl⟩
      have m0 : 0 ≤ m := by omega
      have m1 : m ≤ 7 := by omega
      clear hK hcell hig ht hka hkb hkc hX
      by_cases h4 : m = 4
      · subst h4
        clear cK cP m0 m1
        go_wp2_with (first
          | (go_at_call 14; (with_reducible refine (cT HX.out).mono ?_); rintro e w3 ⟨⟨c, rfl⟩, hN⟩; obtain ⟨z0, z1, z2, z3, z4⟩ := CNext.nums hN)
          | (go_at_call 20; (with_reducible refine (CNext.len hN HI9.out).mono ?_); rintro e w4 ⟨rfl, rfl⟩)
          | (go_at_call 23; (with_reducible refine (CNext.late hN).mono ?_); rintro e w4 ⟨rfl, rfl⟩)
          | (go_at_call 21; (with_reducible refine (CNext.closed hN).mono ?_); rintro e w4 ⟨rfl, rfl⟩))
        go_roundg g
        case measure => exact Nat.lt_succ_self g
        case rel => exact ⟨i + 1, N, O, L, HI.out, by go_num, rfl, rfl, rfl, hN⟩
      have e4 : (m == 4) = false := by rw [beq_eq_false_iff_ne]; exact h4
      by_cases h5 : m = 5
      · subst h5
        clear cT cP m0 m1 e4
        go_wp2_with (first
          | (go_at_call 17; (with_reducible refine (cK HX.out).mono ?_); rintro e w3 ⟨A3, k3, c3, rfl, hk3, hN⟩; obtain ⟨z0, z1, z2, z3, z4⟩ := CNext.nums hN)
          | (go_at_call 20; (with_reducible refine (CNext.len hN HI9.out).mono ?_); rintro e w4 ⟨rfl, rfl⟩)
          | (go_at_call 23; (with_reducible refine (CNext.late hN).mono ?_); rintro e w4 ⟨rfl, rfl⟩)
          | (go_at_call 21; (with_reducible refine (CNext.closed hN).mono ?_); rintro e w4 ⟨rfl, rfl⟩))
        go_roundg g
        case measure => exact Nat.lt_succ_self g
        case rel => exact ⟨i + 1, N, _, L, HI.out, by go_num, rfl, rfl, rfl, hN⟩
      have e5 : (m == 5) = false := by rw [beq_eq_false_iff_ne]; exact h5
      by_cases h6 : m = 6
      · subst h6
        clear cT cP m0 m1 e4 e5
        go_wp2_with (first
          | (go_at_call 17; (with_reducible refine (cK HX.out).mono ?_); rintro e w3 ⟨A3, k3, c3, rfl, hk3, hN⟩; obtain ⟨z0, z1, z2, z3, z4⟩ := CNext.nums hN)
          | (go_at_call 20; (with_reducible refine (CNext.len hN HI9.out).mono ?_); rintro e w4 ⟨rfl, rfl⟩)
          | (go_at_call 23; (with_reducible refine (CNext.late hN).mono ?_); rintro e w4 ⟨rfl, rfl⟩)
          | (go_at_call 21; (with_reducible refine (CNext.closed hN).mono ?_); rintro e w4 ⟨rfl, rfl⟩))
        go_roundg g
        case measure => exact Nat.lt_succ_self g
        case rel => exact ⟨i + 1, N, _, L, HI.out, by go_num, rfl, rfl, rfl, hN⟩
      have e6 : (m == 6) = false := by rw [beq_eq_false_iff_ne]; exact h6
      obtain ⟨c, N', L', hw, cP⟩ := cP
      clear cT cK HX
      cases hw with
      | none =>
        clear h4 h5 h6
        go_wp2_with (first
          | (go_at_call 12; (with_reducible refine cP.mono ?_); rintro e w3 ⟨rfl, hN⟩; obtain ⟨z0, z1, z2, z3, z4⟩ := CNext.nums hN)
          | (go_at_call 20; (with_reducible refine (CNext.len hN HI9.out).mono ?_); rintro e w4 ⟨rfl, rfl⟩)
          | (go_at_call 23; (with_reducible refine (CNext.late hN).mono ?_); rintro e w4 ⟨rfl, rfl⟩)
          | (go_at_call 21; (with_reducible refine (CNext.closed hN).mono ?_); rintro e w4 ⟨rfl, rfl⟩))
        go_roundg g
        case measure => exact Nat.lt_succ_self g
        case rel => exact ⟨i + 1, N, O, L, HI.out, by go_num, rfl, rfl, rfl, hN⟩
      | late =>
        clear h4 h5 h6
        go_wp2_with (first
          | (go_at_call 12; (with_reducible refine cP.mono ?_); rintro e w3 ⟨rfl, hN⟩; obtain ⟨z0, z1, z2, z3, z4⟩ := CNext.nums hN)
          | (go_at_call 20; (with_reducible refine (CNext.len hN HI9.out).mono ?_); rintro e w4 ⟨rfl, rfl⟩)
          | (go_at_call 23; (with_reducible refine (CNext.late hN).mono ?_); rintro e w4 ⟨rfl, rfl⟩)
          | (go_at_call 21; (with_reducible refine (CNext.closed hN).mono ?_); rintro e w4 ⟨rfl, rfl⟩))
        go_roundg g
        case measure => exact Nat.lt_succ_self g
        case rel => exact ⟨i + 1, N, O, L + 1, HI.out, by go_num, rfl, rfl, rfl, hN⟩
      | full hf =>
        clear h4 h5 h6
        go_wp2_with (first
          | (go_at_call 12; (with_reducible refine cP.mono ?_); rintro e w3 ⟨rfl, hN⟩; obtain ⟨z0, z1, z2, z3, z4⟩ := CNext.nums hN)
          | (go_at_call 20; (with_reducible refine (CNext.len hN HI9.out).mono ?_); rintro e w4 ⟨rfl, rfl⟩)
          | (go_at_call 23; (with_reducible refine (CNext.late hN).mono ?_); rintro e w4 ⟨rfl, rfl⟩)
          | (go_at_call 21; (with_reducible refine (CNext.closed hN).mono ?_); rintro e w4 ⟨rfl, rfl⟩))
        go_roundg g
        case measure => exact Nat.lt_succ_self g
        case rel => exact ⟨i + 1, N, O, L, HI.out, by go_num, rfl, rfl, rfl, hN⟩
      | ok =>
        clear h4 h5 h6
        go_wp2_with (first
          | (go_at_call 12; (with_reducible refine cP.mono ?_); rintro e w3 ⟨rfl, hN⟩; obtain ⟨z0, z1, z2, z3, z4⟩ := CNext.nums hN)
          | (go_at_call 20; (with_reducible refine (CNext.len hN HI9.out).mono ?_); rintro e w4 ⟨rfl, rfl⟩)
          | (go_at_call 23; (with_reducible refine (CNext.late hN).mono ?_); rintro e w4 ⟨rfl, rfl⟩)
          | (go_at_call 21; (with_reducible refine (CNext.closed hN).mono ?_); rintro e w4 ⟨rfl, rfl⟩))
        go_roundg g
        case measure => exact Nat.lt_succ_self g
        case rel => exact ⟨i + 1, N + 1, O, L, HI.out, by go_num, rfl, rfl, rfl, hN⟩
end Go.Proofs.Ytophgpmjalpmaaa
