/-
  WindowParts's walk.
-/
import Derived.Test.YtpmimmbheieobaaWTold
import Derived.Test.YtpmimmbheieobaaWArg
namespace Go.Proofs.Ytpmimmbheieobaa
open Go.RowKit
set_option linter.unusedVariables false
set_option linter.unusedSimpArgs false
set_option maxRecDepth 100000

theorem Sh.fst_near {s : Sh} (h : s.ok) {a b : Int} (hab : a ≤ b) : s.fst b ≤ s.fst a + (b - a) := by
  rcases Int.lt_or_le (s.fst a + (b - a)) (s.fst b) with hl | hl
  · exfalso
    have f0 := s.fst_nn a
    have h1 := (Sh.lt_fst h (i := s.fst a + (b - a)) (by omega) b).1 hl
    have h2 := Sh.at_op h (cl a - s.w)
    have h3 : cl b ≤ cl a + (b - a) := by unfold cl; omega
    have h4 : s.at (s.fst a + (b - a)) = s.at (s.fst a) + (b - a) * s.sl := by unfold Sh.at; rw [Int.add_mul]; omega
    have h5 : (b - a) * 1 ≤ (b - a) * s.sl := Int.mul_le_mul_of_nonneg_left h.s0 (by omega)
    unfold Sh.fst at h1 h4 f0
    omega
  · exact hl
theorem told2 {s : Sh} (h : s.ok) (a b : Int) {gs : Nat} {w : World} (hs : Fb w gs 25 (shc s)) (n : Nat) (hn : max (s.fst a) (s.fst b) - s.fst a = n) (hn9 : n < 900) :
    Calls Try.prog 22 #[.int .i64 a, .int .i64 b, .pointer (some ⟨gs, 0, none⟩)] w fun e w' => ∃ A c, e = .returned (.slice A n c) ∧ TmR w.heap.size w' (.slice A n c) (ups (s.fst a) n) ∧ Below w.heap.size w w' :=
  (told_any h a b hs n hn hn9).mono fun e w' ⟨v, h1, h2, h3⟩ => by
    obtain ⟨A, c, hv⟩ := h2.shape
    rw [ups_len] at hv
    subst hv
    exact ⟨A, c, h1, h2, h3⟩
theorem Hs.low {w W W' : World} {l : List (Nat × TypeId × Array Value)} {G : Nat} (h : Hs w l W) (hb : Below G W W') (hg : w.heap.size ≤ G) (hl : ∀ p ∈ l, p.1 < G) : Hs w l W' := ⟨h.1.trans (hb.mono hg), fun p hp => (h.2 p hp).low (hl p hp) hb⟩
/-- A round of the comparison. -/
def PcRel (w : World) (n : Nat) (W0 : World) (gk : Nat) (s63 : Value) (wr : World) : Prop := ∃ k : Nat, k + gk = n ∧ s63 = .int .i64 k ∧ Below W0.heap.size W0 wr
set_option maxHeartbeats 4000000 in
theorem parts_walk (x0 x1 x2 a l0 l1 : Int) (hx0 : 0 ≤ x0 ∧ x0 ≤ 255) (hx1 : 0 ≤ x1 ∧ x1 ≤ 255) (hx2 : 0 ≤ x2 ∧ x2 ≤ 255) (ha : -32768 ≤ a ∧ a ≤ 32767) (hl0 : 0 ≤ l0 ∧ l0 ≤ 255) (hl1 : 0 ≤ l1 ∧ l1 ≤ 255) (w : World) :
    Calls Try.prog 8 #[.agg #[.int .u8 x0, .int .u8 x1, .int .u8 x2], .int .i16 a, .agg #[.int .u8 l0, .int .u8 l1]] w fun e w' => e = .returned (.bool true) ∧ Below w.heap.size w w' := by
  have hs2 := hs2 w 45 47 #[.int .u8 x0, .int .u8 x1, .int .u8 x2] #[.int .u8 l0, .int .u8 l1]
  have cA := fun {l W} (hR : Hs w l W) => upH hR (wawake_ok W)
  obtain ⟨A, hA⟩ : ∃ A, A = 1 + x0 := ⟨_, rfl⟩
  obtain ⟨S, hS⟩ : ∃ S, S = 1 + x1 := ⟨_, rfl⟩
  obtain ⟨B, hB⟩ : ∃ B, B = x2 - 100 := ⟨_, rfl⟩
  obtain ⟨b, hb⟩ : ∃ b, b = a + l0 := ⟨_, rfl⟩
  obtain ⟨c, hc⟩ : ∃ c, c = b + l1 := ⟨_, rfl⟩
  have v0 : wrap64 x0 = x0 := wrap64_fit (by omega) (by omega)
  have v1 : wrap64 x1 = x1 := wrap64_fit (by omega) (by omega)
  have v2 : wrap64 x2 = x2 := wrap64_fit (by omega) (by omega)
  have v3 : wrap64 (1 + x0) = A := by rw [← hA]; exact wrap64_fit (by omega) (by omega)
  have v4 : wrap64 (1 + x1) = S := by rw [← hS]; exact wrap64_fit (by omega) (by omega)
  have v5 : wrap64 (x2 - 100) = B := by rw [← hB]; exact wrap64_fit (by omega) (by omega)
  have v6 : wrap64 a = a := wrap64_fit (by omega) (by omega)
  have v7 : wrap64 l0 = l0 := wrap64_fit (by omega) (by omega)
  have v8 : wrap64 l1 = l1 := wrap64_fit (by omega) (by omega)
  have v9 : wrap64 (a + l0) = b := by rw [← hb]; exact wrap64_fit (by omega) (by omega)
  have va : wrap64 (b + l1) = c := by rw [← hc]; exact wrap64_fit (by omega) (by omega)
  have h : (⟨A, S, B⟩ : Sh).ok := by constructor <;> (simp only; omega)
  have m1 := Sh.fst_mono h (a := a) (b := b) (by omega)
  have m2 := Sh.fst_mono h (a := b) (b := c) (by omega)
  have m3 := Sh.fst_near h (a := a) (b := b) (by omega)
  have m4 := Sh.fst_near h (a := b) (b := c) (by omega)
  obtain ⟨n1, hn1⟩ : ∃ n1 : Nat, (⟨A, S, B⟩ : Sh).fst b - (⟨A, S, B⟩ : Sh).fst a = n1 := ⟨((⟨A, S, B⟩ : Sh).fst b - (⟨A, S, B⟩ : Sh).fst a).toNat, by omega⟩
  obtain ⟨n2, hn2⟩ : ∃ n2 : Nat, (⟨A, S, B⟩ : Sh).fst c - (⟨A, S, B⟩ : Sh).fst b = n2 := ⟨((⟨A, S, B⟩ : Sh).fst c - (⟨A, S, B⟩ : Sh).fst b).toNat, by omega⟩
  have cac := fun {W gs} (hs : Fb W gs 25 (shc ⟨A, S, B⟩)) => told2 h a c hs (n1 + n2) (by omega) (by omega)
  have cab := fun {W gs} (hs : Fb W gs 25 (shc ⟨A, S, B⟩)) => told2 h a b hs n1 (by omega) (by omega)
  have cbc := fun {W gs} (hs : Fb W gs 25 (shc ⟨A, S, B⟩)) => told2 h b c hs n2 (by omega) (by omega)
  have cba := fun {W gs} (hs : Fb W gs 25 (shc ⟨A, S, B⟩)) => told2 h b a hs 0 (by omega) (by omega)
  have caa := fun {W gs} (hs : Fb W gs 25 (shc ⟨A, S, B⟩)) => told2 h a a hs 0 (by omega) (by omega)
  have hfb : (⟨A, S, B⟩ : Sh).fst b = (⟨A, S, B⟩ : Sh).fst a + n1 := by omega
  have hn9 : n1 + n2 < 900 := by omega
  have f0 := (⟨A, S, B⟩ : Sh).fst_nn a
  have f1 := Sh.fst_high h a
  generalize (⟨A, S, B⟩ : Sh).fst b = fb at *
  generalize (⟨A, S, B⟩ : Sh).fst c = fc at *
  generalize (⟨A, S, B⟩ : Sh).fst a = fa at *
  subst hfb
  obtain ⟨n, hn⟩ : ∃ n, n1 + n2 = n := ⟨_, rfl⟩
  rw [hn] at cac hn9
  have HS := Lib.hid hn
  have HN := Lib.hid hn9
  have HF := Lib.hid f0
  have HF1 := Lib.hid f1
  clear hx0 hx1 hx2 ha hl0 hl1 hA hS hB hb hc h m1 m2 m3 m4 hn1 hn2 hn9 f0 f1 hn
  go_enter Try.func8, Try.ntmps8
  go_wp2_with (first
    | (go_at_call 10; (with_reducible refine (cA hs2).mono ?_); rintro e w1 ⟨rfl, hR1⟩; obtain ⟨c0, c1, c2⟩ := hR1.c3 (.tail _ (.head _)); have hR2 := hR1.add 25 #[.int .i64 A, .int .i64 S, .int .i64 B]; obtain ⟨d0, d1⟩ := hR2.c2 (.tail _ (.head _)); have F1 := Lib.hid (show Fb (w1.alloc (.cells #[.int .i64 A, .int .i64 S, .int .i64 B] 25)) w1.heap.size 25 (shc ⟨A, S, B⟩) from hR2.2 _ (.head _)))
    | (go_at_call 22; (with_reducible refine (cac F1.out).mono ?_); rintro e w4 ⟨A4, c4, rfl, hr4, hB4⟩; have HR4 := Lib.hid (hR2.below hB4); have Hr4 := Lib.hid hr4; have F4 := Lib.hid (F1.out.below hB4); clear hr4 hB4)
    | (go_at_call 22; (with_reducible refine (cab F4.out).mono ?_); rintro e w5 ⟨A5, c5, rfl, hr5, hB5⟩; have HB5 := Lib.hid hB5; have Hr5 := Lib.hid hr5; have F5 := Lib.hid (F4.out.below hB5); clear hr5 hB5)
    | (go_at_call 22; (with_reducible refine (cbc F5.out).mono ?_); rintro e w6 ⟨A6, c6, rfl, hr6, hB6⟩; have HB6 := Lib.hid hB6; have Hr6 := Lib.hid hr6; clear hr6 hB6)
    | (at_builtin; refine wpList_app_ints rfl (.tmp 50) (.tmp 54) rfl (B := w4.heap.size) (N := w5.heap.size) (v := .slice A5 n1 c5) (u := .slice A6 n2 c6) (l := ups fa n1) (new := ups (fa + n1) n2) rfl rfl (row_below Hr5.out HB6.out) Hr6.out (by rw [ups_len, ups_len]; have := HN.out; have := HS.out; omega) (by have := HB5.out.size; have := HB6.out.size; omega) ?_; intro v7 w7 hr7 hg7 hl7; rw [ups_add, HS.out] at hr7; obtain ⟨A7, c7, hv7⟩ := hr7.shape; rw [ups_len] at hv7; subst hv7; have Hr7 := Lib.hid hr7; have HG7 := Lib.hid hg7; clear hr7 hg7 hl7)
    | fail)
  have hb4 := HR4.out.b.size
  have hlt5 : ∀ k, (Value.slice A5 n1 c5).ownBlock = some k → w4.heap.size ≤ k := fun k hk => (World.ownsRow.lt Hr5.out k hk).1
  have hlt4 : ∀ k, (Value.slice A4 n c4).ownBlock = some k → k < w4.heap.size := fun k hk => (World.ownsRow.lt Hr4.out k hk).2
  have hB7 : Below w4.heap.size w6 w7 := (Below.refl _ _).grown HG7.out (by have := HB5.out.size; have := HB6.out.size; omega) hlt5
  have hr4 : TmR (w1.alloc (.cells #[.int .i64 A, .int .i64 S, .int .i64 B] 25)).heap.size w7 (.slice A4 n c4) (ups fa n) := by
    refine World.ownsRow.kept (row_below (row_below Hr4.out HB5.out) HB6.out) HG7.out ?_
    cases hv : (Value.slice A4 n c4).ownBlock with
    | none => exact .inl rfl
    | some k => exact .inr fun e => by have := hlt4 k hv; have := hlt5 k e.symm; omega
  have hR7 := ((HR4.out.below HB5.out).below HB6.out).low hB7 hb4 (fun p hp => HR4.out.lt hp)
  have F7 := Lib.hid (show Fb w7 w1.heap.size 25 (shc ⟨A, S, B⟩) from hR7.2 _ (.head _))
  have HR7 := Lib.hid hR7
  have Hr4' := Lib.hid hr4
  clear HR4 Hr4 Hr5 HB5 HB6 Hr6 F1 F4 F5 HG7 hb4 hlt5 hlt4 hB7 hr4 hR7 hR2 hR1 c0 c1 c2 d0 d1 cA cac cab cbc hs2
  go_loopg [63] n (fun gk s63 wr => PcRel w n w7 gk s63 wr)
  case atStart => exact ⟨0, by omega, rfl, Below.refl _ _⟩
  case round =>
    obtain ⟨k, hkn, rfl, hb⟩ := hrel
    by_cases hlt : k < n
    · have t1 : (k : Int) < n := by omega
      obtain ⟨g4, c4', e4, hc4⟩ := TmR.at (row_below Hr4'.out hb) (by rw [ups_len]; omega)
      obtain ⟨g7, c7', e7, hc7⟩ := TmR.at (row_below Hr7.out hb) (by rw [ups_len]; omega)
      injection e4 with e4 e41 e42
      injection e7 with e7 e71 e72
      clear e41 e42 e71 e72
      subst e4 e7
      have y4 := hc4 k (fa + k) (ups_get fa hlt)
      have y7 := hc7 k (fa + k) (ups_get fa hlt)
      have HL := Lib.hid hlt
      have HK := Lib.hid hkn
      have HB := Lib.hid hb
      by_cases hk0 : 0 < k
      · obtain ⟨p, hp⟩ : ∃ p : Nat, p + 1 = k := ⟨k - 1, by omega⟩
        have y5 := hc4 p (fa + p) (ups_get fa (by omega))
        have g1 : decide (0 < k) = true := decide_eq_true hk0
        have g2 : decide (0 < (k : Int)) = true := decide_eq_true (by omega)
        have w1 : IntKind.i64.wrap ((k : Int) - 1) = (p : Int) := by rw [wrap_fit (by omega) (by have := HN.out; omega)]; omega
        have w2 : IntKind.i64.wrap (fa + (p : Int) + 1) = fa + (k : Int) := by rw [wrap_fit (by have := HF.out; omega) (by have := HF1.out; have := HN.out; omega)]; omega
        have t2 : (p : Int) < n := by omega
        clear hc4 hc7 hlt hkn hb hk0 hp
        go_wp2
        go_quiet (fail)
        go_wp2
        go_roundg (gk - 1)
        case measure => have := HK.out; have := HL.out; omega
        case rel => exact ⟨k + 1, by have := HK.out; have := HL.out; omega, by first | rfl | (rw [wrap64_fit (by omega) (by have := HN.out; have := HL.out; omega)]; rfl), below_drewN HB.out _⟩
      · obtain rfl : k = 0 := by omega
        have t2 : (0 : Int) < n := by omega
        clear hc4 hc7 hlt hkn hb hk0
        go_wp2
        go_quiet (fail)
        go_wp2
        go_roundg (gk - 1)
        case measure => have := HK.out; have := HL.out; omega
        case rel => exact ⟨0 + 1, by have := HK.out; have := HL.out; omega, by first | rfl | (rw [wrap64_fit (by omega) (by have := HN.out; have := HL.out; omega)]; rfl), below_drewN HB.out _⟩
    · have t1 : ¬ (k : Int) < n := by omega
      have F8 : Fb wr w1.heap.size 25 (shc ⟨A, S, B⟩) := F7.out.below hb
      have R8 := HR7.out.b.trans (hb.mono (HR7.out.b.size))
      clear hlt hkn
      have F8 := Lib.hid F8
      have R8 := Lib.hid R8
      go_wp2_with (first
        | (go_at_call 22; (with_reducible refine (cba F8.out).mono ?_); rintro e w8 ⟨A8, c8, rfl, hr8, hB8⟩; have HB8 := Lib.hid hB8; have F9 := Lib.hid (F8.out.below hB8); clear hr8 hB8)
        | (go_at_call 22; (with_reducible refine (caa F9.out).mono ?_); rintro e w9 ⟨A9, c9, rfl, hr9, hB9⟩; have HB9 := Lib.hid hB9; clear hr9 hB9)
        | fail)
      go_ret
      exact ⟨rfl, (R8.out.trans (HB8.out.mono R8.out.size)).trans (HB9.out.mono (by have := R8.out.size; have := HB8.out.size; omega))⟩
theorem parts_law (x : Int × Int × Int) (hx : u8b x.1 ∧ u8b x.2.1 ∧ u8b x.2.2) (a : Int) (a0 : -32768 ≤ a) (a1 : a ≤ 32767) (l : Int × Int) (hl : u8b l.1 ∧ u8b l.2) (w : World) :
    Calls Try.prog 8 #[.agg #[.int .u8 x.1, .int .u8 x.2.1, .int .u8 x.2.2], .int .i16 a, .agg #[.int .u8 l.1, .int .u8 l.2]] w fun e w' => e = .returned (.bool true) ∧ Below w.heap.size w w' := parts_walk x.1 x.2.1 x.2.2 a l.1 l.2 hx.1 hx.2.1 hx.2.2 ⟨a0, a1⟩ hl.1 hl.2 w
end Go.Proofs.Ytpmimmbheieobaa
