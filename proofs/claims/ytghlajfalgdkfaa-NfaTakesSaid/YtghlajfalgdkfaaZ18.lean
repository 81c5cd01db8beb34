/-
  MERGED (a claim has at most 60 files): NgMv.
-/
import Derived.Test.YtghlajfalgdkfaaZ17
import Derived.Deep.RegionWith
/-
  moves: those of a state by a symbol, any.
-/
namespace Go.Proofs.Ytghlajfalgdkfaa
open Go.RowKit
set_option linter.unusedVariables false
set_option linter.unusedSimpArgs false
set_option maxRecDepth 100000

/-- Moves, where they lie. -/
def MvS (w : World) (v : Value) (M : List Mo) : Prop := ∃ A c, v = .slice A M.length c ∧ ∀ (j : Nat) (x : Mo), M[j]? = some x → ∃ g o, A = some ⟨g, o, none⟩ ∧ w.cell? ⟨g, o + j * 3, none⟩ = some (.int .i64 x.1.1) ∧ w.cell? ⟨g, o + j * 3 + 1, none⟩ = some (.bool x.1.2) ∧ w.cell? ⟨g, o + j * 3 + 2, none⟩ = some (.int .i64 (x.2 : Int))
theorem MvS.below {w w' : World} {v : Value} {M : List Mo} (h : MvS w v M) (hb : Below w.heap.size w w') : MvS w' v M := by
  obtain ⟨A, c, h1, h2⟩ := h
  refine ⟨A, c, h1, fun j x hj => ?_⟩
  obtain ⟨g, o, k1, k2, k3, k4⟩ := h2 j x hj
  exact ⟨g, o, k1, cell_below k2 hb, cell_below k3 hb, cell_below k4 hb⟩
def MvQ (W0 W : World) (M : List Mo) (e : Ending) (w' : World) : Prop := ∃ v, e = .returned v ∧ (∀ w, Below W0.heap.size W0 w → MvS w v M) ∧ Below W.heap.size W w'
/-- What the two searches read. -/
structure Sx (p q : Nat) (v : Value) (s : Sy) (W : World) : Prop where
  hp : W.cell? ⟨p, 0, none⟩ = some v
  hq : W.cell? ⟨q, 0, none⟩ = some (.int .i64 s.1)
  hq1 : W.cell? ⟨q, 1, none⟩ = some (.bool s.2)
theorem Sx.below {p q : Nat} {v : Value} {s : Sy} {W W' : World} (h : Sx p q v s W) (hb : Below W.heap.size W W') : Sx p q v s W' := ⟨cell_below h.hp hb, cell_below h.hq hb, cell_below h.hq1 hb⟩
theorem seaA_gen {p q g c : Nat} {L : List Mo} {s : Sy} {W : World} (h : Sx p q (.slice (some ⟨g, 0, none⟩) L.length c) s W) (hm : ∀ (j : Nat) (x : Mo), L[j]? = some x → MvA W g j x) (hs : L.Pairwise ltM) (hl : L.length ≤ 1000) :
    Calls Try.prog 62 #[.int .i64 (L.length : Int), .func (.func 63) #[] #[.pointer (some ⟨p, 0, none⟩), .pointer (some ⟨q, 0, none⟩)]] W fun e w' => e = .returned (.int .i64 (kA L s : Int)) ∧ Below W.heap.size W w' := by
  refine (search_any 63 #[.pointer (some ⟨p, 0, none⟩), .pointer (some ⟨q, 0, none⟩)] L.length (pA L s) W cf_A (by omega) (fun w i hb hi => ?_) (seaA_spec hs s).mono).mono ?_
  · have h' := h.below hb
    have hx := List.getElem?_eq_getElem hi
    have hm' := (hm i _ hx).below hb
    have e : pA L s i = decide (0 ≤ ordS L[i].1 s) := by unfold pA; rw [hx]
    rw [e]
    exact movesA_gen h'.hp h'.hq h'.hq1 hm'.a hm'.b hi hl
  · rintro e w' ⟨k, rfl, hk, hb⟩
    rw [hk.uniq (seaA_spec hs s)]
    exact ⟨rfl, hb⟩
theorem seaB_gen {p q g c : Nat} {L : List Mo} {s : Sy} {W : World} (h : Sx p q (.slice (some ⟨g, kA L s * 3, none⟩) (L.length - kA L s) c) s W) (hm : ∀ (j : Nat) (x : Mo), L[j]? = some x → MvA W g j x) (hs : L.Pairwise ltM) (hl : L.length ≤ 1000) :
    Calls Try.prog 62 #[.int .i64 ((L.length - kA L s : Nat) : Int), .func (.func 64) #[] #[.pointer (some ⟨p, 0, none⟩), .pointer (some ⟨q, 0, none⟩)]] W fun e w' => e = .returned (.int .i64 (mB L s : Int)) ∧ Below W.heap.size W w' := by
  refine (search_any 64 #[.pointer (some ⟨p, 0, none⟩), .pointer (some ⟨q, 0, none⟩)] (L.length - kA L s) (pB L s (kA L s)) W cf_B (by omega) (fun w i hb hi => ?_) (seaB_spec hs s).mono).mono ?_
  · have h' := h.below hb
    have hx := List.getElem?_eq_getElem (show kA L s + i < L.length by omega)
    have hm' := (hm _ _ hx).below hb
    have e : pB L s (kA L s) i = !decide (L[kA L s + i].1 = s) := by unfold pB; rw [hx]
    rw [e]
    have e3 : (kA L s + i) * 3 = kA L s * 3 + i * 3 := by omega
    have a := hm'.a
    have b := hm'.b
    rw [e3] at a b
    exact movesB_gen h'.hp h'.hq h'.hq1 a b hi (by omega)
  · rintro e w' ⟨k, rfl, hk, hb⟩
    rw [hk.uniq (seaB_spec hs s)]
    exact ⟨rfl, hb⟩
theorem sea_nil (f : Nat) (W : World) (cb : Array Value) (hf : f = 63 ∨ f = 64) : Calls Try.prog 62 #[.int .i64 0, .func (.func f) #[] cb] W fun e w' => e = .returned (.int .i64 0) ∧ Below W.heap.size W w' := by
  refine (search_any f cb 0 (fun _ => true) W (by rcases hf with rfl | rfl; exact cf_A; exact cf_B) (by omega) (fun w i hb hi => absurd hi (Nat.not_lt_zero _)) (fun a b _ _ h => h)).mono ?_
  rintro e w' ⟨k, rfl, ⟨hk, _⟩, hb⟩
  obtain rfl : k = 0 := by omega
  exact ⟨rfl, hb⟩
set_option maxHeartbeats 32000000 in
theorem moves_gen {B d i : Nat} {T : List St} {W0 W : World} {t : St} (s : Sy) (hM0 : Ma B d T W0) (hM : Ma B d T W) (ht : T[i]? = some t) (hs : t.2.1.Pairwise ltM) (hT : T.length ≤ 1000) (hl : t.2.1.length ≤ 1000) :
    Calls Try.prog 41 #[.pointer (some ⟨d, 0, none⟩), .int .i64 (i : Int), .agg #[.int .i64 s.1, .bool s.2]] W (MvQ W0 W (byS t.2.1 s)) := by
  obtain ⟨gs, cT, cs, e1, e2, e3, e4, e5⟩ := hM.at ht
  obtain ⟨A9, c9, hv9, hA9⟩ := (hM.mv i t ht).shape
  have hiT : i < T.length := (List.getElem?_eq_some_iff.1 ht).1
  have hmv := hM.mv i t ht
  have hmv0 := hM0.mv i t ht
  rw [hv9] at hmv hmv0 e4
  obtain ⟨L, hL⟩ : ∃ L, L = t.2.1 := ⟨_, rfl⟩
  rw [← hL] at hmv hmv0 hs hl hA9 e4 ⊢
  obtain ⟨n, hn⟩ : ∃ n, n = L.length := ⟨_, rfl⟩
  rw [← hn] at hmv hmv0 e4
  have hnc : n ≤ c9 := by
    rcases id hmv.2 with ⟨hv, h0⟩ | ⟨g, cap, cur, hv, hB, hgg, hcap, _⟩
    · omega
    · have := (Value.slice.inj hv).2.2
      omega
  obtain ⟨nT, hnT⟩ : ∃ nT, nT = T.length := ⟨_, rfl⟩
  rw [← hnT] at e1 hiT hT
  have hb1 : Below W.heap.size W (W.alloc (.cells #[.int .i64 s.1, .bool s.2] 44)) := (Below.refl _ _).alloc (Nat.le_refl _) _
  have a1 := (e1.below hb1).cell 0
  have m1 := cell_below e4 hb1
  have cH := has_any (i := i) a1 hiT
  have b2 : Below W.heap.size W ((W.alloc (.cells #[.int .i64 s.1, .bool s.2] 44)).alloc (.cells #[.slice A9 n c9] 67)) := hb1.alloc hb1.size _
  have hq := (Fb.new W 44 #[.int .i64 s.1, .bool s.2]).alloc (.cells #[.slice A9 n c9] 67)
  have hp := Fb.new (W.alloc (.cells #[.int .i64 s.1, .bool s.2] 44)) 67 #[.slice A9 n c9]
  rw [World.size_alloc] at hp
  obtain ⟨W2, hW2⟩ : ∃ W2, W2 = (W.alloc (.cells #[.int .i64 s.1, .bool s.2] 44)).alloc (.cells #[.slice A9 n c9] 67) := ⟨_, rfl⟩
  rw [← hW2] at hq hp b2
  have HS2 := Lib.hid (show Sx (W.heap.size + 1) W.heap.size (.slice A9 n c9) s W2.drew from ⟨hp.cell 0, hq.cell 0, hq.cell 1⟩)
  have HP := Lib.hid hp
  have HQ := Lib.hid hq
  have HB2 := Lib.hid b2
  have z0 : (0 : Int) ≤ (i : Int) := by omega
  have z1 : (i : Int) < (nT : Int) := by omega
  have z2 : (n : Int) ≤ (c9 : Int) := by omega
  have z3 : (0 : Int) ≤ (n : Int) := by omega
  have hK := (kA_spec hs s).1
  have hKm := (mB_spec hs s).1
  have hbl := byS_len hs s
  rw [← hn] at hK hKm
  obtain ⟨K, hKe⟩ : ∃ K, K = kA L s := ⟨_, rfl⟩
  obtain ⟨m, hme⟩ : ∃ m, m = mB L s := ⟨_, rfl⟩
  have y0 : (0 : Int) ≤ (K : Int) := by omega
  have y1 : (K : Int) ≤ (n : Int) := by omega
  have y2 : (0 : Int) ≤ (m : Int) := by omega
  have HW2 := Lib.hid (show Below (W.heap.size + 1) (W.alloc (.cells #[.int .i64 s.1, .bool s.2] 44)) W2 from by rw [hW2]; exact (Below.refl _ _).alloc (by simp) _)
  have HQ1 := Lib.hid (Fb.new W 44 #[.int .i64 s.1, .bool s.2])
  have x0 := hp.cell 0
  have xf := hp.free 0
  rcases id hmv.2 with ⟨hv0, hn0⟩ | ⟨g, cap, cur, hv0, hBg, hgg, _⟩
  · obtain ⟨rfl, h1, rfl⟩ := Value.slice.inj hv0
    subst h1
    have hm0 : m = 0 := by omega
    have HE := Lib.hid (fun (w : World) (hb : Below W0.heap.size W0 w) => (show MvS w (.slice none 0 0) (byS L s) from ⟨none, 0, by rw [hbl, ← hme, hm0], fun j x hj => by
      have := (List.getElem?_eq_some_iff.1 hj).1
      rw [hbl, ← hme, hm0] at this
      exact absurd this (Nat.not_lt_zero _)⟩))
    have cA := sea_nil 63 W2.drew #[.pointer (some ⟨W.heap.size + 1, 0, none⟩), .pointer (some ⟨W.heap.size, 0, none⟩)] (.inl rfl)
    have HB3 := Lib.hid (fun (w : World) (_ : Sx (W.heap.size + 1) W.heap.size (.slice none 0 0) s w) (_ : Below W.heap.size W w) => sea_nil 64 w #[.pointer (some ⟨W.heap.size + 1, 0, none⟩), .pointer (some ⟨W.heap.size, 0, none⟩)] (.inr rfl))
    clear hM hM0 hmv0 ht hs hT hl e1 e2 e3 e4 e5 hv9 hA9 hmv hL hnT hb1 hq hp b2 hK hKm hbl hKe hme hiT hn hnc hv0 hn0 hm0 z2 z3 y0 y1 y2
    go_enter Try.func41, Try.ntmps41
    go_wp2_with (go_at_call 44; (with_reducible refine cH.mono ?_); rintro e w1 ⟨rfl, rfl⟩)
    clear cH a1 m1
    go_wp2
    rw [← hW2]
    clear hW2
    go_region_with (first
      | (go_at_call 62; (with_reducible refine cA.mono ?_); rintro e w1 ⟨rfl, hb⟩; have hB := (Below.drew (Below.refl W2.heap.size W2)).trans hb; have hp1 := HP.out.below hB; have p0 := hp1.cell 0; have pf := hp1.free 0)
      | fail)
    all_goals
      clear p0 pf x0 xf
      have hF3 := hp1.set 0 (.slice none 0 0)
      have b3 : Below (W.heap.size + 1) (W.alloc (.cells #[.int .i64 s.1, .bool s.2] 44)) (w1.setCell ⟨W.heap.size + 1, 0, none⟩ (.slice none 0 0)) := (HW2.out.trans (hB.mono (by rw [← World.size_alloc W (.cells #[.int .i64 s.1, .bool s.2] 44)]; simpa using HW2.out.size))).setCell (Nat.le_refl _) _
      obtain ⟨W3, hW3⟩ : ∃ W3, W3 = w1.setCell ⟨W.heap.size + 1, 0, none⟩ (.slice none 0 0) := ⟨_, rfl⟩
      rw [← hW3] at b3 hF3
      clear hB hb hp1
      go_wp2
      rw [← hW3]
      clear hW3
      have b3' : Below (W.alloc (.cells #[.int .i64 s.1, .bool s.2] 44)).heap.size (W.alloc (.cells #[.int .i64 s.1, .bool s.2] 44)) W3 := by rw [World.size_alloc]; exact b3
      have S3 : Sx (W.heap.size + 1) W.heap.size (.slice none 0 0) s W3.drew := ⟨hF3.cell 0, (HQ1.out.below b3').cell 0, (HQ1.out.below b3').cell 1⟩
      have hb3 : Below W.heap.size W W3 := (Below.refl W.heap.size W).alloc (Nat.le_refl _) (.cells #[.int .i64 s.1, .bool s.2] 44) |>.trans (b3.mono (Nat.le_succ _))
      have cS3 := HB3.out W3.drew S3 (hb3.drew)
      have y8 := hF3.cell 0
      have HB8 := Lib.hid hb3
      clear S3 b3' b3 hF3 hb3
      go_region_held3 (fun w => w.cell? ⟨W.heap.size + 1, 0, none⟩ = some (.slice none 0 0))
        (first | exact y8 | exact cell_below y8 hB)
        (first
          | (go_at_call 62; (with_reducible refine cS3.mono ?_); rintro e w5 ⟨rfl, hB0⟩; have hB := (Below.drew (Below.refl W3.heap.size W3)).trans hB0)
          | fail)
      all_goals
        have HB5 := Lib.hid (HB8.out.trans (hB.mono HB8.out.size))
        clear hB hB0 y8 cS3
        go_wp2
        go_ret
        exact ⟨_, rfl, HE.out, HB5.out⟩
  · obtain ⟨rfl, h1, h2⟩ := Value.slice.inj hv0
    have hMv : ∀ (w : World), Below W.heap.size W w → ∀ (j : Nat) (x : Mo), L[j]? = some x → MvA w g j x := fun w hb j x hj => (MvR.at hmv hj : MvA W g j x).below hb
    obtain ⟨A2, hA2⟩ : ∃ A2 : Option Addr, A2 = (if c9 = K then some ⟨g, 0, none⟩ else some ⟨g, K * 3, none⟩) := ⟨_, rfl⟩
    have cA : Calls Try.prog 62 #[.int .i64 (n : Int), .func (.func 63) #[] #[.pointer (some ⟨W.heap.size + 1, 0, none⟩), .pointer (some ⟨W.heap.size, 0, none⟩)]] W2.drew fun e w' => e = .returned (.int .i64 (K : Int)) ∧ Below W2.drew.heap.size W2.drew w' := by
      have := seaA_gen (L := L) (p := W.heap.size + 1) (q := W.heap.size) (g := g) (c := c9) (s := s) (W := W2.drew) (by rw [← hn]; exact HS2.out) (fun j x hj => hMv _ (b2.trans ((Below.refl _ _).drew)) j x hj) hs (by omega)
      rw [← hn, ← hKe] at this
      exact this
    have HB3 : Hid (∀ (w : World), Sx (W.heap.size + 1) W.heap.size (.slice A2 (n - K) (c9 - K)) s w → Below W.heap.size W w → Calls Try.prog 62 #[.int .i64 ((n - K : Nat) : Int), .func (.func 64) #[] #[.pointer (some ⟨W.heap.size + 1, 0, none⟩), .pointer (some ⟨W.heap.size, 0, none⟩)]] w fun e w' => e = .returned (.int .i64 (m : Int)) ∧ Below w.heap.size w w') := Lib.hid fun w hS hb => by
      by_cases hz : n - K = 0
      · have hm0 : m = 0 := by omega
        rw [hz, hm0]
        exact sea_nil 64 w _ (.inr rfl)
      · have hA2' : A2 = some ⟨g, K * 3, none⟩ := by rw [hA2, if_neg (by omega)]
        rw [hA2', hKe, hn] at hS
        have := seaB_gen (L := L) (c := c9 - kA L s) hS (fun j x hj => hMv w hb j x hj) hs (by omega)
        rw [← hn, ← hKe, ← hme] at this
        exact this
    have hMv0 : ∀ (w : World), Below W0.heap.size W0 w → ∀ (j : Nat) (x : Mo), L[j]? = some x → MvA w g j x := fun w hb j x hj => (MvR.at hmv0 hj : MvA W0 g j x).below hb
    have HE := Lib.hid (fun (w : World) (hb : Below W0.heap.size W0 w) => (show MvS w (.slice A2 m (c9 - K)) (byS L s) from ⟨A2, c9 - K, by rw [hbl, ← hme], fun j x hj => by
      have hlt := (List.getElem?_eq_some_iff.1 hj).1
      rw [hbl, ← hme] at hlt
      have hx := hMv0 w hb _ _ (byS_get hj)
      rw [← hKe] at hx
      have e3 : (K + j) * 3 = K * 3 + j * 3 := by omega
      have a := hx.a
      have b := hx.b
      have c := hx.c
      rw [e3] at a b c
      exact ⟨g, K * 3, by rw [hA2, if_neg (by omega)], a, b, c⟩⟩))
    have y4 : (m : Int) ≤ ((c9 - K : Nat) : Int) := by omega
    have HA2 := Lib.hid hA2
    clear hM hM0 hmv0 ht hs hT hl e1 e2 e3 e4 e5 hv9 hA9 hmv hL hnT hb1 hq hp b2 hK hKm hbl hKe hme hiT hn hnc hv0 h1 h2 hBg hgg hMv hMv0 hA2
    go_enter Try.func41, Try.ntmps41
    go_wp2_with (go_at_call 44; (with_reducible refine cH.mono ?_); rintro e w1 ⟨rfl, rfl⟩)
    clear cH a1 m1
    go_wp2
    rw [← hW2]
    clear hW2
    go_region_with (first
      | (go_at_call 62; (with_reducible refine cA.mono ?_); rintro e w1 ⟨rfl, hb⟩; have hB := (Below.drew (Below.refl W2.heap.size W2)).trans hb; have hp1 := HP.out.below hB; have p0 := hp1.cell 0; have pf := hp1.free 0)
      | fail)
    all_goals
      clear p0 pf x0 xf
      rw [← HA2.out]
      have hF3 := hp1.set 0 (.slice A2 (n - K) (c9 - K))
      have b3 : Below (W.heap.size + 1) (W.alloc (.cells #[.int .i64 s.1, .bool s.2] 44)) (w1.setCell ⟨W.heap.size + 1, 0, none⟩ (.slice A2 (n - K) (c9 - K))) := (HW2.out.trans (hB.mono (by rw [← World.size_alloc W (.cells #[.int .i64 s.1, .bool s.2] 44)]; simpa using HW2.out.size))).setCell (Nat.le_refl _) _
      obtain ⟨W3, hW3⟩ : ∃ W3, W3 = w1.setCell ⟨W.heap.size + 1, 0, none⟩ (.slice A2 (n - K) (c9 - K)) := ⟨_, rfl⟩
      rw [← hW3] at b3 hF3
      clear hB hb hp1
      go_wp2
      rw [← hW3]
      clear hW3
      have b3' : Below (W.alloc (.cells #[.int .i64 s.1, .bool s.2] 44)).heap.size (W.alloc (.cells #[.int .i64 s.1, .bool s.2] 44)) W3 := by rw [World.size_alloc]; exact b3
      have S3 : Sx (W.heap.size + 1) W.heap.size (.slice A2 (n - K) (c9 - K)) s W3.drew := ⟨hF3.cell 0, (HQ1.out.below b3').cell 0, (HQ1.out.below b3').cell 1⟩
      have hb3 : Below W.heap.size W W3 := (Below.refl W.heap.size W).alloc (Nat.le_refl _) (.cells #[.int .i64 s.1, .bool s.2] 44) |>.trans (b3.mono (Nat.le_succ _))
      have cS3 := HB3.out W3.drew S3 (hb3.drew)
      have y8 := hF3.cell 0
      have HB8 := Lib.hid hb3
      clear S3 b3' b3 hF3 hb3
      go_region_held3 (fun w => w.cell? ⟨W.heap.size + 1, 0, none⟩ = some (.slice A2 (n - K) (c9 - K)))
        (first | exact y8 | exact cell_below y8 hB)
        (first
          | (go_at_call 62; (with_reducible refine cS3.mono ?_); rintro e w5 ⟨rfl, hB0⟩; have hB := (Below.drew (Below.refl W3.heap.size W3)).trans hB0)
          | fail)
      all_goals
        have HB5 := Lib.hid (HB8.out.trans (hB.mono HB8.out.size))
        clear hB hB0 y8 cS3
        go_wp2
        go_ret
        exact ⟨_, rfl, HE.out, HB5.out⟩
end Go.Proofs.Ytghlajfalgdkfaa
