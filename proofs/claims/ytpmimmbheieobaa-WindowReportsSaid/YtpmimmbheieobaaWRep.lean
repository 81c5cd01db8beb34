/-
  Reports; the walk of what it answers, by whatever yield of the two laws.
-/
import Derived.Test.YtpmimmbheieobaaWAw
namespace Go.Proofs.Ytpmimmbheieobaa
open Go.RowKit
set_option linter.unusedVariables false
set_option linter.unusedSimpArgs false
set_option maxRecDepth 100000

/-- What Reports answers. -/
abbrev repv (g : Nat) : Value := .func (.func 27) #[] #[.pointer (some ⟨g, 0, none⟩), .pointer (some ⟨g + 2, 0, none⟩), .pointer (some ⟨g + 1, 0, none⟩)]
/-- The three blocks that it goes by. -/
structure Rb (g : Nat) (s : Sh) (a b : Int) (W : World) : Prop where
  s : Fb W g 25 (shc s)
  a : Fb W (g + 1) 3 #[.int .i64 a]
  b : Fb W (g + 2) 3 #[.int .i64 b]
theorem Rb.below {g : Nat} {s : Sh} {a b : Int} {W W' : World} (h : Rb g s a b W) (hb : Below W.heap.size W W') : Rb g s a b W' := ⟨h.s.below hb, h.a.below hb, h.b.below hb⟩
theorem Rb.c {g : Nat} {s : Sh} {a b : Int} {W : World} (h : Rb g s a b W) : W.cell? ⟨g, 0, none⟩ = some (.int .i64 s.w) ∧ W.cell? ⟨g, 1, none⟩ = some (.int .i64 s.sl) ∧ W.cell? ⟨g, 2, none⟩ = some (.int .i64 s.b) ∧ W.cell? ⟨g + 1, 0, none⟩ = some (.int .i64 a) ∧ W.cell? ⟨g + 2, 0, none⟩ = some (.int .i64 b) := ⟨h.s.cell 0, h.s.cell 1, h.s.cell 2, h.a.cell 0, h.b.cell 0⟩
theorem wreports_any (s : Sh) (a b : Int) (w : World) : Calls Try.prog 19 #[shv s, .int .i64 a, .int .i64 b] w fun e w' => e = .returned (repv w.heap.size) ∧ Below w.heap.size w w' ∧ Rb w.heap.size s a b w' := by
  go_enter Try.func19, Try.ntmps19
  go_wp2
  go_ret
  have h1 := hs2 w 25 3 (shc s) #[.int .i64 a]
  have h2 := h1.add 3 #[.int .i64 b]
  exact ⟨rfl, h2.b, ⟨h2.2 _ (.tail _ (.tail _ (.head _))), h2.2 _ (.tail _ (.head _)), by simpa using h2.2 _ (.head _)⟩⟩
/-- Behind the walk: all was told, or it was told to end. -/
def RepPost (J : Int → World → Prop) (Q : World → Prop) (n : Int) (e : Ending) (w' : World) : Prop := e = .returned (.tuple #[]) ∧ (J n w' ∨ Q w')
def YPost (J : Int → World → Prop) (Q : World → Prop) (i : Int) (e : Ending) (w' : World) : Prop := (e = .returned (.bool true) ∧ J (i + 1) w') ∨ (e = .returned (.bool false) ∧ Q w')
def RepRel (J : Int → World → Prop) (f t : Int) (gk : Nat) (s6 : Value) (wr : World) : Prop := ∃ i : Int, f ≤ i ∧ s6 = .int .i64 i ∧ (t - i).toNat = gk ∧ (i ≤ t ∨ i = f) ∧ J i wr
set_option maxHeartbeats 1000000 in
theorem rep_r {s : Sh} (h : s.ok) (a b : Int) (g p0 p1 p2 p3 p4 p5 p6 : Nat) (J : Int → World → Prop) (Q : World → Prop)
    (hB : ∀ i W W', J i W → Below W.heap.size W W' → J i W') (hR : ∀ i W, J i W → Rb g s a b W)
    (hY : ∀ i W, s.fst a ≤ i → i < s.fst b → J i W → Calls Try.prog 20 #[.int .i64 i, .pointer (some ⟨p0, 0, none⟩), .pointer (some ⟨p1, 0, none⟩), .pointer (some ⟨p2, 0, none⟩), .pointer (some ⟨p3, 0, none⟩), .pointer (some ⟨p4, 0, none⟩), .pointer (some ⟨p5, 0, none⟩), .pointer (some ⟨p6, 0, none⟩)] W (YPost J Q i)) (w : World) (h0 : J (s.fst a) w) :
    Calls Try.prog 27 #[.func (.func 20) #[] #[.pointer (some ⟨p0, 0, none⟩), .pointer (some ⟨p1, 0, none⟩), .pointer (some ⟨p2, 0, none⟩), .pointer (some ⟨p3, 0, none⟩), .pointer (some ⟨p4, 0, none⟩), .pointer (some ⟨p5, 0, none⟩), .pointer (some ⟨p6, 0, none⟩)], .pointer (some ⟨g, 0, none⟩), .pointer (some ⟨g + 2, 0, none⟩), .pointer (some ⟨g + 1, 0, none⟩)] w (RepPost J Q (max (s.fst a) (s.fst b))) := by
  have cF := fun (i : Int) (t : Int) {W} (hj : J i W) => (wfirst_any h t W).mono (R' := fun e w' => e = .returned (.int .i64 (s.fst t)) ∧ J i w') fun e w' ⟨x, y⟩ => ⟨x, hB i _ _ hj y⟩
  have ca := fun {W} (hj : J (s.fst a) W) => cF (s.fst a) a hj
  have cb := fun {W} (hj : J (s.fst a) W) => cF (s.fst a) b hj
  have f1 := Sh.fst_high h b
  have f0 := s.fst_nn a
  generalize s.fst a = fa at *
  generalize s.fst b = fb at *
  have H0 := Lib.hid h0
  have HB := Lib.hid hB
  have HR := Lib.hid hR
  have HY := Lib.hid hY
  obtain ⟨c0, c1, c2, c3, c4⟩ := (hR _ _ h0).c
  have HF := Lib.hid f1
  have HF0 := Lib.hid f0
  clear h cF hB hR hY h0 f1 f0
  obtain ⟨A, S, B⟩ := s
  go_enter Try.func27, Try.ntmps27
  go_wp2_with (first
    | (go_at_call 13; (with_reducible refine (cb H0.out).mono ?_); rintro e w1 ⟨rfl, hj1⟩; obtain ⟨d0, d1, d2, d3, d4⟩ := (HR.out _ _ hj1).c; have H1 := Lib.hid hj1; clear hj1)
    | (go_at_call 13; (with_reducible refine (ca H1.out).mono ?_); rintro e w2 ⟨rfl, hj2⟩; have H2 := Lib.hid hj2; clear hj2))
  clear ca cb c0 c1 c2 c3 c4 d0 d1 d2 d3 d4
  go_loopg [6] (fb - fa).toNat (fun gk s6 wr => RepRel J fa fb gk s6 wr)
  case atStart => exact ⟨fa, by omega, rfl, rfl, .inr rfl, H2.out⟩
  case round =>
    obtain ⟨i, hi, rfl, hgk, hfi, hJ⟩ := hrel
    by_cases hlt : i < fb
    · have cY := HY.out i wr hi hlt hJ
      have R1 := Lib.hid (show wrap64 (i + 1) = i + 1 from wrap64_fit (by have := HF0.out; omega) (by have := HF.out; omega))
      have HL := Lib.hid hlt
      have HI := Lib.hid hi
      have HG := Lib.hid hgk
      clear hi hgk hfi hJ HY
      go_wp2_with (go_at_call 20; (with_reducible refine cY.mono ?_); rintro e w3 (⟨rfl, hj3⟩ | ⟨rfl, hq3⟩))
      · go_roundg (fb - (i + 1)).toNat
        case measure => have := HL.out; have := HG.out; omega
        case rel => exact ⟨i + 1, by have := HI.out; omega, by rw [R1.out], rfl, by have := HL.out; omega, hj3⟩
      · (try simp only [Exit.inBlock, Exit.then])
        refine bodyPost_ret (results_none rfl _ _ _) rfl ?_
        exact ⟨rfl, .inr hq3⟩
    · have hE := Lib.hid (show i = max fa fb by omega)
      have HJ := Lib.hid hJ
      clear hi hgk hfi hJ HY
      go_wp2
      (try simp only [Exit.inBlock, Exit.then])
      refine bodyPost_end (results_none rfl _ _ _) rfl ?_
      exact ⟨rfl, .inl (by rw [← hE.out]; exact HJ.out)⟩
set_option maxHeartbeats 1000000 in
theorem rep_p {s : Sh} (h : s.ok) (a b : Int) (g p0 : Nat) (J : Int → World → Prop) (Q : World → Prop)
    (hB : ∀ i W W', J i W → Below W.heap.size W W' → J i W') (hR : ∀ i W, J i W → Rb g s a b W)
    (hY : ∀ i W, s.fst a ≤ i → i < s.fst b → J i W → Calls Try.prog 23 #[.int .i64 i, .pointer (some ⟨p0, 0, none⟩)] W (YPost J Q i)) (w : World) (h0 : J (s.fst a) w) :
    Calls Try.prog 27 #[.func (.func 23) #[] #[.pointer (some ⟨p0, 0, none⟩)], .pointer (some ⟨g, 0, none⟩), .pointer (some ⟨g + 2, 0, none⟩), .pointer (some ⟨g + 1, 0, none⟩)] w (RepPost J Q (max (s.fst a) (s.fst b))) := by
  have cF := fun (i : Int) (t : Int) {W} (hj : J i W) => (wfirst_any h t W).mono (R' := fun e w' => e = .returned (.int .i64 (s.fst t)) ∧ J i w') fun e w' ⟨x, y⟩ => ⟨x, hB i _ _ hj y⟩
  have ca := fun {W} (hj : J (s.fst a) W) => cF (s.fst a) a hj
  have cb := fun {W} (hj : J (s.fst a) W) => cF (s.fst a) b hj
  have f1 := Sh.fst_high h b
  have f0 := s.fst_nn a
  generalize s.fst a = fa at *
  generalize s.fst b = fb at *
  have H0 := Lib.hid h0
  have HB := Lib.hid hB
  have HR := Lib.hid hR
  have HY := Lib.hid hY
  obtain ⟨c0, c1, c2, c3, c4⟩ := (hR _ _ h0).c
  have HF := Lib.hid f1
  have HF0 := Lib.hid f0
  clear h cF hB hR hY h0 f1 f0
  obtain ⟨A, S, B⟩ := s
  go_enter Try.func27, Try.ntmps27
  go_wp2_with (first
    | (go_at_call 13; (with_reducible refine (cb H0.out).mono ?_); rintro e w1 ⟨rfl, hj1⟩; obtain ⟨d0, d1, d2, d3, d4⟩ := (HR.out _ _ hj1).c; have H1 := Lib.hid hj1; clear hj1)
    | (go_at_call 13; (with_reducible refine (ca H1.out).mono ?_); rintro e w2 ⟨rfl, hj2⟩; have H2 := Lib.hid hj2; clear hj2))
  clear ca cb c0 c1 c2 c3 c4 d0 d1 d2 d3 d4
  go_loopg [6] (fb - fa).toNat (fun gk s6 wr => RepRel J fa fb gk s6 wr)
  case atStart => exact ⟨fa, by omega, rfl, rfl, .inr rfl, H2.out⟩
  case round =>
    obtain ⟨i, hi, rfl, hgk, hfi, hJ⟩ := hrel
    by_cases hlt : i < fb
    · have cY := HY.out i wr hi hlt hJ
      have R1 := Lib.hid (show wrap64 (i + 1) = i + 1 from wrap64_fit (by have := HF0.out; omega) (by have := HF.out; omega))
      have HL := Lib.hid hlt
      have HI := Lib.hid hi
      have HG := Lib.hid hgk
      clear hi hgk hfi hJ HY
      go_wp2_with (go_at_call 23; (with_reducible refine cY.mono ?_); rintro e w3 (⟨rfl, hj3⟩ | ⟨rfl, hq3⟩))
      · go_roundg (fb - (i + 1)).toNat
        case measure => have := HL.out; have := HG.out; omega
        case rel => exact ⟨i + 1, by have := HI.out; omega, by rw [R1.out], rfl, by have := HL.out; omega, hj3⟩
      · (try simp only [Exit.inBlock, Exit.then])
        refine bodyPost_ret (results_none rfl _ _ _) rfl ?_
        exact ⟨rfl, .inr hq3⟩
    · have hE := Lib.hid (show i = max fa fb by omega)
      have HJ := Lib.hid hJ
      clear hi hgk hfi hJ HY
      go_wp2
      (try simp only [Exit.inBlock, Exit.then])
      refine bodyPost_end (results_none rfl _ _ _) rfl ?_
      exact ⟨rfl, .inl (by rw [← hE.out]; exact HJ.out)⟩
end Go.Proofs.Ytpmimmbheieobaa
