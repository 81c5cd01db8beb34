/-
  MERGED (a claim has at most 60 files): NIs.
-/
import Derived.Test.YtehechbiajbobaaZ16
/-
  TRIPLES AGAINST THE DOCUMENT's (becklaw04.Is), where they are the same.
-/
namespace Go.Proofs.Ytehechbiajbobaa
open Go.RowKit
set_option linter.unusedVariables false
set_option linter.unusedSimpArgs false

theorem dtV_at {B : Nat} {W : World} {v : Value} {L : List (List Tm)} (h : DtV B W v L) (h3 : ∀ ts ∈ L, ts.length = 3) {i : Nat} {ts : List Tm} (hi : L[i]? = some ts) :
    ∃ g cap, v = .slice (some ⟨g, 0, none⟩) L.length cap ∧ g < W.heap.size ∧ ∀ (d : Nat) (u : Value), (ts.flatMap c4)[d]? = some u → W.cell? ⟨g, i * 12 + d, none⟩ = some u := by
  rcases id h.2 with ⟨hv, hl⟩ | ⟨g, cap, cur, hv, _⟩
  · have := (List.getElem?_eq_some_iff.1 hi).1
    omega
  · have h12 : ∀ y ∈ L, (y.flatMap c4).length = 12 := fun y hy => by
      have := h3 y hy
      match y, this with
      | [a, b, c], _ => rfl
    refine ⟨g, cap, hv, (World.ownsRow.lt h g (by rw [hv]; rfl)).2, fun d u hu => ?_⟩
    have hd : d < 12 := by have := (List.getElem?_eq_some_iff.1 hu).1; rw [h12 ts (List.mem_of_getElem? hi)] at this; exact this
    have h1 := flat_at (f := fun ts : List Tm => ts.flatMap c4) L i d _ h12 hi hd
    have := World.ownsRow.cells h (g := g) (by rw [hv]; rfl) (i * 12 + d) u (by rw [← hu]; exact h1)
    rwa [at_add, Nat.zero_add] at this
theorem neqT4s (k : Int) (a b c : ByteArray) (w : World) : (binOp .neq 32 (F4 k a b c) (F4 k a b c)).run Try.prog w = .ok (.bool false) w := by
  go_simp
def IsI (w : World) (n : Nat) (g : Nat) (s13 : Value) (wr : World) : Prop := ∃ i : Nat, i + g = n ∧ s13 = .int .i64 i ∧ Below w.heap.size w wr
set_option maxRecDepth 100000 in
set_option maxHeartbeats 8000000 in
theorem nis_same (L : List (List Tm)) (h3 : ∀ ts ∈ L, ts.length = 3 ∧ ∀ t ∈ ts, t.kind < 3) (hn : L.length ≤ 1000000) {B B' : Nat} {va vb : Value} (w : World) (hA : TrsV B w va L) (hD : DtV B' w vb L) :
    Calls Try.prog 20 #[va, vb] w fun e w' => e = .returned (.bool true) ∧ Below w.heap.size w w' := by
  obtain ⟨A, cp, rfl⟩ := hA.shape
  obtain ⟨A2, cp2, rfl⟩ := hD.shape
  have HA := Lib.hid hA
  have HD := Lib.hid hD
  have H3 := Lib.hid h3
  have HN := Lib.hid hn
  have hln : ((L.length : Int) != (L.length : Int)) = false := by simp
  clear hA hD h3 hn
  go_enter Try.func20, Try.ntmps20
  go_wp2
  go_loopg [13] L.length (fun g s13 wr => IsI w L.length g s13 wr)
  case atStart => exact ⟨0, by omega, rfl, Below.refl _ _⟩
  case round =>
    obtain ⟨i, hig, rfl, hB⟩ := hrel
    cases gk with
    | zero =>
      have hin : ¬ (i : Int) < (L.length : Int) := by omega
      clear hig
      go_wp2
      go_ret
      exact ⟨rfl, hB⟩
    | succ g =>
      have hin : (i : Int) < (L.length : Int) := by omega
      have hi0 : (0 : Int) ≤ (i : Int) := by omega
      obtain ⟨ts, hts⟩ : ∃ ts, L[i]? = some ts := ⟨_, List.getElem?_eq_getElem (by omega)⟩
      have h3 := H3.out ts (List.mem_of_getElem? hts)
      obtain ⟨x0, x1, x2, rfl⟩ : ∃ a b c, ts = [a, b, c] := by
        match ts, h3.1 with
        | [a, b, c], _ => exact ⟨a, b, c, rfl⟩
      obtain ⟨ga, ca, ea, hga, p0, p1, p2⟩ := trsV_at HA.out (fun ts h => (H3.out ts h).1) hts
      obtain ⟨gb, cb, eb, hgb, hq⟩ := dtV_at HD.out (fun ts h => (H3.out ts h).1) hts
      injection ea with ea1 ea2 ea3
      injection eb with eb1 eb2 eb3
      subst ea1 ea3 eb1 eb3
      have kk0 := h3.2 x0 (by simp)
      have kk1 := h3.2 x1 (by simp)
      have kk2 := h3.2 x2 (by simp)
      obtain ⟨t0, v0, e0⟩ := iface_of kk0
      obtain ⟨t1, v1, e1⟩ := iface_of kk1
      obtain ⟨t2, v2, e2⟩ := iface_of kk2
      have c0 := lref_any x0
      have c1 := lref_any x1
      have c2 := lref_any x2
      rw [e0] at p0 c0
      rw [e1] at p1 c1
      rw [e2] at p2 c2
      obtain ⟨k0, hk0⟩ : ∃ y, y = x0.kind := ⟨_, rfl⟩
      obtain ⟨a0, ha0⟩ : ∃ y, y = x0.ta := ⟨_, rfl⟩
      obtain ⟨b0, hb0⟩ : ∃ y, y = x0.tb := ⟨_, rfl⟩
      obtain ⟨d0, hd0⟩ : ∃ y, y = x0.tc := ⟨_, rfl⟩
      obtain ⟨k1, hk1⟩ : ∃ y, y = x1.kind := ⟨_, rfl⟩
      obtain ⟨a1, ha1⟩ : ∃ y, y = x1.ta := ⟨_, rfl⟩
      obtain ⟨b1, hb1⟩ : ∃ y, y = x1.tb := ⟨_, rfl⟩
      obtain ⟨d1, hd1⟩ : ∃ y, y = x1.tc := ⟨_, rfl⟩
      obtain ⟨k2, hk2⟩ : ∃ y, y = x2.kind := ⟨_, rfl⟩
      obtain ⟨a2, ha2⟩ : ∃ y, y = x2.ta := ⟨_, rfl⟩
      obtain ⟨b2, hb2⟩ : ∃ y, y = x2.tb := ⟨_, rfl⟩
      obtain ⟨d2, hd2⟩ : ∃ y, y = x2.tc := ⟨_, rfl⟩
      rw [← hk0, ← ha0, ← hb0, ← hd0] at c0
      rw [← hk1, ← ha1, ← hb1, ← hd1] at c1
      rw [← hk2, ← ha2, ← hb2, ← hd2] at c2
      have q0 : w.cell? ⟨gb, i * 12, none⟩ = some (.int .i64 k0) := by rw [hk0]; exact hq 0 _ rfl
      have q1 : w.cell? ⟨gb, i * 12 + 1, none⟩ = some (.string a0) := by rw [ha0]; exact hq 1 _ rfl
      have q2 : w.cell? ⟨gb, i * 12 + 2, none⟩ = some (.string b0) := by rw [hb0]; exact hq 2 _ rfl
      have q3 : w.cell? ⟨gb, i * 12 + 3, none⟩ = some (.string d0) := by rw [hd0]; exact hq 3 _ rfl
      have q4 : w.cell? ⟨gb, i * 12 + 4, none⟩ = some (.int .i64 k1) := by rw [hk1]; exact hq 4 _ rfl
      have q5 : w.cell? ⟨gb, i * 12 + 5, none⟩ = some (.string a1) := by rw [ha1]; exact hq 5 _ rfl
      have q6 : w.cell? ⟨gb, i * 12 + 6, none⟩ = some (.string b1) := by rw [hb1]; exact hq 6 _ rfl
      have q7 : w.cell? ⟨gb, i * 12 + 7, none⟩ = some (.string d1) := by rw [hd1]; exact hq 7 _ rfl
      have q8 : w.cell? ⟨gb, i * 12 + 8, none⟩ = some (.int .i64 k2) := by rw [hk2]; exact hq 8 _ rfl
      have q9 : w.cell? ⟨gb, i * 12 + 9, none⟩ = some (.string a2) := by rw [ha2]; exact hq 9 _ rfl
      have q10 : w.cell? ⟨gb, i * 12 + 10, none⟩ = some (.string b2) := by rw [hb2]; exact hq 10 _ rfl
      have q11 : w.cell? ⟨gb, i * 12 + 11, none⟩ = some (.string d2) := by rw [hd2]; exact hq 11 _ rfl
      have K : ∀ W, Below w.heap.size w W → W.cell? ⟨ga, i * 3, none⟩ = some (.iface t0 v0) ∧ W.cell? ⟨ga, i * 3 + 1, none⟩ = some (.iface t1 v1) ∧ W.cell? ⟨ga, i * 3 + 2, none⟩ = some (.iface t2 v2) ∧ W.cell? ⟨gb, i * 12, none⟩ = some (.int .i64 k0) ∧ W.cell? ⟨gb, i * 12 + 1, none⟩ = some (.string a0) ∧ W.cell? ⟨gb, i * 12 + 2, none⟩ = some (.string b0) ∧ W.cell? ⟨gb, i * 12 + 3, none⟩ = some (.string d0) ∧ W.cell? ⟨gb, i * 12 + 4, none⟩ = some (.int .i64 k1) ∧ W.cell? ⟨gb, i * 12 + 5, none⟩ = some (.string a1) ∧ W.cell? ⟨gb, i * 12 + 6, none⟩ = some (.string b1) ∧ W.cell? ⟨gb, i * 12 + 7, none⟩ = some (.string d1) ∧ W.cell? ⟨gb, i * 12 + 8, none⟩ = some (.int .i64 k2) ∧ W.cell? ⟨gb, i * 12 + 9, none⟩ = some (.string a2) ∧ W.cell? ⟨gb, i * 12 + 10, none⟩ = some (.string b2) ∧ W.cell? ⟨gb, i * 12 + 11, none⟩ = some (.string d2) := fun W hb =>
        ⟨(hb.cell (p := ⟨ga, i * 3, none⟩) hga).trans p0, (hb.cell (p := ⟨ga, i * 3 + 1, none⟩) hga).trans p1, (hb.cell (p := ⟨ga, i * 3 + 2, none⟩) hga).trans p2, (hb.cell (p := ⟨gb, i * 12, none⟩) hgb).trans q0, (hb.cell (p := ⟨gb, i * 12 + 1, none⟩) hgb).trans q1, (hb.cell (p := ⟨gb, i * 12 + 2, none⟩) hgb).trans q2, (hb.cell (p := ⟨gb, i * 12 + 3, none⟩) hgb).trans q3, (hb.cell (p := ⟨gb, i * 12 + 4, none⟩) hgb).trans q4, (hb.cell (p := ⟨gb, i * 12 + 5, none⟩) hgb).trans q5, (hb.cell (p := ⟨gb, i * 12 + 6, none⟩) hgb).trans q6, (hb.cell (p := ⟨gb, i * 12 + 7, none⟩) hgb).trans q7, (hb.cell (p := ⟨gb, i * 12 + 8, none⟩) hgb).trans q8, (hb.cell (p := ⟨gb, i * 12 + 9, none⟩) hgb).trans q9, (hb.cell (p := ⟨gb, i * 12 + 10, none⟩) hgb).trans q10, (hb.cell (p := ⟨gb, i * 12 + 11, none⟩) hgb).trans q11⟩
      have n0 := neqT4s k0 a0 b0 d0
      have n1 := neqT4s k1 a1 b1 d1
      have n2 := neqT4s k2 a2 b2 d2
      have C0 : ∀ {W : World}, Below w.heap.size w W → Calls Try.prog 14 #[.iface t0 v0] W fun e w' => e = .returned (F4 k0 a0 b0 d0) ∧ Below w.heap.size w w' := fun {W} hb => (c0 W).mono fun _ _ ⟨x, y⟩ => ⟨x, hb.trans (y.mono hb.size)⟩
      have C1 : ∀ {W : World}, Below w.heap.size w W → Calls Try.prog 14 #[.iface t1 v1] W fun e w' => e = .returned (F4 k1 a1 b1 d1) ∧ Below w.heap.size w w' := fun {W} hb => (c1 W).mono fun _ _ ⟨x, y⟩ => ⟨x, hb.trans (y.mono hb.size)⟩
      have C2 : ∀ {W : World}, Below w.heap.size w W → Calls Try.prog 14 #[.iface t2 v2] W fun e w' => e = .returned (F4 k2 a2 b2 d2) ∧ Below w.heap.size w w' := fun {W} hb => (c2 W).mono fun _ _ ⟨x, y⟩ => ⟨x, hb.trans (y.mono hb.size)⟩
      have HIG := Lib.hid hig
      clear hig p0 p1 p2 q0 q1 q2 q3 q4 q5 q6 q7 q8 q9 q10 q11 hq c0 c1 c2 e0 e1 e2 kk0 kk1 kk2 hts h3 hk0 ha0 hb0 hd0 hk1 ha1 hb1 hd1 hk2 ha2 hb2 hd2 hga hgb ea2 eb2
      go_wp2
      go_region_held3 (fun W => W.cell? ⟨ga, i * 3, none⟩ = some (.iface t0 v0) ∧ W.cell? ⟨ga, i * 3 + 1, none⟩ = some (.iface t1 v1) ∧ W.cell? ⟨ga, i * 3 + 2, none⟩ = some (.iface t2 v2) ∧ W.cell? ⟨gb, i * 12, none⟩ = some (.int .i64 k0) ∧ W.cell? ⟨gb, i * 12 + 1, none⟩ = some (.string a0) ∧ W.cell? ⟨gb, i * 12 + 2, none⟩ = some (.string b0) ∧ W.cell? ⟨gb, i * 12 + 3, none⟩ = some (.string d0) ∧ W.cell? ⟨gb, i * 12 + 4, none⟩ = some (.int .i64 k1) ∧ W.cell? ⟨gb, i * 12 + 5, none⟩ = some (.string a1) ∧ W.cell? ⟨gb, i * 12 + 6, none⟩ = some (.string b1) ∧ W.cell? ⟨gb, i * 12 + 7, none⟩ = some (.string d1) ∧ W.cell? ⟨gb, i * 12 + 8, none⟩ = some (.int .i64 k2) ∧ W.cell? ⟨gb, i * 12 + 9, none⟩ = some (.string a2) ∧ W.cell? ⟨gb, i * 12 + 10, none⟩ = some (.string b2) ∧ W.cell? ⟨gb, i * 12 + 11, none⟩ = some (.string d2))
        (first | exact K _ (by assumption) | exact K _ (Below.drew (by assumption)))
        (first
          | (go_at_call 14; (with_reducible refine (C0 (by first | assumption | exact Below.drew (by assumption))).mono ?_); rintro e wa ⟨rfl, hBa⟩)
          | (go_at_call 14; (with_reducible refine (C1 (by first | assumption | exact Below.drew (by assumption))).mono ?_); rintro e wb ⟨rfl, hBb⟩)
          | (go_at_call 14; (with_reducible refine (C2 (by first | assumption | exact Below.drew (by assumption))).mono ?_); rintro e wc ⟨rfl, hBc⟩))
      all_goals
        go_wp2
        go_roundg g
        case measure => exact Nat.lt_succ_self g
        case rel => exact ⟨i + 1, by have := HIG.out; omega, by have h9 : i < 1000000 := (by have := HIG.out; have := HN.out; omega); first | rfl | (rw [IntWalk.wrap64_in _ ⟨by omega, by omega⟩, Int.natCast_succ]), by assumption⟩
end Go.Proofs.Ytehechbiajbobaa
