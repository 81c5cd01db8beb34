/-
  A HEAP IN MEMORY: down.
-/
import Derived.Test.YtagidmghmbfnpaaIUp
namespace Go.Proofs.Ytagidmghmbfnpaa
open Go.RowKit
set_option linter.unusedVariables false
set_option linter.unusedSimpArgs false
set_option maxRecDepth 100000

/-- Down's: the last place stays. -/
structure Dif (B d : Nat) (s : Bs) (v : Value) (l : List It) (W : World) (n : Nat) (l' : List It) (w' : World) : Prop where
  sif : Sif B d s v l W l' w'
  fix : ∀ k, n ≤ k → itAt l' k = itAt l k
def DnPost (B d : Nat) (s : Bs) (v : Value) (l : List It) (W : World) (n : Nat) (e : Ending) (w' : World) : Prop := (∃ b, e = .returned (.bool b)) ∧ ∃ l', Dif B d s v l W n l' w' ∧ Hp l' n
def DnRel (B d : Nat) (s : Bs) (v : Value) (l : List It) (W : World) (n : Nat) (g : Nat) (s7 : Value) (wr : World) : Prop :=
  ∃ i, i + g = n ∧ s7 = .int .i64 (i : Nat) ∧ ∃ l', Dif B d s v l W n l' wr ∧ DnI l' n i
theorem Dif.swap {B d : Nat} {s : Bs} {l : List It} {g c m n : Nat} {W wr : World} {l' : List It} (h : Dif B d s (.slice (some ⟨g, 0, none⟩) m c) l W n l' wr) {i j : Nat} (hi : i < n) (hj : j < n) (hn : n ≤ l'.length) (q q2 : Nat) :
    Dif B d s (.slice (some ⟨g, 0, none⟩) m c) l W n (swI l' i j) ((st5 (st5 (wr.drewN q) g i (itAt l' j)) g j (itAt l' i)).drewN q2) := by
  refine ⟨⟨(h.sif.bc.drewN q).swap (by omega) (by omega) q2, Sif_swap (h.sif.bc.drewN q) (h.sif.tn.drewN q) (by omega) (by omega) q2, (swI_perm (by omega) (by omega)).trans h.sif.pm⟩, fun k hk => ?_⟩
  rw [swI_at (by omega) (by omega), if_neg (by omega), if_neg (by omega)]
  exact h.fix k hk
set_option maxHeartbeats 16000000 in
theorem hdown_any {W : World} {B d : Nat} {s : Bs} {v : Value} {l : List It} (h : Bc B d s v l W) (hl : l.length ≤ 100000) (n : Nat) (hn : n + 1 = l.length) (hu : DnI l n 0) :
    Calls Try.prog 29 #[wi d, .int .i64 0, .int .i64 n] W (DnPost B d s v l W n) := by
  obtain ⟨g, c, rfl, _, _, _⟩ := h.row.full (by omega)
  have hstart : DnRel B d s (.slice (some ⟨g, 0, none⟩) l.length c) l W n n (.int .i64 0) W := ⟨0, by omega, rfl, l, ⟨⟨h, Tn.refl _, List.Perm.refl _⟩, fun _ _ => rfl⟩, hu⟩
  have HS := Lib.hid hstart
  have HN := Lib.hid hl
  have HN1 := Lib.hid hn
  clear hstart h hu hl hn
  go_enter Try.func29, Try.ntmps29
  go_wp2
  go_loopg [7] n (fun gk s7 wr => DnRel B d s (.slice (some ⟨g, 0, none⟩) l.length c) l W n gk s7 wr)
  case atStart => exact HS.out
  case round =>
    clear HS
    obtain ⟨i, hig, rfl, l', hS, hU⟩ := hrel
    have hlen : l'.length = l.length := hS.sif.pm.length_eq
    have hc6 := hS.sif.bc.c6
    have nl := na_less ⟨d, 6, none⟩
    have ns := na_swap ⟨d, 6, none⟩
    have ml := me_less hc6
    have ml2 : ∀ q, (method 193 61 (.pointer (some ⟨d, 6, none⟩)) "Less").run Try.prog (wr.drewN q) = .ok (47, .slice (some ⟨g, 0, none⟩) l.length c) (wr.drewN q) := fun q => me_less (hS.sif.bc.drewN q).c6
    have ms : ∀ q, (method 193 61 (.pointer (some ⟨d, 6, none⟩)) "Swap").run Try.prog (wr.drewN q) = .ok (48, .slice (some ⟨g, 0, none⟩) l.length c) (wr.drewN q) := fun q => me_swap (hS.sif.bc.drewN q).c6
    have b0 : (0 : Int) ≤ (i : Int) := by omega
    have b1 : (i : Int) ≤ 100000 := by have := HN.out; have := HN1.out; omega
    have b2 : (n : Int) ≤ 100000 := by have := HN.out; have := HN1.out; omega
    by_cases h1 : n ≤ 2 * i + 1
    · have t1 : (n : Int) ≤ 2 * (i : Int) + 1 := by omega
      have HH := Lib.hid (hU.leaf h1)
      have HSS := Lib.hid hS
      clear hS hU hc6 ml ml2 ms nl ns h1 hig hlen
      go_wp2
      go_ret
      exact ⟨⟨_, rfl⟩, _, HSS.out, HH.out⟩
    · have t1 : ¬ (n : Int) ≤ 2 * (i : Int) + 1 := by omega
      have t2 : ¬ 2 * (i : Int) + 1 < 0 := by omega
      have t0 : (2 * (i : Int) + 1) = ((2 * i + 1 : Nat) : Int) := by omega
      have cL : ∀ {W' : World} (a b : Nat), (∃ q, W' = wr.drewN q) → a < n → b < n → Calls Try.prog 47 #[.slice (some ⟨g, 0, none⟩) l.length c, .int .i64 a, .int .i64 b] W' fun e w' => e = .returned (.bool (ltI (itAt l' a) (itAt l' b))) ∧ ∃ q, w' = wr.drewN q := fun {W'} a b ⟨q, hq⟩ ha hb => by
        subst hq
        refine (iwless_any (hS.sif.bc.drewN q).row HN.out hlen a b (by have := HN1.out; omega) (by have := HN1.out; omega)).mono ?_
        rintro e w' ⟨h1, q2, h2⟩
        exact ⟨h1, q + q2, by rw [h2, World.drewN_drewN]⟩
      have cS : ∀ {W' : World} (a b : Nat), (∃ q, W' = wr.drewN q) → a < n → b < n → Calls Try.prog 48 #[.slice (some ⟨g, 0, none⟩) l.length c, .int .i64 a, .int .i64 b] W' fun e w' => e = .returned (.tuple #[]) ∧ ∃ q q', w' = (st5 (st5 (wr.drewN q) g a (itAt l' b)) g b (itAt l' a)).drewN q' := fun {W'} a b ⟨q, hq⟩ ha hb => by
        subst hq
        refine (iwswap_any (hS.sif.bc.drewN q).row HN.out hlen a b (by have := HN1.out; omega) (by have := HN1.out; omega)).mono ?_
        rintro e w' ⟨h1, q2, h2⟩
        exact ⟨h1, q, q2, h2⟩
      -- the child
      obtain ⟨j, hch, hway⟩ : ∃ j, Child l' n i j ∧ ((n ≤ 2 * i + 2 ∧ j = 2 * i + 1) ∨ (2 * i + 2 < n ∧ ltI (itAt l' (2 * i + 2)) (itAt l' (2 * i + 1)) = false ∧ j = 2 * i + 1) ∨ (2 * i + 2 < n ∧ ltI (itAt l' (2 * i + 2)) (itAt l' (2 * i + 1)) = true ∧ j = 2 * i + 2)) := by
        by_cases h2 : 2 * i + 2 < n
        · cases hb : ltI (itAt l' (2 * i + 2)) (itAt l' (2 * i + 1)) with
          | false => exact ⟨2 * i + 1, ⟨.inl rfl, by omega, fun k h3 h4 h5 => by
              rcases (show k = 2 * i + 1 ∨ k = 2 * i + 2 by omega) with rfl | rfl
              · exact LeI.refl _
              · exact leI_of hb⟩, .inr (.inl ⟨h2, rfl, rfl⟩)⟩
          | true => exact ⟨2 * i + 2, ⟨.inr rfl, h2, fun k h3 h4 h5 => by
              rcases (show k = 2 * i + 1 ∨ k = 2 * i + 2 by omega) with rfl | rfl
              · exact leI_lt hb
              · exact LeI.refl _⟩, .inr (.inr ⟨h2, rfl, rfl⟩)⟩
        · exact ⟨2 * i + 1, ⟨.inl rfl, by omega, fun k h3 h4 h5 => by
            obtain rfl : k = 2 * i + 1 := by omega
            exact LeI.refl _⟩, .inl ⟨by omega, rfl⟩⟩
      -- ways
      obtain ⟨j1, hj1⟩ : ∃ j1, j1 = 2 * i + 1 := ⟨_, rfl⟩
      obtain ⟨j2, hj2⟩ : ∃ j2, j2 = 2 * i + 2 := ⟨_, rfl⟩
      rw [← hj1, ← hj2] at hway
      have r1 : 2 * (i : Int) + 1 = (j1 : Int) := by omega
      have r2 : (j1 : Int) + 1 = (j2 : Int) := by omega
      have u1 : (0 : Int) ≤ (j1 : Int) := by omega
      have u2 : (j1 : Int) ≤ 1000000 := by omega
      have u4 : ¬ (n : Int) ≤ (j1 : Int) := by omega
      have HJ := Lib.hid (show i < j1 ∧ i < j2 ∧ j1 < n from by omega)
      have hin : i < n := by omega
      have HI := Lib.hid hin
      have HIG := Lib.hid hig
      have HLN := Lib.hid (show n ≤ l'.length from by have := HN1.out; omega)
      have c11 : Calls Try.prog 47 #[.slice (some ⟨g, 0, none⟩) l.length c, .int .i64 j1, .int .i64 i] wr fun e w' => e = .returned (.bool (ltI (itAt l' j1) (itAt l' i))) ∧ ∃ q, w' = wr.drewN q := cL j1 i ⟨0, rfl⟩ (by omega) hin
      have c12 : ∀ q, Calls Try.prog 47 #[.slice (some ⟨g, 0, none⟩) l.length c, .int .i64 j1, .int .i64 i] (wr.drewN q) fun e w' => e = .returned (.bool (ltI (itAt l' j1) (itAt l' i))) ∧ ∃ q, w' = wr.drewN q := fun q => cL j1 i ⟨q, rfl⟩ (by omega) hin
      have s1 : ∀ q, Calls Try.prog 48 #[.slice (some ⟨g, 0, none⟩) l.length c, .int .i64 i, .int .i64 j1] (wr.drewN q) fun e w' => e = .returned (.tuple #[]) ∧ ∃ q q', w' = (st5 (st5 (wr.drewN q) g i (itAt l' j1)) g j1 (itAt l' i)).drewN q' := fun q => cS i j1 ⟨q, rfl⟩ hin (by omega)
      have c21 : j2 < n → Calls Try.prog 47 #[.slice (some ⟨g, 0, none⟩) l.length c, .int .i64 j2, .int .i64 j1] wr fun e w' => e = .returned (.bool (ltI (itAt l' j2) (itAt l' j1))) ∧ ∃ q, w' = wr.drewN q := fun hh => cL j2 j1 ⟨0, rfl⟩ hh (by omega)
      have c22 : j2 < n → ∀ q, Calls Try.prog 47 #[.slice (some ⟨g, 0, none⟩) l.length c, .int .i64 j2, .int .i64 i] (wr.drewN q) fun e w' => e = .returned (.bool (ltI (itAt l' j2) (itAt l' i))) ∧ ∃ q, w' = wr.drewN q := fun hh q => cL j2 i ⟨q, rfl⟩ hh hin
      have s2 : j2 < n → ∀ q, Calls Try.prog 48 #[.slice (some ⟨g, 0, none⟩) l.length c, .int .i64 i, .int .i64 j2] (wr.drewN q) fun e w' => e = .returned (.tuple #[]) ∧ ∃ q q', w' = (st5 (st5 (wr.drewN q) g i (itAt l' j2)) g j2 (itAt l' i)).drewN q' := fun hh q => cS i j2 ⟨q, rfl⟩ hin hh
      have HSS := Lib.hid hS
      have HUU := Lib.hid hU
      have HCH := Lib.hid hch
      clear hS hU hch cL cS hc6 h1 t0 t1 t2 hj1 hj2 hin hig hlen
      rcases hway with ⟨g1, rfl⟩ | ⟨g1, g2, rfl⟩ | ⟨g1, g2, rfl⟩
      · have g3 : ¬ (j2 : Int) < (n : Int) := by omega
        clear g1 c12 c21 c22 s2
        cases hlt : ltI (itAt l' j) (itAt l' i) with
        | false =>
          rw [hlt] at c11
          have HH := Lib.hid (HUU.out.stop HCH.out hlt)
          clear hlt s1 ms ns
          go_wp2_with (first
          | (go_at_call 47; (with_reducible refine c11.mono ?_); rintro e w1 ⟨rfl, q, rfl⟩))
          go_ret
          exact ⟨⟨_, rfl⟩, _, ⟨⟨HSS.out.sif.bc.drewN _, HSS.out.sif.tn.drewN _, HSS.out.sif.pm⟩, HSS.out.fix⟩, HH.out⟩
        | true =>
          rw [hlt] at c11
          have HH := Lib.hid (HUU.out.step HLN.out HCH.out hlt)
          clear hlt
          go_wp2_with (first
          | (go_at_call 47; (with_reducible refine c11.mono ?_); rintro e w1 ⟨rfl, q, rfl⟩)
          | (go_at_call 48; (with_reducible refine (s1 q).mono ?_); rintro e w2 ⟨rfl, q3, q4, rfl⟩))
          go_roundg (n - j)
          case measure => have := HJ.out; have := HCH.out.2.1; have := HIG.out; omega
          case rel =>
            have := HCH.out.2.1
            exact ⟨j, by omega, rfl, _, HSS.out.swap HI.out HCH.out.2.1 HLN.out q3 q4, HH.out⟩
      · have g3 : (j2 : Int) < (n : Int) := by omega
        have c21 := c21 g1
        rw [g2] at c21
        clear g1 g2 c11 c22 s2
        cases hlt : ltI (itAt l' j) (itAt l' i) with
        | false =>
          rw [hlt] at c12
          have HH := Lib.hid (HUU.out.stop HCH.out hlt)
          clear hlt s1 ms ns
          go_wp2_with (first
          | (go_at_call 47; (with_reducible refine c21.mono ?_); rintro e w0 ⟨rfl, q0, rfl⟩)
          | (go_at_call 47; (with_reducible refine (c12 q0).mono ?_); rintro e w1 ⟨rfl, q, hw1⟩; subst hw1))
          go_ret
          exact ⟨⟨_, rfl⟩, _, ⟨⟨HSS.out.sif.bc.drewN _, HSS.out.sif.tn.drewN _, HSS.out.sif.pm⟩, HSS.out.fix⟩, HH.out⟩
        | true =>
          rw [hlt] at c12
          have HH := Lib.hid (HUU.out.step HLN.out HCH.out hlt)
          clear hlt
          go_wp2_with (first
          | (go_at_call 47; (with_reducible refine c21.mono ?_); rintro e w0 ⟨rfl, q0, rfl⟩)
          | (go_at_call 47; (with_reducible refine (c12 q0).mono ?_); rintro e w1 ⟨rfl, q, hw1⟩; subst hw1)
          | (go_at_call 48; (with_reducible refine (s1 q).mono ?_); rintro e w2 ⟨rfl, q3, q4, rfl⟩))
          go_roundg (n - j)
          case measure => have := HJ.out; have := HCH.out.2.1; have := HIG.out; omega
          case rel =>
            have := HCH.out.2.1
            exact ⟨j, by omega, rfl, _, HSS.out.swap HI.out HCH.out.2.1 HLN.out q3 q4, HH.out⟩
      · have g3 : (j : Int) < (n : Int) := by omega
        have c21 := c21 g1
        have c22 := c22 g1
        have s2 := s2 g1
        rw [g2] at c21
        clear g1 g2 c11 c12 s1
        cases hlt : ltI (itAt l' j) (itAt l' i) with
        | false =>
          rw [hlt] at c22
          have HH := Lib.hid (HUU.out.stop HCH.out hlt)
          clear hlt s2 ms ns
          go_wp2_with (first
          | (go_at_call 47; (with_reducible refine c21.mono ?_); rintro e w0 ⟨rfl, q0, rfl⟩)
          | (go_at_call 47; (with_reducible refine (c22 q0).mono ?_); rintro e w1 ⟨rfl, q, hw1⟩; subst hw1))
          go_ret
          exact ⟨⟨_, rfl⟩, _, ⟨⟨HSS.out.sif.bc.drewN _, HSS.out.sif.tn.drewN _, HSS.out.sif.pm⟩, HSS.out.fix⟩, HH.out⟩
        | true =>
          rw [hlt] at c22
          have HH := Lib.hid (HUU.out.step HLN.out HCH.out hlt)
          clear hlt
          go_wp2_with (first
          | (go_at_call 47; (with_reducible refine c21.mono ?_); rintro e w0 ⟨rfl, q0, rfl⟩)
          | (go_at_call 47; (with_reducible refine (c22 q0).mono ?_); rintro e w1 ⟨rfl, q, hw1⟩; subst hw1)
          | (go_at_call 48; (with_reducible refine (s2 q).mono ?_); rintro e w2 ⟨rfl, q3, q4, rfl⟩))
          go_roundg (n - j)
          case measure => have := HJ.out; have := HCH.out.2.1; have := HIG.out; omega
          case rel =>
            have := HCH.out.2.1
            exact ⟨j, by omega, rfl, _, HSS.out.swap HI.out HCH.out.2.1 HLN.out q3 q4, HH.out⟩
end Go.Proofs.Ytagidmghmbfnpaa
