/-
  A HEAP IN MEMORY: up.
-/
import Derived.Test.YtagidmghmbfnpaaISwap
import Derived.Deep.LoopGhost
namespace Go.Proofs.Ytagidmghmbfnpaa
open Go.RowKit
set_option linter.unusedVariables false
set_option linter.unusedSimpArgs false
set_option maxRecDepth 100000

section
variable {B d : Nat} {s : Bs} {v : Value} {l : List It}
theorem Bc.drewN {W : World} (h : Bc B d s v l W) (q : Nat) : Bc B d s v l (W.drewN q) := ⟨h.st, h.row, h.gd⟩
theorem Tn.drewN {v' : Value} {W W' : World} (h : Tn d v v' W W') (q : Nat) : Tn d v v' W (W'.drewN q) := ⟨h.os, h.tape, h.output, h.size, h.far, h.block⟩
theorem Bc.swap {g n c : Nat} {W : World} (h : Bc B d s (.slice (some ⟨g, 0, none⟩) n c) l W) {i j : Nat} (hi : i < l.length) (hj : j < l.length) (q : Nat) :
    Bc B d s (.slice (some ⟨g, 0, none⟩) n c) (swI l i j) ((st5 (st5 W g i (itAt l j)) g j (itAt l i)).drewN q) := by
  have hne : g ≠ d := fun e => h.ne (by rw [← e]; rfl)
  refine Bc.drewN ⟨?_, h.row.swap hi hj, h.gd⟩ q
  exact (st5_far _ g j _ hne.symm).trans ((st5_far _ g i _ hne.symm).trans h.st)
theorem st5_os (W : World) (g i : Nat) (x : It) : (st5 W g i x).os = W.os ∧ (st5 W g i x).tape = W.tape ∧ (st5 W g i x).output = W.output := by unfold st5; simp [World.setCell]
theorem Tn.item {g n c : Nat} {W W' : World} (h : Tn d (.slice (some ⟨g, 0, none⟩) n c) (.slice (some ⟨g, 0, none⟩) n c) W W') (i : Nat) (x : It) : Tn d (.slice (some ⟨g, 0, none⟩) n c) (.slice (some ⟨g, 0, none⟩) n c) W (st5 W' g i x) := by
  obtain ⟨h1, h2, h3, h4, h5, h6⟩ := h
  obtain ⟨k1, k2, k3⟩ := st5_os W' g i x
  have k4 := st5_size W' g i x
  have k5 := fun k (hk : k ≠ g) => st5_far W' g i x hk
  generalize st5 W' g i x = V at *
  exact ⟨k1.trans h1, k2.trans h2, k3.trans h3, by rw [k4]; exact h4, h5, fun k a1 a2 a3 => (k5 k (fun e => a3 (by rw [e]; rfl))).trans (h6 k a1 a2 a3)⟩
theorem Sif_swap {g n c : Nat} {W0 W : World} (h : Bc B d s (.slice (some ⟨g, 0, none⟩) n c) l W) (ht : Tn d (.slice (some ⟨g, 0, none⟩) n c) (.slice (some ⟨g, 0, none⟩) n c) W0 W) {i j : Nat} (hi : i < l.length) (hj : j < l.length) (q : Nat) :
    Tn d (.slice (some ⟨g, 0, none⟩) n c) (.slice (some ⟨g, 0, none⟩) n c) W0 ((st5 (st5 W g i (itAt l j)) g j (itAt l i)).drewN q) := ((ht.item i _).item j _).drewN q
end
/-- What up and down leave. -/
structure Sif (B d : Nat) (s : Bs) (v : Value) (l : List It) (W : World) (l' : List It) (w' : World) : Prop where
  bc : Bc B d s v l' w'
  tn : Tn d v v W w'
  pm : l'.Perm l
def UpPost (B d : Nat) (s : Bs) (v : Value) (l : List It) (W : World) (e : Ending) (w' : World) : Prop := e = .returned (.tuple #[]) ∧ ∃ l', Sif B d s v l W l' w' ∧ Hp l' l'.length
def UpRel (B d : Nat) (s : Bs) (v : Value) (l : List It) (W : World) (g : Nat) (s1 : Value) (wr : World) : Prop :=
  s1 = .int .i64 g ∧ ∃ l', Sif B d s v l W l' wr ∧ UpI l' l'.length g ∧ g < l'.length
set_option maxHeartbeats 8000000 in
theorem hup_any {W : World} {B d : Nat} {s : Bs} {v : Value} {l : List It} (h : Bc B d s v l W) (hl : l.length ≤ 100000) (j : Nat) (hj : j < l.length) (hu : UpI l l.length j) :
    Calls Try.prog 27 #[wi d, .int .i64 j] W (UpPost B d s v l W) := by
  obtain ⟨g, c, rfl, _, _, _⟩ := h.row.full (by omega)
  obtain ⟨n, hn⟩ : ∃ n, n = l.length := ⟨_, rfl⟩
  have hstart : UpRel B d s (.slice (some ⟨g, 0, none⟩) l.length c) l W j (.int .i64 j) W := ⟨rfl, l, ⟨h, Tn.refl _, List.Perm.refl _⟩, hu, hj⟩
  have HS := Lib.hid hstart
  have HN := Lib.hid hl
  clear hstart h hu hj hl hn
  go_enter Try.func27, Try.ntmps27
  go_wp2
  go_loopg [1] j (fun gk s1 wr => UpRel B d s (.slice (some ⟨g, 0, none⟩) l.length c) l W gk s1 wr)
  case atStart => exact HS.out
  case round =>
    clear HS
    obtain ⟨rfl, l', hS, hU, hgl⟩ := hrel
    have hc6 := hS.bc.c6
    have nl := na_less ⟨d, 6, none⟩
    have ns := na_swap ⟨d, 6, none⟩
    have ml := me_less hc6
    have ms : ∀ q, (method 193 61 (.pointer (some ⟨d, 6, none⟩)) "Swap").run Try.prog (wr.drewN q) = .ok (48, .slice (some ⟨g, 0, none⟩) l.length c) (wr.drewN q) := fun q => me_swap (hS.bc.drewN q).c6
    by_cases h0 : gk = 0
    · subst h0
      have HH := Lib.hid (hU.stop (.inl rfl))
      have HSS := Lib.hid hS
      clear hS hU hgl hc6 ml ms nl ns
      go_wp2
      go_end0
      exact ⟨rfl, _, HSS.out, HH.out⟩
    · obtain ⟨p, hp⟩ : ∃ p, p = (gk - 1) / 2 := ⟨_, rfl⟩
      have hpl : p < l'.length := by omega
      have b0 : (0 : Int) ≤ (gk : Int) - 1 := by omega
      have b1 : (gk : Int) ≤ 100000 := by have := HN.out; have := hS.pm.length_eq; omega
      have hdiv : ((gk : Int) - 1) / 2 = (p : Int) := by omega
      have hne : ((p : Int) == (gk : Int)) = false := by rw [beq_eq_false_iff_ne]; omega
      have hne2 : ¬ (p : Int) = (gk : Int) := by omega
      have hng : ¬ gk = p := by omega
      have hdn : (gk - 1) / 2 = p := hp.symm
      have cL : Calls Try.prog 47 #[.slice (some ⟨g, 0, none⟩) l.length c, .int .i64 gk, .int .i64 p] wr fun e w' => e = .returned (.bool (ltI (itAt l' gk) (itAt l' p))) ∧ ∃ q, w' = wr.drewN q := iwless_any hS.bc.row HN.out hS.pm.length_eq gk p (by have := hS.pm.length_eq; omega) (by have := hS.pm.length_eq; omega)
      have cS : ∀ q, Calls Try.prog 48 #[.slice (some ⟨g, 0, none⟩) l.length c, .int .i64 p, .int .i64 gk] (wr.drewN q) fun e w' => e = .returned (.tuple #[]) ∧ ∃ q', w' = (st5 (st5 (wr.drewN q) g p (itAt l' gk)) g gk (itAt l' p)).drewN q' := fun q => iwswap_any (hS.bc.drewN q).row HN.out hS.pm.length_eq p gk (by have := hS.pm.length_eq; omega) (by have := hS.pm.length_eq; omega)
      have HDN := Lib.hid hdn
      cases hlt : ltI (itAt l' gk) (itAt l' p) with
      | false =>
        rw [hlt] at cL
        have HH := Lib.hid (hU.stop (.inr (by rw [HDN.out]; exact hlt)))
        have HSS := Lib.hid hS
        clear hS hU hgl hc6 hp hdn hlt cS ms ns h0 hpl
        go_wp2_with (go_at_call 47; (with_reducible refine cL.mono ?_); rintro e w1 ⟨rfl, q, rfl⟩)
        go_end0
        exact ⟨rfl, _, ⟨HSS.out.bc.drewN _, HSS.out.tn.drewN _, HSS.out.pm⟩, HH.out⟩
      | true =>
        rw [hlt] at cL
        have HH := Lib.hid (hU.step (Nat.le_refl _) hgl (by omega) (by rw [HDN.out]; exact hlt))
        have HSS := Lib.hid hS
        have HP := Lib.hid (show p < gk from by omega)
        have HPL := Lib.hid hpl
        have HGL := Lib.hid hgl
        clear hS hU hgl hc6 hp hdn hlt h0 hpl
        go_wp2_with (first
          | (go_at_call 47; (with_reducible refine cL.mono ?_); rintro e w1 ⟨rfl, q, rfl⟩)
          | (go_at_call 48; (with_reducible refine (cS q).mono ?_); rintro e w2 ⟨rfl, q2, rfl⟩))
        go_roundg p
        case measure => exact HP.out
        case rel =>
          refine ⟨rfl, _, ⟨(HSS.out.bc.drewN q).swap HPL.out HGL.out q2, Sif_swap (HSS.out.bc.drewN q) (HSS.out.tn.drewN q) HPL.out HGL.out q2, (swI_perm HPL.out HGL.out).trans HSS.out.pm⟩, ?_, ?_⟩
          · have := HH.out
            rw [HDN.out] at this
            rw [swI_len]
            exact this
          · rw [swI_len]; exact HPL.out
end Go.Proofs.Ytagidmghmbfnpaa
