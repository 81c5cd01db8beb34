/-
  slices.Compare of two keys; the closure that orders a content's entries; slices.SortFunc over them.
-/
import Derived.Test.YtncnoilldlnpoaaBgRow
import Derived.Deep.RegionHeld3
namespace Go.Proofs.Ytncnoilldlnpoaa
open Go.RowKit Go.Sort Go.Shelf
set_option linter.unusedVariables false
set_option linter.unusedSimpArgs false
set_option maxRecDepth 100000

def kyN (k : Ky) : Nat → Int
  | 0 => k.1
  | 1 => k.2.1
  | _ => k.2.2
/-- How a key stands to another one. -/
def cmpY (a b : Ky) : Int := if a.1 = b.1 then if a.2.1 = b.2.1 then Lib.compareInt a.2.2 b.2.2 else Lib.compareInt a.2.1 b.2.1 else Lib.compareInt a.1 b.1
theorem cmpY_at {a b : Ky} : ∀ {i : Nat}, i < 3 → (∀ j, j < i → kyN a j = kyN b j) → kyN a i ≠ kyN b i → cmpY a b = Lib.compareInt (kyN a i) (kyN b i)
  | 0, _, _, h => by
    have h' : ¬ a.1 = b.1 := h
    unfold cmpY; rw [if_neg h']; rfl
  | 1, _, h0, h => by
    have h1 : a.1 = b.1 := h0 0 (by omega)
    have h' : ¬ a.2.1 = b.2.1 := h
    unfold cmpY
    rw [if_pos h1, if_neg h']; rfl
  | 2, _, h0, h => by
    have h1 : a.1 = b.1 := h0 0 (by omega)
    have h2 : a.2.1 = b.2.1 := h0 1 (by omega)
    unfold cmpY
    rw [if_pos h1, if_pos h2]; rfl
theorem cmpY_same {a b : Ky} (h : ∀ j, j < 3 → kyN a j = kyN b j) : cmpY a b = 0 := by
  have h1 : a.1 = b.1 := h 0 (by omega)
  have h2 : a.2.1 = b.2.1 := h 1 (by omega)
  unfold cmpY
  rw [if_pos h1, if_pos h2]
  have : a.2.2 = b.2.2 := h 2 (by omega)
  rw [this]
  simp [Lib.compareInt]
theorem cmpY_lt (a b : Ky) : cmpY a b < 0 ↔ ltY a b := by
  unfold cmpY ltY Lib.compareInt
  split
  · split
    · split
      · constructor
        · intro _; omega
        · intro _; omega
      · split <;> constructor <;> intro _ <;> omega
    · split
      · constructor <;> intro _ <;> omega
      · split <;> constructor <;> intro _ <;> omega
  · split
    · constructor <;> intro _ <;> omega
    · split <;> constructor <;> intro _ <;> omega
def entC (x : Ky × Nat) : List Value := [.int .i64 x.1.1, .int .i64 x.1.2.1, .int .i64 x.1.2.2, .int .i64 (x.2 : Int)]
theorem entC_at (x : Ky × Nat) : ∀ i, i < 3 → (entC x).toArray[i]? = some (.int .i64 (kyN x.1 i))
  | 0, _ => rfl
  | 1, _ => rfl
  | 2, _ => rfl
set_option maxHeartbeats 8000000 in
theorem gCmp_any {W : World} {p q : Nat} {x y : Ky × Nat} (hp : Fb W p 41 (entC x).toArray) (hq : Fb W q 41 (entC y).toArray) :
    Calls Try.prog 29 #[.slice (some ⟨p, 0, none⟩) 3 3, .slice (some ⟨q, 0, none⟩) 3 3] W fun e w' => e = .returned (.int .i64 (cmpY x.1 y.1)) ∧ w' = W := by
  have hpc : ∀ i, i < 3 → W.cell? ⟨p, i, none⟩ = some (.int .i64 (kyN x.1 i)) := fun i hi => (hp.cell i).trans (entC_at x i hi)
  have hqc : ∀ i, i < 3 → W.cell? ⟨q, i, none⟩ = some (.int .i64 (kyN y.1 i)) := fun i hi => (hq.cell i).trans (entC_at y i hi)
  have cC := fun a b w => Try.cmp_Compare_int a b w
  have HP := Lib.hid hpc
  have HQ := Lib.hid hqc
  clear hpc hqc hp hq
  generalize x.1 = a at *
  generalize y.1 = b at *
  go_enter Try.func29, Try.ntmps29
  go_wp2
  go_loopg [11] 3 (fun gk s11 wr => ∃ i : Nat, s11 = .int .i64 (i : Int) ∧ i ≤ 3 ∧ 3 - i ≤ gk ∧ wr = W ∧ Hid (∀ j, j < i → kyN a j = kyN b j))
  case atStart => exact ⟨0, rfl, by omega, by omega, rfl, Lib.hid fun j hj => absurd hj (Nat.not_lt_zero _)⟩
  case round =>
    obtain ⟨i, rfl, hi, hgk, rfl, HJ⟩ := hrel
    by_cases hlt : i < 3
    · have y1 := HP.out i hlt
      have y2 := HQ.out i hlt
      have HAT := Lib.hid (fun (h : kyN a i ≠ kyN b i) => cmpY_at hlt HJ.out h)
      have HNX := Lib.hid (fun (h : kyN a i = kyN b i) => (show ∀ j, j < i + 1 → kyN a j = kyN b j from fun j hj => by
        rcases Nat.lt_or_ge j i with h1 | h1
        · exact HJ.out j h1
        · obtain rfl : j = i := by omega
          exact h))
      generalize kyN a i = u at *
      generalize kyN b i = t at *
      have hi0 : (0 : Int) ≤ (i : Int) := by omega
      have hi1 : (i : Int) < 3 := by omega
      have HG := Lib.hid hgk
      have HI := Lib.hid hlt
      clear hgk hi hlt
      by_cases hut : u = t
      · have hc : Lib.compareInt u t = 0 := by rw [hut]; simp [Lib.compareInt]
        have HUT := Lib.hid hut
        clear hut
        go_wp2_with (go_at_call 38; (with_reducible refine (cC _ _ _).mono ?_); rintro e w5 ⟨rfl, rfl⟩; rw [hc])
        go_roundg (3 - (i + 1))
        case measure => have := HG.out; have := HI.out; omega
        case rel => exact ⟨i + 1, by rw [Int.natCast_add]; rfl, HI.out, Nat.le_refl _, rfl, Lib.hid (HNX.out HUT.out)⟩
      · have hc : Lib.compareInt u t ≠ 0 := by unfold Lib.compareInt; split <;> first | omega | (split <;> omega)
        have HUT := Lib.hid hut
        have hcc : (Lib.compareInt u t == 0) = false := by simpa using hc
        obtain ⟨c, hcd⟩ : ∃ c, c = Lib.compareInt u t := ⟨_, rfl⟩
        have HCD := Lib.hid hcd
        rw [← hcd] at hc hcc
        clear hut hcd
        go_wp2_with (go_at_call 38; (with_reducible refine (cC _ _ _).mono ?_); rintro e w5 ⟨rfl, rfl⟩; rw [← HCD.out])
        go_ret
        exact ⟨by rw [HAT.out HUT.out, ← HCD.out]; rfl, rfl⟩
    · obtain rfl : i = 3 := by omega
      have HS := Lib.hid (cmpY_same HJ.out)
      go_wp2
      go_ret
      exact ⟨by rw [HS.out]; rfl, rfl⟩
end Go.Proofs.Ytncnoilldlnpoaa
