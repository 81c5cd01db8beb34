/-
  counts.sum: how many there are of all keys.
-/
import Derived.Test.YtncnoilldlnpoaaBgPl
namespace Go.Proofs.Ytncnoilldlnpoaa
open Go.RowKit
set_option linter.unusedVariables false
set_option linter.unusedSimpArgs false
set_option maxRecDepth 100000

theorem sumN_mid (A B : List (Ky × Nat)) (p : Ky × Nat) : sumN (A ++ p :: B) = sumN (A ++ B) + p.2 := by
  unfold sumN
  simp
  omega
def SumRel (W : World) (m : Nat) (l : List (Ky × Nat)) (g : Nat) (s : Value) (wr : World) : Prop :=
  ∃ (left : List (Ky × Nat)) (acc : Nat), s = .int .i64 (acc : Int) ∧ Rg kE nE wr m W.heap.size left ∧ left.length ≤ g ∧ Below W.heap.size W wr ∧ acc + sumN left = sumN l
set_option maxHeartbeats 4000000 in
theorem gsum_any {W : World} {m : Nat} {l : List (Ky × Nat)} (h : Mq kE nE W m l) (hs : sumN l ≤ 1000000) :
    Calls Try.prog 21 #[.map (some m)] W fun e w' => e = .returned (.int .i64 (sumN l : Int)) ∧ Below W.heap.size W w' := by
  obtain ⟨o, hr, hR⟩ := h.range (t := 51) mapI
  have hB0 : Below W.heap.size W (W.alloc o) := (Below.refl _ _).alloc (Nat.le_refl _) o
  obtain ⟨W1, hW1⟩ : ∃ W1, W1 = W.alloc o := ⟨_, rfl⟩
  rw [← hW1] at hr hR hB0
  have HR := Lib.hid hR
  have HB := Lib.hid hB0
  have HS := Lib.hid hs
  clear hR hB0 hs h hW1
  go_enter Try.func21, Try.ntmps21
  go_wp2
  go_loopg [3] l.length (fun g s wr => SumRel W m l g s wr)
  case atStart => exact ⟨l, 0, rfl, HR.out, Nat.le_refl _, HB.out, by omega⟩
  case round =>
    obtain ⟨left, acc, rfl, hL, hg, hb, hacc⟩ := hrel
    have hs9 := HS.out
    rcases hL.next 0 with ⟨rfl, hn⟩ | ⟨p, A, B, V, o2, rfl, hV, hn, hL2, he⟩
    · have he : acc = sumN l := by simpa [sumN] using hacc
      subst he
      have HBB := Lib.hid hb
      clear hL hb hacc
      go_wp2
      go_ret
      exact ⟨rfl, HBB.out⟩
    · have hbV : Below W.heap.size W (putBlock V W.heap.size o2) := by
        rcases hV with rfl | rfl
        · exact below_put hb (Nat.le_refl _) _
        · exact below_put hb.drew (Nat.le_refl _) _
      obtain ⟨W2, hW2⟩ : ∃ W2, W2 = putBlock V W.heap.size o2 := ⟨_, rfl⟩
      rw [← hW2] at hn hL2 he hbV
      rw [sumN_mid] at hacc
      have hlen : (A ++ B).length + 1 ≤ gk := by simpa [Nat.add_assoc] using hg
      obtain ⟨k, n⟩ := p
      dsimp only at hn he hacc
      unfold nE at hn he
      have hz1 : (acc : Int) + (n : Int) ≤ 1000000 := by omega
      have hz2 : (0 : Int) ≤ (acc : Int) := by omega
      have hz3 : (0 : Int) ≤ (n : Int) := by omega
      have HL := Lib.hid hL2
      have HBB := Lib.hid hbV
      have HA := Lib.hid hacc
      have HG := Lib.hid hlen
      clear hL hL2 hb hbV hacc hV hW2 hg hlen
      go_wp2
      go_roundg ((A ++ B).length)
      case measure => have := HG.out; omega
      case rel => exact ⟨A ++ B, acc + n, by rw [Int.natCast_add], HL.out, Nat.le_refl _, HBB.out, by have := HA.out; omega⟩
end Go.Proofs.Ytncnoilldlnpoaa
