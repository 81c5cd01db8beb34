/-
  sort.Search, of a closure that turns nothing that was there.
-/
import Derived.Test.YtcbdgbcphfimlaaNfCh
import Derived.Shelf.Abstract
namespace Go.Proofs.Ytcbdgbcphfimlaa
open Go.RowKit
set_option linter.unusedVariables false
set_option linter.unusedSimpArgs false
set_option maxRecDepth 100000

/-- Where what is asked for begins. -/
def SeaAt (p : Nat → Bool) (n k : Nat) : Prop := k ≤ n ∧ (∀ t, t < k → p t = false) ∧ ∀ t, k ≤ t → t < n → p t = true
theorem SeaAt.uniq {p : Nat → Bool} {n k j : Nat} (h : SeaAt p n k) (h' : SeaAt p n j) : k = j := by
  obtain ⟨a1, a2, a3⟩ := h
  obtain ⟨b1, b2, b3⟩ := h'
  rcases Nat.lt_trichotomy k j with e | e | e
  · have x := b2 k e
    have y := a3 k (Nat.le_refl _) (by omega)
    rw [x] at y; cases y
  · exact e
  · have x := a2 j e
    have y := b3 j (Nat.le_refl _) (by omega)
    rw [x] at y; cases y
def SeaRel (W : World) (p : Nat → Bool) (n kx : Nat) (s5 s6 : Value) (wr : World) : Prop := ∃ lo hi : Nat, s5 = .int .i64 lo ∧ s6 = .int .i64 hi ∧ lo ≤ hi ∧ hi ≤ n ∧ hi - lo ≤ kx ∧ Below W.heap.size W wr ∧ (∀ t, t < lo → p t = false) ∧ ∀ t, hi ≤ t → t < n → p t = true
set_option maxHeartbeats 8000000 in
theorem search_any (g : Nat) (cb : Array Value) (n : Nat) (p : Nat → Bool) (W : World) (eg : ∀ args w, (callFunc g args).run Try.prog w = .ok (.enter g args) w) (hn : n ≤ 100000)
    (hf : ∀ (w : World) (i : Nat), Below W.heap.size W w → i < n → Calls Try.prog g (#[.int .i64 i] ++ cb) w fun e w' => e = .returned (.bool (p i)) ∧ Below w.heap.size w w')
    (hmono : ∀ a b, a ≤ b → b < n → p a = true → p b = true) :
    Calls Try.prog 63 #[.int .i64 n, .func (.func g) #[] cb] W fun e w' => ∃ k : Nat, e = .returned (.int .i64 k) ∧ SeaAt p n k ∧ Below W.heap.size W w' := by
  have HF := Lib.hid hf
  have HM := Lib.hid hmono
  have HN := Lib.hid hn
  clear hf hmono hn
  go_enter Try.func63, Try.ntmps63
  go_wp2
  go_loopg [5, 6] n (fun kx s5 s6 wr => SeaRel W p n kx s5 s6 wr)
  case atStart => exact ⟨0, n, rfl, rfl, Nat.zero_le _, Nat.le_refl _, by omega, Below.refl _ _, fun t ht => absurd ht (Nat.not_lt_zero _), fun t h1 h2 => by omega⟩
  case round =>
    obtain ⟨lo, hi, rfl, rfl, hlh, hin, hg, hb, hI1, hI2⟩ := hrel
    have hn9 := HN.out
    have I1 := Lib.hid hI1
    have I2 := Lib.hid hI2
    have HB := Lib.hid hb
    clear hI1 hI2
    by_cases hlt : lo < hi
    · have hc := HF.out wr ((lo + hi) / 2) hb (by omega)
      rw [show (((lo + hi) / 2 : Nat) : Int) = ((lo : Int) + (hi : Int)) / 2 by omega] at hc
      clear hb
      cases hp : p ((lo + hi) / 2) <;> rw [hp] at hc
      · have HP := Lib.hid hp
        clear hp
        go_wp2_with (go_at_fn g; refine hc.mono ?_; rintro e w' ⟨rfl, hb2⟩)
        go_roundg (hi - ((lo + hi) / 2 + 1))
        case measure => omega
        case rel =>
          refine ⟨(lo + hi) / 2 + 1, hi, by rw [show ((lo : Int) + (hi : Int)) / 2 + 1 = (((lo + hi) / 2 + 1 : Nat) : Int) by omega], rfl, by omega, hin, Nat.le_refl _, HB.out.trans (hb2.mono HB.out.size), fun t ht => ?_, I2.out⟩
          cases h : p t with
          | false => rfl
          | true => have := HM.out t ((lo + hi) / 2) (by omega) (by omega) h; rw [HP.out] at this; cases this
      · have HP := Lib.hid hp
        clear hp
        go_wp2_with (go_at_fn g; refine hc.mono ?_; rintro e w' ⟨rfl, hb2⟩)
        go_roundg ((lo + hi) / 2 - lo)
        case measure => omega
        case rel =>
          exact ⟨lo, (lo + hi) / 2, rfl, by rw [show ((lo : Int) + (hi : Int)) / 2 = (((lo + hi) / 2 : Nat) : Int) by omega], by omega, by omega, Nat.le_refl _, HB.out.trans (hb2.mono HB.out.size), I1.out, fun t ht htn => HM.out ((lo + hi) / 2) t ht htn HP.out⟩
    · obtain rfl : hi = lo := by omega
      clear hb
      go_wp2
      go_ret
      exact ⟨hi, rfl, ⟨hin, I1.out, I2.out⟩, HB.out⟩
end Go.Proofs.Ytcbdgbcphfimlaa
