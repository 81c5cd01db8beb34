import Derived.Test.YtjnajpfolppniaaDoorBase
import Derived.Test.YtjnajpfolppniaaDoorLaid
import Derived.Test.YtjnajpfolppniaaDoorShelf
import Derived.Deep.LoopGhost
import Derived.BigCall
namespace Go.Proofs.YtjnajpfolppniaaDoor
open Go.RowKit

set_option maxRecDepth 100000 in
theorem and15n : ∀ x : Fin 160, bits .and .i32 ((x.val : Nat) : Int) 15 = ((x.val % 16 : Nat) : Int) := by decide
theorem and15 (x : Int) (h0 : 0 ≤ x) (h1 : x < 160) : bits .and .i32 x 15 = x % 16 := by
  have := and15n ⟨x.toNat, by omega⟩
  simp only [] at this
  rw [show ((x.toNat : Nat) : Int) = x by omega] at this
  rw [this]; omega
/-- A digit's byte. -/
def hexd (x : Int) : UInt8 := (if x < 10 then 48 + x else 55 + x).toNat.toUInt8
theorem hexd_at (k : Nat) (h : k < 16) : ∀ h', (⟨#[48, 49, 50, 51, 52, 53, 54, 55, 56, 57, 65, 66, 67, 68, 69, 70]⟩ : ByteArray)[k]'h' = hexd k := by
  intro h'
  match k, h with
  | 0, _ => rfl
  | 1, _ => rfl
  | 2, _ => rfl
  | 3, _ => rfl
  | 4, _ => rfl
  | 5, _ => rfl
  | 6, _ => rfl
  | 7, _ => rfl
  | 8, _ => rfl
  | 9, _ => rfl
  | 10, _ => rfl
  | 11, _ => rfl
  | 12, _ => rfl
  | 13, _ => rfl
  | 14, _ => rfl
  | 15, _ => rfl
  | k + 16, h => exact absurd h (by omega)
theorem hexd_atZ (x : Int) (h0 : 0 ≤ x) (h : x < 16) : ∀ h', (⟨#[48, 49, 50, 51, 52, 53, 54, 55, 56, 57, 65, 66, 67, 68, 69, 70]⟩ : ByteArray)[x.toNat]'h' = hexd x := by
  intro h'
  rw [hexd_at x.toNat (by omega) h']
  rw [show ((x.toNat : Nat) : Int) = x by omega]
/-- What writeNumber writes. -/
def numL (r : Int) : List UInt8 := [92, 117, 48, 48, hexd (r / 16), hexd (r % 16)]
def numPart (r : Int) (j : Int) : List Value := Lib.byteCells ((numL r).take (2 + j.toNat))

set_option maxHeartbeats 1000000 in
theorem wnum_any (B b : Nat) (bs : List Value) (r : Int) (h0 : 0 ≤ r) (h1 : r < 160) (w : World) (h : Lib.IsBuilderF 56 5 B b bs w) (hlen : bs.length + 100 ≤ 140737488355328) (hBw : B ≤ w.heap.size) :
    Calls Tryd.prog 29 #[.pointer (some ⟨b, 0, none⟩), .int .i32 r] w fun e w' => e = .returned (.tuple #[]) ∧ Lib.IsBuilderF 56 5 B b (bs ++ Lib.byteCells (numL r)) w' ∧ Below B w w' ∧ Lib.OthersKept 5 (some b) w w' := by
  have e2 := and15 (r / 16) (by omega) (by omega)
  rw [show r / 16 % 16 = r / 16 by omega] at e2
  have e3 := and15 r (by omega) (by omega)
  have d2 := hexd_atZ (r / 16) (by omega) (by omega)
  have d3 := hexd_atZ (r % 16) (by omega) (by omega)
  have q0 : r / 4096 = 0 := by omega
  have q1 : r / 256 = 0 := by omega
  have z0 : bits .and .i32 0 15 = 0 := by decide
  have f0 : ((⟨#[48, 49, 50, 51, 52, 53, 54, 55, 56, 57, 65, 66, 67, 68, 69, 70]⟩ : ByteArray)[0]'(by decide)).toNat = 48 := rfl
  have g2 : 0 ≤ r / 16 ∧ r / 16 < 16 := by omega
  have g3 : 0 ≤ r % 16 ∧ r % 16 < 16 := by omega
  have cs : ∀ (j : Int) (c : UInt8), (numL r).take (2 + j.toNat) ++ [c] = (numL r).take (2 + (j + 1).toNat) → bs ++ numPart r j ++ [Value.int .u8 c.toNat] = bs ++ numPart r (j + 1) := by
    intro j c hc
    unfold numPart
    rw [← hc, Lib.byteCells_append, List.append_assoc]
    rfl
  have C := Lib.hid cs
  have hl : ∀ j, (numPart r j).length ≤ 6 := by
    intro j
    unfold numPart
    rw [Lib.byteCells_length]
    simp [numL]
    omega
  have HL := Lib.hid hl
  clear cs hl
  go_enter Tryd.func29, Tryd.ntmps29
  go_wp2_with (go_at_call 35; refine (Tryd.Builder_WriteString_k B b bs _ _ h (by show _ + 2 ≤ _; omega) hBw).mono ?_; rintro e w1 ⟨rfl, h1, b1, k1⟩)
  go_loopg [7] 4 (fun g i wx => ∃ j : Int, 0 ≤ j ∧ j + g = 4 ∧ i = .int .i64 j ∧ Lib.IsBuilderF 56 5 B b (bs ++ numPart r j) wx ∧ Below B w wx ∧ Lib.OthersKept 5 (some b) w wx)
  case atStart => exact ⟨0, by omega, by omega, rfl, .inr h1, b1, k1⟩
  case round =>
    obtain ⟨j, hj0, hj, rfl, hI, hb, hk⟩ := hrel
    have hlj := HL.out j
    obtain rfl | rfl | rfl | rfl | rfl : j = 0 ∨ j = 1 ∨ j = 2 ∨ j = 3 ∨ j = 4 := by omega
    · go_wp2_with (go_at_call 27; refine (Tryd.Builder_WriteByte_k B b _ _ _ hI (by simp; omega) (by have := hb.size; omega)).mono ?_; rintro e w2 ⟨rfl, h2, b2, k2⟩)
      go_roundg (gk - 1)
      case measure => omega
      case rel => exact ⟨1, by omega, by omega, rfl, .inr (by have := C.out 0 48 rfl; simp only [Int.reduceAdd] at this; rw [← this]; exact h2), hb.trans b2, hk.trans k2⟩
    · go_wp2_with (go_at_call 27; refine (Tryd.Builder_WriteByte_k B b _ _ _ hI (by simp; omega) (by have := hb.size; omega)).mono ?_; rintro e w2 ⟨rfl, h2, b2, k2⟩)
      go_roundg (gk - 1)
      case measure => omega
      case rel => exact ⟨2, by omega, by omega, rfl, .inr (by have := C.out 1 48 rfl; simp only [Int.reduceAdd] at this; rw [← this]; exact h2), hb.trans b2, hk.trans k2⟩
    · go_wp2_with (go_at_call 27; refine (Tryd.Builder_WriteByte_k B b _ _ _ hI (by simp; omega) (by have := hb.size; omega)).mono ?_; rintro e w2 ⟨rfl, h2, b2, k2⟩)
      go_roundg (gk - 1)
      case measure => omega
      case rel => exact ⟨3, by omega, by omega, rfl, .inr (by have := C.out 2 (hexd (r / 16)) rfl; simp only [Int.reduceAdd] at this; rw [← this]; exact h2), hb.trans b2, hk.trans k2⟩
    · go_wp2_with (go_at_call 27; refine (Tryd.Builder_WriteByte_k B b _ _ _ hI (by simp; omega) (by have := hb.size; omega)).mono ?_; rintro e w2 ⟨rfl, h2, b2, k2⟩)
      go_roundg (gk - 1)
      case measure => omega
      case rel => exact ⟨4, by omega, by omega, rfl, .inr (by have := C.out 3 (hexd (r % 16)) rfl; simp only [Int.reduceAdd] at this; rw [← this]; exact h2), hb.trans b2, hk.trans k2⟩
    · go_wp2
      go_end0
      exact ⟨rfl, hI, hb, hk⟩
end Go.Proofs.YtjnajpfolppniaaDoor
