import Derived.Test.YtaoelnfflkkeeaaGreatDoorDec
import Derived.Test.YtaoelnfflkkeeaaGreatDoorBase
import Derived.Deep.LoopGhost
namespace Go.Proofs.YtaoelnfflkkeeaaGreatDoor
open Go.RowKit

def rowOf (n : Int) : Array Value := (Lib.runeCells n).toArray
theorem bytes_any (n : Int) (h : sgn n = true) (w : World) :
    Calls Tryz.prog 49 #[.int .i64 n] w fun e w' => e = .returned (.slice (some ⟨w.heap.size, 0, none⟩) (Lib.encodeRune n).length (Lib.encodeRune n).length) ∧ w' = w.alloc (.cells (rowOf n) 5) := by
  obtain ⟨h0, h1, h2⟩ := (sgn_iff n).1 h
  clear h
  by_cases a : n < 128
  · have e1 : rowOf n = #[.int .u8 n] := by unfold rowOf Lib.runeCells; rw [Lib.encodeRuneZ_one (by omega) (by omega)]; rfl
    have e2 : (Lib.encodeRune n).length = 1 := by unfold Lib.encodeRune; rw [Lib.encodeRuneZ_one (by omega) (by omega)]; rfl
    rw [e1, e2]
    clear e1 e2
    go_enter Tryz.func49, Tryz.ntmps49
    go_wp2
    go_ret
    exact ⟨rfl, rfl⟩
  by_cases b : n < 2048
  · have e1 : rowOf n = #[.int .u8 (192 + n / 64), .int .u8 (128 + n % 64)] := by unfold rowOf Lib.runeCells; rw [Lib.encodeRuneZ_two (by omega) (by omega)]; rfl
    have e2 : (Lib.encodeRune n).length = 2 := by unfold Lib.encodeRune; rw [Lib.encodeRuneZ_two (by omega) (by omega)]; rfl
    rw [e1, e2]
    clear e1 e2
    go_enter Tryz.func49, Tryz.ntmps49
    go_wp2
    go_ret
    exact ⟨rfl, rfl⟩
  by_cases c : n < 65536
  · have e1 : rowOf n = #[.int .u8 (224 + n / 4096), .int .u8 (128 + n / 64 % 64), .int .u8 (128 + n % 64)] := by unfold rowOf Lib.runeCells; rw [Lib.encodeRuneZ_three (by omega)]; rfl
    have e2 : (Lib.encodeRune n).length = 3 := by unfold Lib.encodeRune; rw [Lib.encodeRuneZ_three (by omega)]; rfl
    rw [e1, e2]
    clear e1 e2
    go_enter Tryz.func49, Tryz.ntmps49
    go_wp2
    go_ret
    exact ⟨rfl, rfl⟩
  · have e1 : rowOf n = #[.int .u8 (240 + n / 262144), .int .u8 (128 + n / 4096 % 64), .int .u8 (128 + n / 64 % 64), .int .u8 (128 + n % 64)] := by unfold rowOf Lib.runeCells; rw [Lib.encodeRuneZ_four (by omega) (by omega)]; rfl
    have e2 : (Lib.encodeRune n).length = 4 := by unfold Lib.encodeRune; rw [Lib.encodeRuneZ_four (by omega) (by omega)]; rfl
    rw [e1, e2]
    clear e1 e2
    go_enter Tryz.func49, Tryz.ntmps49
    go_wp2
    go_ret
    exact ⟨rfl, rfl⟩
end Go.Proofs.YtaoelnfflkkeeaaGreatDoor
