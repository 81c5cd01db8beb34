/-
  THE DOCUMENT's 'sizes': how two sizes are.
-/
import Derived.Test.YtaoelnfflkkeeaaGreatDoorVNum
import Derived.Test.YtaoelnfflkkeeaaGreatDoorVTru
import Derived.Deep.QuietTactic
import Derived.BigQuiet
namespace Go.Proofs.YtaoelnfflkkeeaaGreatDoor
open Go.RowKit
set_option linter.unusedVariables false

/-- Integers in memory. -/
def DAt (w : World) (A : Option Addr) (l : List Int) : Prop := ∀ (j : Nat) (x : Int), l[j]? = some x → ∃ g o, A = some ⟨g, o, none⟩ ∧ g < w.heap.size ∧ w.cell? ⟨g, o + j, none⟩ = some (.int .i64 x)
theorem DAt.below {w w' : World} {A : Option Addr} {l : List Int} (h : DAt w A l) (hb : Below w.heap.size w w') : DAt w' A l := by
  intro j x hx
  obtain ⟨g, o, e, hg, hc⟩ := h j x hx
  exact ⟨g, o, e, Nat.lt_of_lt_of_le hg hb.size, (hb.cell (p := ⟨g, o + j, none⟩) hg).trans hc⟩
theorem DAt.cellAt {w : World} {g o : Nat} {l : List Int} (h : DAt w (some ⟨g, o, none⟩) l) {j : Nat} {x : Int} (hx : l[j]? = some x) : g < w.heap.size ∧ w.cell? ⟨g, o + j, none⟩ = some (.int .i64 x) := by
  obtain ⟨g', o', e, hg, hc⟩ := h j x hx
  injection e with e
  injection e with e1 e2
  subst e1; subst e2
  exact ⟨hg, hc⟩
theorem DAt.nil (w : World) (A : Option Addr) : DAt w A [] := fun j x hx => by simp at hx
theorem DAt.drewN {w : World} {A : Option Addr} {l : List Int} (h : DAt w A l) (n : Nat) : DAt (w.drewN n) A l := h
theorem below_dr {B : Nat} {a w : World} (h : Below B a w) (n : Nat) : Below B a (w.drewN n) := ⟨h.os, h.tape, h.output, h.size, h.block⟩
theorem ret_i {k : IntKind} {a b : Int} (h : a = b) : Ending.returned (.int k a) = .returned (.int k b) := by rw [h]
theorem ret_b {a b : Bool} (h : a = b) : Ending.returned (.bool a) = .returned (.bool b) := by rw [h]
def SzPost (w : World) (r : Int) (e : Ending) (w' : World) : Prop := e = .returned (.int .i64 r) ∧ ∃ n, w' = w.drewN n
def SzI (w : World) (a b : List Int) (g : Nat) (s5 : Value) (wr : World) : Prop := s5 = .int .i64 ((g : Int) - 1) ∧ g ≤ a.length ∧ cmpL (a.drop g) (b.drop g) = 0 ∧ ∃ m, wr = w.drewN m
set_option maxHeartbeats 4000000 in
theorem sizes_any (a b : List Int) (ha : a.length ≤ 1000000) (hb : b.length ≤ 1000000) (A B : Option Addr) (c d : Nat) (w : World) (hA : DAt w A a) (hB : DAt w B b) :
    Calls Tryz.prog 32 #[.slice A a.length c, .slice B b.length d] w (SzPost w (szL a b)) := by
  have HA := Lib.hid hA
  have HB := Lib.hid hB
  clear hA hB
  by_cases h1 : a.length < b.length
  · have e : szL a b = -1 := by unfold szL; rw [if_pos h1]
    have h1' : (a.length : Int) < (b.length : Int) := by omega
    rw [e]
    clear e h1
    go_enter Tryz.func32, Tryz.ntmps32
    go_wp2
    go_ret
    exact ⟨rfl, 0, rfl⟩
  by_cases h2 : b.length < a.length
  · have e : szL a b = 1 := by unfold szL; rw [if_neg h1, if_pos h2]
    have h1' : (b.length : Int) < (a.length : Int) := by omega
    rw [e]
    clear e h1 h2
    go_enter Tryz.func32, Tryz.ntmps32
    go_wp2
    go_ret
    exact ⟨rfl, 0, rfl⟩
  · have hl : b.length = a.length := by omega
    have e : szL a b = cmpL a b := by unfold szL; rw [if_neg h1, if_neg h2]
    rw [e, hl]
    have HL := Lib.hid hl
    clear e h1 h2 hl hb
    go_enter Tryz.func32, Tryz.ntmps32
    go_wp2
    go_loopg [5] a.length (fun g s5 wr => SzI w a b g s5 wr)
    case atStart => exact ⟨rfl, Nat.le_refl _, by rw [List.drop_eq_nil_of_le (Nat.le_refl _)]; simp [cmpL], 0, rfl⟩
    case round =>
      obtain ⟨hs5, hg, hc, m, hwr⟩ := hrel
      cases gk with
      | zero =>
        have e0 : (((0 : Nat) : Int) - 1) = -1 := by omega
        rw [e0] at hs5
        subst hs5
        have hr : cmpL a b = 0 := by simpa using hc
        have HR := Lib.hid hr
        have HW := Lib.hid hwr
        clear hc hr hwr e0
        go_wp2
        go_ret
        exact ⟨ret_i HR.out.symm, m, HW.out⟩
      | succ j =>
        have e0 : (((j + 1 : Nat) : Int) - 1) = (j : Int) := by omega
        rw [e0] at hs5
        subst hs5
        obtain ⟨x, hx⟩ : ∃ x, a[j]? = some x := ⟨_, List.getElem?_eq_getElem (by omega)⟩
        obtain ⟨y, hy⟩ : ∃ y, b[j]? = some y := ⟨_, List.getElem?_eq_getElem (by have := HL.out; omega)⟩
        have hst := cmpL_step hx hy hc
        obtain ⟨ga, oa, rfl, hga, hca⟩ := HA.out j x hx
        obtain ⟨gb, ob, rfl, hgb, hcb⟩ := HB.out j y hy
        have c1 : wr.cell? ⟨ga, oa + j, none⟩ = some (.int .i64 x) := by rw [hwr]; exact hca
        have c2 : wr.cell? ⟨gb, ob + j, none⟩ = some (.int .i64 y) := by rw [hwr]; exact hcb
        have hlt : (j : Int) < (a.length : Int) := by omega
        have hj0 : (0 : Int) ≤ (j : Int) := by omega
        have hst2 : cmpL (a.drop j) (b.drop j) ≠ 0 → cmpL a b = cmpL (a.drop j) (b.drop j) := cmpL_drop j a b (by have := HL.out; omega)
        have HW := Lib.hid hwr
        have HS := Lib.hid hst
        have HS2 := Lib.hid hst2
        clear hx hy hc hca hcb hwr hst hst2 e0
        by_cases hxy : x = y
        · have hn : (x != y) = false := by simpa using hxy
          have hz : cmpL (a.drop j) (b.drop j) = 0 := by rw [HS.out, if_neg (by omega), if_neg (by omega)]
          have HZ := Lib.hid hz
          clear hxy hz
          go_wp2
          go_quiet (fail)
          go_wp2
          go_roundg j
          case measure => omega
          case rel => exact ⟨rfl, by omega, HZ.out, m + nq, by rw [HW.out, World.drewN_drewN]⟩
        · have hn : (x != y) = true := by simpa using hxy
          by_cases hlt2 : x < y
          · have hz : cmpL a b = -1 := by
              have e1 : cmpL (a.drop j) (b.drop j) = -1 := by rw [HS.out, if_pos hlt2]
              rw [HS2.out (by rw [e1]; decide), e1]
            have HZ := Lib.hid hz
            clear hxy hz
            go_wp2
            go_quiet (fail)
            obtain ⟨W, hW⟩ : ∃ W, W = wr.drewN nq := ⟨_, rfl⟩
            have c3 : W.cell? ⟨ga, oa + j, none⟩ = some (.int .i64 x) := by rw [hW]; exact c1
            have c4 : W.cell? ⟨gb, ob + j, none⟩ = some (.int .i64 y) := by rw [hW]; exact c2
            rw [← hW]
            have HW2 := Lib.hid hW
            clear hW c1 c2
            go_wp2
            go_quiet (fail)
            go_wp2
            go_ret
            exact ⟨ret_i HZ.out.symm, _, by rw [HW2.out, HW.out, World.drewN_drewN, World.drewN_drewN]⟩
          · have hz : cmpL a b = 1 := by
              have e1 : cmpL (a.drop j) (b.drop j) = 1 := by rw [HS.out, if_neg hlt2, if_pos (by omega)]
              rw [HS2.out (by rw [e1]; decide), e1]
            have HZ := Lib.hid hz
            clear hxy hz
            go_wp2
            go_quiet (fail)
            obtain ⟨W, hW⟩ : ∃ W, W = wr.drewN nq := ⟨_, rfl⟩
            have c3 : W.cell? ⟨ga, oa + j, none⟩ = some (.int .i64 x) := by rw [hW]; exact c1
            have c4 : W.cell? ⟨gb, ob + j, none⟩ = some (.int .i64 y) := by rw [hW]; exact c2
            rw [← hW]
            have HW2 := Lib.hid hW
            clear hW c1 c2
            go_wp2
            go_quiet (fail)
            go_wp2
            go_ret
            exact ⟨ret_i HZ.out.symm, _, by rw [HW2.out, HW.out, World.drewN_drewN, World.drewN_drewN]⟩
end Go.Proofs.YtaoelnfflkkeeaaGreatDoor
