/-
  THE ORDER OF TEXTS, three by three.
-/
import Derived.Test.YtbecjlmbalcgeaaDoorTCmp
namespace Go.Proofs.YtbecjlmbalcgeaaDoor
open Go.RowKit
set_option linter.unusedVariables false

/-- The first that is not alike tells the order. -/
def ord3 (a b c a' b' c' : ByteArray) : Int := orT (ordS a a') (orT (ordS b b') (ordS c c'))
theorem orT_no {x y : Int} (h : x ≠ 0) : orT x y = x := if_neg h
theorem orT_yes {x y : Int} (h : x = 0) : orT x y = y := if_pos h
set_option maxHeartbeats 1000000 in
theorem slcmp_any (a b c a' b' c' : ByteArray) (w : World) (g h n m : Nat)
    (p0 : w.cell? ⟨g, 1, none⟩ = some (.string a)) (p1 : w.cell? ⟨g, 2, none⟩ = some (.string b)) (p2 : w.cell? ⟨g, 3, none⟩ = some (.string c))
    (q0 : w.cell? ⟨h, 1, none⟩ = some (.string a')) (q1 : w.cell? ⟨h, 2, none⟩ = some (.string b')) (q2 : w.cell? ⟨h, 3, none⟩ = some (.string c')) :
    Calls Tryd.prog 17 #[.slice (some ⟨g, 1, none⟩) 3 n, .slice (some ⟨h, 1, none⟩) 3 m] w fun e w' => e = .returned (.int .i64 (ord3 a b c a' b' c')) ∧ w = w' := by
  obtain ⟨x0, hx0⟩ : ∃ x, x = ordS a a' := ⟨_, rfl⟩
  obtain ⟨x1, hx1⟩ : ∃ x, x = ordS b b' := ⟨_, rfl⟩
  obtain ⟨x2, hx2⟩ : ∃ x, x = ordS c c' := ⟨_, rfl⟩
  have c0 := cmpStr_any a a'
  have c1 := cmpStr_any b b'
  have c2 := cmpStr_any c c'
  rw [← hx0] at c0
  rw [← hx1] at c1
  rw [← hx2] at c2
  obtain ⟨r, hr⟩ : ∃ r, r = ord3 a b c a' b' c' := ⟨_, rfl⟩
  rw [← hr]
  unfold ord3 at hr
  rw [← hx0, ← hx1, ← hx2] at hr
  have HR := Lib.hid hr
  clear hx0 hx1 hx2 hr
  go_enter Tryd.func17, Tryd.ntmps17
  go_wp2
  go_loopg [11] 3 (fun g s11 wr => ∃ k : Nat, k + g = 3 ∧ s11 = .int .i64 k ∧ Hid (1 ≤ k → x0 = 0) ∧ Hid (2 ≤ k → x1 = 0) ∧ Hid (3 ≤ k → x2 = 0) ∧ w = wr)
  case atStart => exact ⟨0, rfl, rfl, Lib.hid (by omega), Lib.hid (by omega), Lib.hid (by omega), rfl⟩
  case round =>
    obtain ⟨k, hkg, rfl, H0, H1, H2, rfl⟩ := hrel
    obtain rfl | rfl | rfl | rfl : k = 0 ∨ k = 1 ∨ k = 2 ∨ k = 3 := by omega
    · by_cases hx : x0 = 0
      · have hb : (x0 != 0) = false := by simpa using hx
        have HX := Lib.hid hx
        clear hx
        go_wp2_with (go_at_call 30; (with_reducible refine (c0 _).mono ?_); rintro e w' ⟨rfl, rfl⟩)
        go_roundg 2
        case measure => omega
        case rel => exact ⟨1, rfl, rfl, Lib.hid (fun _ => HX.out), Lib.hid (by omega), Lib.hid (by omega), rfl⟩
      · have hb : (x0 != 0) = true := by simpa using hx
        have HX := Lib.hid hx
        clear hx
        go_wp2_with (go_at_call 30; (with_reducible refine (c0 _).mono ?_); rintro e w' ⟨rfl, rfl⟩)
        (try rw [Exit.noGoto_ret])
        go_ret
        exact ⟨ret_iT (by rw [HR.out, orT_no HX.out]), rfl⟩
    · by_cases hx : x1 = 0
      · have hb : (x1 != 0) = false := by simpa using hx
        have HX := Lib.hid hx
        clear hx
        go_wp2_with (go_at_call 30; (with_reducible refine (c1 _).mono ?_); rintro e w' ⟨rfl, rfl⟩)
        go_roundg 1
        case measure => omega
        case rel => exact ⟨2, rfl, rfl, Lib.hid (fun _ => H0.out (by omega)), Lib.hid (fun _ => HX.out), Lib.hid (by omega), rfl⟩
      · have hb : (x1 != 0) = true := by simpa using hx
        have HX := Lib.hid hx
        clear hx
        go_wp2_with (go_at_call 30; (with_reducible refine (c1 _).mono ?_); rintro e w' ⟨rfl, rfl⟩)
        (try rw [Exit.noGoto_ret])
        go_ret
        exact ⟨ret_iT (by rw [HR.out, orT_yes (H0.out (by omega)), orT_no HX.out]), rfl⟩
    · by_cases hx : x2 = 0
      · have hb : (x2 != 0) = false := by simpa using hx
        have HX := Lib.hid hx
        clear hx
        go_wp2_with (go_at_call 30; (with_reducible refine (c2 _).mono ?_); rintro e w' ⟨rfl, rfl⟩)
        go_roundg 0
        case measure => omega
        case rel => exact ⟨3, rfl, rfl, Lib.hid (fun _ => H0.out (by omega)), Lib.hid (fun _ => H1.out (by omega)), Lib.hid (fun _ => HX.out), rfl⟩
      · have hb : (x2 != 0) = true := by simpa using hx
        have HX := Lib.hid hx
        clear hx
        go_wp2_with (go_at_call 30; (with_reducible refine (c2 _).mono ?_); rintro e w' ⟨rfl, rfl⟩)
        (try rw [Exit.noGoto_ret])
        go_ret
        exact ⟨ret_iT (by rw [HR.out, orT_yes (H0.out (by omega)), orT_yes (H1.out (by omega))]), rfl⟩
    · go_wp2
      go_ret
      exact ⟨ret_iT (by rw [HR.out, orT_yes (H0.out (by omega)), orT_yes (H1.out (by omega)), H2.out (by omega)]), rfl⟩
end Go.Proofs.YtbecjlmbalcgeaaDoor
