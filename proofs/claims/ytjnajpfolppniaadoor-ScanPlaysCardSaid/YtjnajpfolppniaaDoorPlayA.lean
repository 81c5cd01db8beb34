/-
  THE SCANNER's 'Blanks'.
-/
import Derived.Test.YtjnajpfolppniaaDoorRunA
namespace Go.Proofs.YtjnajpfolppniaaDoor
open Go.RowKit
set_option linter.unusedVariables false

def BlPost (B : Nat) (w : World) (b : Nat) (v : Value) (sl : List Int) (k : Nat) (e : Ending) (w' : World) : Prop :=
  e = .returned (.int .i64 (runN [0] (sl.drop k))) ∧ Moves B w b v sl (k + runN [0] (sl.drop k)) w'
set_option maxHeartbeats 4000000 in
theorem blanks_any {B : Nat} {w : World} {b : Nat} {v : Value} {sl : List Int} {k : Nat} (h : Sc B w b v sl k) (hk : k ≤ sl.length) (hl : sl.length ≤ 4294967296) :
    Calls Tryd.prog 11 #[.pointer (some ⟨b, 0, none⟩)] w (BlPost B w b v sl k) := by
  have HS := Lib.hid h
  have c1 := h.c1
  clear h
  go_enter Tryd.func11, Tryd.ntmps11
  go_wp2
  go_loopg [] (sl.length - k) (fun g wr => RI B w b v sl [0] k g wr)
  case atStart => exact ⟨k, Nat.le_refl _, by omega, rfl, HS.out, same_grown (Same.refl _) _⟩
  case round =>
    obtain ⟨j, hkj, hjg, hrun, hM⟩ := hrel
    have HR := Lib.hid hrun
    have HM := Lib.hid hM
    clear hrun c1
    cases gk with
    | zero =>
      have hj : j = sl.length := by omega
      have hP := peek_end hM.1 hj hl
      clear hM
      have hkj2 : runN [0] (sl.drop k) = j - k := by
        have := HR.out
        rw [show sl.drop j = [] from List.drop_eq_nil_of_le (by omega)] at this
        simp [runN] at this; omega
      have HK := Lib.hid hkj2
      have HJ := Lib.hid hj
      clear hkj2 hj
      have hB : (cls (-1) == 0) = false := by decide
      go_wp2_with (first
        | (go_at_call 16; (with_reducible refine hP.mono ?_); rintro e w3 ⟨rfl, hs3⟩; have h3 := hs3.sc HM.out.1; have c13 := h3.c1)
        | (go_at_call 25; (with_reducible refine (class_any (-1) _).mono ?_); rintro e w' ⟨rfl, rfl⟩))
      (try rw [Exit.noGoto_ret])
      go_ret
      refine ⟨by rw [HK.out]; go_num, ?_⟩
      rw [HK.out, show k + (j - k) = j by omega]
      exact ⟨h3, grown_trans HM.out.2 (same_grown hs3 _)⟩
    | succ g =>
      have hj : j < sl.length := by omega
      obtain ⟨n, hn⟩ : ∃ n, sl[j]? = some n := ⟨_, List.getElem?_eq_getElem hj⟩
      have HN := Lib.hid hn
      have hP := peek_sign hM.1 hn hl
      clear hM hn
      by_cases he : cls n = 0
      · have hB : (cls n == 0) = true := by simpa using he
        have HE := Lib.hid he
        clear he
        go_wp2_with (first
          | (go_at_call 16; (with_reducible refine hP.mono ?_); rintro e w3 ⟨rfl, hs3⟩; have h3 := hs3.sc HM.out.1; have c13 := h3.c1; have f13 := h3.f1)
          | (go_at_call 25; (with_reducible refine (class_any n _).mono ?_); rintro e w' ⟨rfl, rfl⟩))
        have hfin : RI B w b v sl [0] k g (w3.setCell ⟨b, 1, none⟩ (.int .i64 ((j : Int) + 1))) := by
          refine ⟨j + 1, by omega, by omega, ?_, by exact h3.place (j + 1), grown_trans HM.out.2 (grown_trans (same_grown hs3 _) (grown_set w3 b 1 _))⟩
          have := HR.out
          rw [drop_cons sl j n HN.out] at this
          simp only [runN, HE.out, List.mem_singleton, if_true] at this
          omega
        have HF := Lib.hid hfin
        clear hfin h3 c13 f13
        go_roundg g
        case measure => omega
        case rel => exact HF.out
      · have hB : (cls n == 0) = false := by simpa using he
        have hkj2 : runN [0] (sl.drop k) = j - k := by
          have := HR.out
          rw [drop_cons sl j n HN.out] at this
          simp [runN, he] at this
          omega
        have HK := Lib.hid hkj2
        clear he hkj2
        go_wp2_with (first
          | (go_at_call 16; (with_reducible refine hP.mono ?_); rintro e w3 ⟨rfl, hs3⟩; have h3 := hs3.sc HM.out.1; have c13 := h3.c1)
          | (go_at_call 25; (with_reducible refine (class_any n _).mono ?_); rintro e w' ⟨rfl, rfl⟩))
        (try rw [Exit.noGoto_ret])
        go_ret
        refine ⟨by rw [HK.out]; go_num, ?_⟩
        rw [HK.out, show k + (j - k) = j by omega]
        exact ⟨h3, grown_trans HM.out.2 (same_grown hs3 _)⟩
end Go.Proofs.YtjnajpfolppniaaDoor
