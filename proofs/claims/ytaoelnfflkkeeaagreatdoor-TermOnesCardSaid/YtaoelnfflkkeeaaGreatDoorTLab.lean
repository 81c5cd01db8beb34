/-
  THE DOCUMENT's 'letter', 'digit', 'label'.
-/
import Derived.Test.YtaoelnfflkkeeaaGreatDoorTCmp
namespace Go.Proofs.YtaoelnfflkkeeaaGreatDoor
open Go.RowKit
set_option linter.unusedVariables false

def letB (c : Int) : Bool := decide ((97 ≤ c ∧ c ≤ 122) ∨ (65 ≤ c ∧ c ≤ 90))
def digB (c : Int) : Bool := decide (48 ≤ c ∧ c ≤ 57)
theorem rletter_any (c : Int) (w : World) : Calls Tryz.prog 41 #[.int .u8 c] w fun e w' => e = .returned (.bool (letB c)) ∧ w = w' := by
  go_enter Tryz.func41, Tryz.ntmps41
  go_wp2
  all_goals (go_ret; refine ⟨ret_bT ?_, rfl⟩; unfold letB; rw [Bool.eq_iff_iff]; simp only [Bool.or_eq_true, decide_eq_true_eq]; first | omega | (constructor <;> intro <;> omega) | (simp; omega))
theorem rdigit_any (c : Int) (w : World) : Calls Tryz.prog 42 #[.int .u8 c] w fun e w' => e = .returned (.bool (digB c)) ∧ w = w' := by
  go_enter Tryz.func42, Tryz.ntmps42
  go_wp2
  all_goals (go_ret; refine ⟨ret_bT ?_, rfl⟩; unfold digB; rw [Bool.eq_iff_iff]; simp only [decide_eq_true_eq]; first | omega | (constructor <;> intro <;> omega) | (simp; omega))
/-- May a sign stand in a label, at its beginning or behind it? -/
def labC (first : Bool) (c : Int) : Bool := letB c || (digB c || (!first && (c == 95 || c == 45)))
def labG : Nat → List UInt8 → Bool
  | _, [] => true
  | i, c :: l => labC (i == 0) (c.toNat : Int) && labG (i + 1) l
theorem labG_step {l : List UInt8} {k : Nat} {c : UInt8} (h : l[k]? = some c) : labG k (l.drop k) = (labC (k == 0) (c.toNat : Int) && labG (k + 1) (l.drop (k + 1))) := by
  have hj := (List.getElem?_eq_some_iff.1 h).1
  rw [List.drop_eq_getElem_cons hj, (List.getElem?_eq_some_iff.1 h).2]
  rfl
set_option maxHeartbeats 4000000 in
theorem rlabel_loop (s : ByteArray) (h1 : 1 ≤ s.size) (h2 : s.size ≤ 100) (w : World) : Calls Tryz.prog 25 #[.string s] w fun e w' => e = .returned (.bool (labG 0 s.data.toList)) ∧ w = w' := by
  have k1 : ¬ (s.size : Int) < 1 := by omega
  have k2 : ¬ (100 : Int) < (s.size : Int) := by omega
  have hl : s.data.toList.length = s.size := by rw [Array.length_toList]; rfl
  have HL := Lib.hid hl
  clear hl
  go_enter Tryz.func25, Tryz.ntmps25
  go_wp2
  go_loopg [3] s.size (fun g s3 wr => ∃ k : Nat, k + g = s.size ∧ s3 = .int .i64 k ∧ Hid (labG 0 s.data.toList = labG k (s.data.toList.drop k)) ∧ w = wr)
  case atStart => exact ⟨0, by omega, rfl, Lib.hid rfl, rfl⟩
  case round =>
    obtain ⟨k, hkg, rfl, HG, rfl⟩ := hrel
    cases gk with
    | zero =>
      have hk : k = s.size := by omega
      have HR : Hid (labG 0 s.data.toList = true) := Lib.hid (by rw [HG.out, List.drop_eq_nil_of_le (by rw [HL.out]; omega)]; rfl)
      have hn : ¬ (k : Int) < (s.size : Int) := by omega
      clear hk
      go_wp2
      go_ret
      exact ⟨ret_bT HR.out.symm, rfl⟩
    | succ g =>
      have hk : k < s.size := by omega
      obtain ⟨c, hc⟩ : ∃ c, s.data.toList[k]? = some c := ⟨_, List.getElem?_eq_getElem (by rw [HL.out]; exact hk)⟩
      have hcg : (s[k]'hk).toNat = c.toNat := by
        have := (List.getElem?_eq_some_iff.1 hc).2
        rw [← this]; rfl
      have HS := Lib.hid (labG_step hc)
      obtain ⟨n, hn⟩ : ∃ n, n = c.toNat := ⟨_, rfl⟩
      rw [← hn] at hcg HS
      have cL := rletter_any (n : Int)
      have cD := rdigit_any (n : Int)
      have hm : g < g + 1 := Nat.lt_succ_self g
      have hk1 : k + 1 + g = s.size := by omega
      have HK := Lib.hid hk1
      clear hc hn hkg hk1
      have ways : (letB n = true ∧ labC (k == 0) n = true) ∨ (letB n = false ∧ digB n = true ∧ labC (k == 0) n = true) ∨ (letB n = false ∧ digB n = false ∧ (((k : Int) == 0) = true ∧ labC (k == 0) n = false ∨ ((k : Int) == 0) = false ∧ (((n : Int) != 95) = false ∧ labC (k == 0) n = true ∨ ((n : Int) != 95) = true ∧ (((n : Int) != 45) = false ∧ labC (k == 0) n = true ∨ ((n : Int) != 45) = true ∧ labC (k == 0) n = false)))) := by
        unfold labC
        have ek : ((k : Int) == 0) = (k == 0) := by rw [Bool.eq_iff_iff, beq_iff_eq, beq_iff_eq]; omega
        rw [ek]
        have e1 : ((n : Int) != 95) = !((n : Int) == 95) := rfl
        have e2 : ((n : Int) != 45) = !((n : Int) == 45) := rfl
        rw [e1, e2]
        cases letB n <;> cases digB n <;> cases (k == 0) <;> cases ((n : Int) == 95) <;> cases ((n : Int) == 45) <;> simp
      rcases ways with ⟨a1, hr⟩ | ⟨a1, a2, hr⟩ | ⟨a1, a2, ⟨a3, hr⟩ | ⟨a3, ⟨a4, hr⟩ | ⟨a4, ⟨a5, hr⟩ | ⟨a5, hr⟩⟩⟩⟩
      all_goals
        rw [a1] at cL
        (try rw [a2] at cD)
        have HR := Lib.hid hr
        clear hr
        go_wp2_with (first
          | (go_at_call 41; (with_reducible refine (cL _).mono ?_); rintro e w' ⟨rfl, rfl⟩)
          | (go_at_call 42; (with_reducible refine (cD _).mono ?_); rintro e w' ⟨rfl, rfl⟩))
        first
          | (go_roundg g; (case measure => exact hm); (case rel => exact ⟨k + 1, HK.out, by go_num, Lib.hid (by rw [HG.out, HS.out, HR.out, Bool.true_and]), rfl⟩))
          | ((try rw [Exit.noGoto_ret]); go_ret; exact ⟨ret_bT (by rw [HG.out, HS.out, HR.out, Bool.false_and]), rfl⟩)
end Go.Proofs.YtaoelnfflkkeeaaGreatDoor
