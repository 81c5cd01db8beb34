/-
  THE DOCUMENT's 'lang' and 'label', whatever the text.
-/
import Derived.Test.YtaoelnfflkkeeaaGreatDoorTLang
namespace Go.Proofs.YtaoelnfflkkeeaaGreatDoor
open Go.RowKit
set_option linter.unusedVariables false

theorem letB_U (c : UInt8) : letB (c.toNat : Int) = letU c := by unfold letB letU; rw [Bool.eq_iff_iff, decide_eq_true_eq, decide_eq_true_eq]; omega
theorem digB_U (c : UInt8) : digB (c.toNat : Int) = digU c := by unfold digB digU; rw [Bool.eq_iff_iff, decide_eq_true_eq, decide_eq_true_eq]; omega
theorem mach_step {l : List UInt8} {i : Nat} {c : UInt8} (p g : Nat) (h : l[i]? = some c) : mach p g (l.drop i) = if c = 45 then (if g = 0 then false else mach (p + 1) 0 (l.drop (i + 1))) else if okc p c = true then (if 8 < g + 1 then false else mach p (g + 1) (l.drop (i + 1))) else false := by
  have hj := (List.getElem?_eq_some_iff.1 h).1
  rw [List.drop_eq_getElem_cons hj, (List.getElem?_eq_some_iff.1 h).2]
  rfl
/-- The loop's relation. -/
def RlI (l : List UInt8) (N : Nat) (r : Bool) (w : World) (gk : Nat) (s3 s4 s5 : Value) (wr : World) : Prop :=
  ∃ i p g : Nat, i + gk = N ∧ s5 = .int .i64 i ∧ s4 = .int .i64 g ∧ s3 = .int .i64 p ∧ g ≤ 8 ∧ p ≤ i ∧ Hid (r = mach p g (l.drop i)) ∧ w = wr
set_option maxHeartbeats 8000000 in
set_option maxRecDepth 100000 in
theorem rlang_in (s : ByteArray) (h1 : 1 ≤ s.size) (h2 : s.size ≤ 40) (w : World) : Calls Tryz.prog 28 #[.string s] w fun e w' => e = .returned (.bool (mach 0 0 s.data.toList)) ∧ w = w' := by
  have k1 : ¬ (s.size : Int) < 1 := by omega
  have k2 : ¬ (40 : Int) < (s.size : Int) := by omega
  have hl : s.data.toList.length = s.size := by rw [Array.length_toList]; rfl
  have HL := Lib.hid hl
  obtain ⟨r, hr⟩ : ∃ r, r = mach 0 0 s.data.toList := ⟨_, rfl⟩
  have HR := Lib.hid hr
  rw [← hr]
  clear hl hr
  go_enter Tryz.func28, Tryz.ntmps28
  go_wp2
  go_loopg [3, 4, 5] s.size (fun g s3 s4 s5 wr => RlI s.data.toList s.size r w g s3 s4 s5 wr)
  case atStart => exact ⟨0, 0, 0, by omega, rfl, rfl, rfl, by omega, by omega, HR, rfl⟩
  case round =>
    obtain ⟨i, p, g, hig, rfl, rfl, rfl, hg8, hpi, HM, rfl⟩ := hrel
    cases gk with
    | zero =>
      have hi : i = s.size := by omega
      have HE : Hid (r = decide (0 < g)) := Lib.hid (by rw [HM.out, List.drop_eq_nil_of_le (by rw [HL.out]; omega)]; rfl)
      have hn : ¬ (i : Int) < (s.size : Int) := by omega
      clear hi
      go_wp2
      go_ret
      exact ⟨ret_bT HE.out.symm, rfl⟩
    | succ gk =>
      have hi : i < s.size := by omega
      obtain ⟨c, hc⟩ : ∃ c, s.data.toList[i]? = some c := ⟨_, List.getElem?_eq_getElem (by rw [HL.out]; exact hi)⟩
      have hcg : (s[i]'hi).toNat = c.toNat := by
        have := (List.getElem?_eq_some_iff.1 hc).2
        rw [← this]; rfl
      have hst := mach_step p g hc
      have hsg : r = mach p g (s.data.toList.drop i) := HM.out
      rw [hst] at hsg
      have hw1 : IntKind.i64.wrap ((g : Int) + 1) = (g : Int) + 1 := IntWalk.i64_in _ (by omega)
      have hp64 : (p : Int) ≤ 40 := by omega
      have hm : gk < gk + 1 := Nat.lt_succ_self gk
      have hk1 : i + 1 + gk = s.size := by omega
      have HK := Lib.hid hk1
      have HP := Lib.hid hpi
      have HG8 := Lib.hid hg8
      have cL := rletter_any (c.toNat : Int)
      have cD := rdigit_any (c.toNat : Int)
      rw [letB_U] at cL
      rw [digB_U] at cD
      have ek : ((p : Int) == 0) = (p == 0) := by rw [Bool.eq_iff_iff, beq_iff_eq, beq_iff_eq]; omega
      have hokc : okc p c = (letU c || (!((p : Int) == 0) && digU c)) := by rw [ek]; rfl
      by_cases h45 : c = 45
      · have e45 : ((c.toNat : Int) == 45) = true := by rw [h45]; rfl
        rw [if_pos h45] at hsg
        obtain ⟨n, hn⟩ : ∃ n, n = c.toNat := ⟨_, rfl⟩
        rw [← hn] at hcg e45 cL cD
        clear hc hst hig hk1 hn hokc h45
        by_cases g0 : g = 0
        · have eg : ((g : Int) == 0) = true := by rw [beq_iff_eq]; omega
          rw [if_pos g0] at hsg
          have HE := Lib.hid hsg
          clear hsg g0 hpi hg8 ek
          go_wp2
          (try rw [Exit.noGoto_ret])
          go_ret
          exact ⟨ret_bT HE.out.symm, rfl⟩
        · have eg : ((g : Int) == 0) = false := by rw [beq_eq_false_iff_ne]; omega
          rw [if_neg g0] at hsg
          have HE := Lib.hid hsg
          clear hsg g0 hpi hg8 ek
          go_wp2
          go_roundg gk
          case measure => exact hm
          case rel => exact ⟨i + 1, p + 1, 0, HK.out, by go_num, rfl, by go_num, by omega, by have := HP.out; omega, HE, rfl⟩
      · have e45 : ((c.toNat : Int) == 45) = false := by
          rw [beq_eq_false_iff_ne]
          intro e
          apply h45
          apply UInt8.toNat_inj.1
          show c.toNat = 45
          omega
        rw [if_neg h45] at hsg
        have ways : (letU c = true ∧ okc p c = true) ∨ (letU c = false ∧ ((((p : Int) == 0) = true ∧ okc p c = false) ∨ (((p : Int) == 0) = false ∧ ((digU c = true ∧ okc p c = true) ∨ (digU c = false ∧ okc p c = false))))) := by
          rw [hokc]
          cases letU c <;> cases digU c <;> cases ((p : Int) == 0) <;> simp
        obtain ⟨n, hn⟩ : ∃ n, n = c.toNat := ⟨_, rfl⟩
        rw [← hn] at hcg e45 cL cD
        have hbig : okc p c = true → (8 < g + 1 ∧ r = false) ∨ (¬ 8 < g + 1 ∧ r = mach p (g + 1) (s.data.toList.drop (i + 1))) := fun ho => by
          rw [if_pos ho] at hsg
          by_cases h8 : 8 < g + 1
          · rw [if_pos h8] at hsg; exact .inl ⟨h8, hsg⟩
          · rw [if_neg h8] at hsg; exact .inr ⟨h8, hsg⟩
        have hbad : okc p c = false → r = false := fun ho => by
          rw [if_neg (by rw [ho]; decide)] at hsg; exact hsg
        have HBIG := Lib.hid hbig
        have HBAD := Lib.hid hbad
        clear hc hst hig hk1 hn hokc h45 hsg hbig hbad ek hpi
        rcases ways with ⟨a1, ho⟩ | ⟨a1, ⟨a2, ho⟩ | ⟨a2, ⟨a3, ho⟩ | ⟨a3, ho⟩⟩⟩
        · rw [a1] at cL
          rcases HBIG.out ho with ⟨h8, hr⟩ | ⟨h8, hr⟩
          · have k8 : (8 : Int) < (g : Int) + 1 := by omega
            have HE := Lib.hid hr
            clear ho h8 hr HBIG HBAD hg8
            go_wp2_with (go_at_call 41; (with_reducible refine (cL _).mono ?_); rintro e w' ⟨rfl, rfl⟩)
            (try rw [Exit.noGoto_ret])
            go_ret
            exact ⟨ret_bT HE.out.symm, rfl⟩
          · have k8 : ¬ (8 : Int) < (g : Int) + 1 := by omega
            have HE := Lib.hid hr
            clear ho hr HBIG HBAD hg8
            go_wp2_with (go_at_call 41; (with_reducible refine (cL _).mono ?_); rintro e w' ⟨rfl, rfl⟩)
            go_roundg gk
            case measure => exact hm
            case rel => exact ⟨i + 1, p, g + 1, HK.out, by go_num, by go_num, rfl, by omega, by have := HP.out; omega, HE, rfl⟩
        · rw [a1] at cL
          have HE := Lib.hid (HBAD.out ho)
          clear ho HBIG HBAD hg8
          go_wp2_with (go_at_call 41; (with_reducible refine (cL _).mono ?_); rintro e w' ⟨rfl, rfl⟩)
          (try rw [Exit.noGoto_ret])
          go_ret
          exact ⟨ret_bT HE.out.symm, rfl⟩
        · rw [a1] at cL
          rw [a3] at cD
          rcases HBIG.out ho with ⟨h8, hr⟩ | ⟨h8, hr⟩
          · have k8 : (8 : Int) < (g : Int) + 1 := by omega
            have HE := Lib.hid hr
            clear ho h8 hr HBIG HBAD hg8
            go_wp2_with (first
              | (go_at_call 41; (with_reducible refine (cL _).mono ?_); rintro e w' ⟨rfl, rfl⟩)
              | (go_at_call 42; (with_reducible refine (cD _).mono ?_); rintro e w' ⟨rfl, rfl⟩))
            (try rw [Exit.noGoto_ret])
            go_ret
            exact ⟨ret_bT HE.out.symm, rfl⟩
          · have k8 : ¬ (8 : Int) < (g : Int) + 1 := by omega
            have HE := Lib.hid hr
            clear ho hr HBIG HBAD hg8
            go_wp2_with (first
              | (go_at_call 41; (with_reducible refine (cL _).mono ?_); rintro e w' ⟨rfl, rfl⟩)
              | (go_at_call 42; (with_reducible refine (cD _).mono ?_); rintro e w' ⟨rfl, rfl⟩))
            go_roundg gk
            case measure => exact hm
            case rel => exact ⟨i + 1, p, g + 1, HK.out, by go_num, by go_num, rfl, by omega, by have := HP.out; omega, HE, rfl⟩
        · rw [a1] at cL
          rw [a3] at cD
          have HE := Lib.hid (HBAD.out ho)
          clear ho HBIG HBAD hg8
          go_wp2_with (first
            | (go_at_call 41; (with_reducible refine (cL _).mono ?_); rintro e w' ⟨rfl, rfl⟩)
            | (go_at_call 42; (with_reducible refine (cD _).mono ?_); rintro e w' ⟨rfl, rfl⟩))
          (try rw [Exit.noGoto_ret])
          go_ret
          exact ⟨ret_bT HE.out.symm, rfl⟩
theorem rlang_any (s : ByteArray) (w : World) : Calls Tryz.prog 28 #[.string s] w fun e w' => e = .returned (.bool (langB s)) ∧ w = w' := by
  by_cases h1 : 1 ≤ s.size
  · by_cases h2 : s.size ≤ 40
    · have := rlang_in s h1 h2 w
      unfold langB
      rw [decide_eq_true h2]
      exact this
    · have HE : Hid (langB s = false) := Lib.hid (by unfold langB; rw [decide_eq_false h2]; rfl)
      have k1 : ¬ (s.size : Int) < 1 := by omega
      have k2 : (40 : Int) < (s.size : Int) := by omega
      clear h1 h2
      go_enter Tryz.func28, Tryz.ntmps28
      go_wp2
      go_ret
      exact ⟨ret_bT HE.out.symm, rfl⟩
  · have HE : Hid (langB s = false) := Lib.hid (by
      unfold langB
      have : s.data.toList = [] := List.length_eq_zero_iff.1 (by rw [Array.length_toList]; have : s.size = s.data.size := rfl; omega)
      rw [this]; simp [mach])
    have k1 : (s.size : Int) < 1 := by omega
    clear h1
    go_enter Tryz.func28, Tryz.ntmps28
    go_wp2
    go_ret
    exact ⟨ret_bT HE.out.symm, rfl⟩
def labelG (s : ByteArray) : Bool := labG 0 s.data.toList && decide (1 ≤ s.size ∧ s.size ≤ 100)
theorem rlabel_any (s : ByteArray) (w : World) : Calls Tryz.prog 25 #[.string s] w fun e w' => e = .returned (.bool (labelG s)) ∧ w = w' := by
  by_cases h1 : 1 ≤ s.size
  · by_cases h2 : s.size ≤ 100
    · have := rlabel_loop s h1 h2 w
      unfold labelG
      rw [decide_eq_true ⟨h1, h2⟩, Bool.and_true]
      exact this
    · have HE : Hid (labelG s = false) := Lib.hid (by unfold labelG; rw [decide_eq_false (by omega), Bool.and_false])
      have k1 : ¬ (s.size : Int) < 1 := by omega
      have k2 : (100 : Int) < (s.size : Int) := by omega
      clear h1 h2
      go_enter Tryz.func25, Tryz.ntmps25
      go_wp2
      go_ret
      exact ⟨ret_bT HE.out.symm, rfl⟩
  · have HE : Hid (labelG s = false) := Lib.hid (by unfold labelG; rw [decide_eq_false (by omega), Bool.and_false])
    have k1 : (s.size : Int) < 1 := by omega
    clear h1
    go_enter Tryz.func25, Tryz.ntmps25
    go_wp2
    go_ret
    exact ⟨ret_bT HE.out.symm, rfl⟩
end Go.Proofs.YtaoelnfflkkeeaaGreatDoor
