/-
  THE LAW's 'in'; THE SCANNER's 'Run' without classes.
-/
import Derived.Test.YtjnajpfolppniaaDoorPlayB
namespace Go.Proofs.YtjnajpfolppniaaDoor
open Go.RowKit
set_option linter.unusedVariables false

theorem in_nil (n : Int) (w : World) (cap : Nat) (A : Option Addr) :
    Calls Tryd.prog 12 #[.slice A 0 cap, .int .i64 n] w fun e w' => e = .returned (.bool false) ∧ w = w' := by
  go_enter Tryd.func12, Tryd.ntmps12
  go_wp2
  go_loopg [9] 0 (fun g c wr => g = 0 ∧ c = .int .i64 0 ∧ w = wr)
  case atStart => exact ⟨rfl, rfl, rfl⟩
  case round =>
    obtain ⟨rfl, rfl, rfl⟩ := hrel
    go_wp2
    (try rw [Exit.noGoto_ret])
    go_ret
    exact ⟨rfl, rfl⟩
set_option maxHeartbeats 1000000 in
theorem in_any (n : Int) (w : World) (gc oc cap : Nat) (cs : List Int) (hcs : ClsAt w gc oc cs) (hcl : cs.length ≤ 4294967296) :
    Calls Tryd.prog 12 #[.slice (some ⟨gc, oc, none⟩) cs.length cap, .int .i64 n] w fun e w' => e = .returned (.bool (decide (n ∈ cs))) ∧ w = w' := by
  have HC := Lib.hid hcs
  clear hcs
  go_enter Tryd.func12, Tryd.ntmps12
  go_wp2
  go_loopg [9] cs.length (fun g c wr => ∃ q : Nat, q + g = cs.length ∧ c = .int .i64 q ∧ Hid (n ∉ cs.take q) ∧ w = wr)
  case atStart => exact ⟨0, by omega, rfl, Lib.hid (by simp), rfl⟩
  case round =>
    obtain ⟨q, hqg, rfl, HQ, rfl⟩ := hrel
    cases gk with
    | zero =>
      have hq : q = cs.length := by omega
      have hlt : ¬ ((q : Int) < (cs.length : Int)) := by omega
      have hnot : n ∉ cs := by
        have := HQ.out
        rwa [hq, List.take_length] at this
      have HN := Lib.hid hnot
      clear hnot hq
      go_wp2
      (try rw [Exit.noGoto_ret])
      go_ret
      exact ⟨by rw [decide_eq_false HN.out]; rfl, rfl⟩
    | succ g =>
      have hq : q < cs.length := by omega
      obtain ⟨c, hc⟩ : ∃ c, cs[q]? = some c := ⟨_, List.getElem?_eq_getElem hq⟩
      have hcell : w.cell? ⟨gc, oc + q, none⟩ = some (.int .i64 c) := HC.out q c hc
      have hC2 : Hid (cs.take (q + 1) = cs.take q ++ [c]) := by
        refine Lib.hid ?_
        rw [List.take_succ_eq_append_getElem hq, (List.getElem?_eq_some_iff.1 hc).2]
      have HCC := Lib.hid hc
      have k2 : (q : Int) < (cs.length : Int) := by omega
      by_cases he : c = n
      · have hB : (c == n) = true := by simpa using he
        have HE := Lib.hid he
        clear hc he
        go_wp2
        (try rw [Exit.noGoto_ret])
        go_ret
        exact ⟨by rw [decide_eq_true (HE.out ▸ List.mem_of_getElem? HCC.out)]; rfl, rfl⟩
      · have hB : (c == n) = false := by simpa using he
        have HE := Lib.hid he
        clear hc he
        go_wp2
        go_roundg g
        case measure => omega
        case rel =>
          exact ⟨q + 1, by omega, by go_num, Lib.hid (by rw [hC2.out, List.mem_append, not_or]; exact ⟨HQ.out, by simpa using fun h => HE.out h.symm⟩), rfl⟩

theorem runN_nil (l : List Int) : runN [] l = 0 := by cases l <;> simp [runN]
set_option maxHeartbeats 4000000 in
set_option maxRecDepth 100000 in
theorem run_nil {B : Nat} {w : World} {b : Nat} {v : Value} {sl : List Int} {k : Nat} (h : Sc B w b v sl k) (hk : k ≤ sl.length) (hl : sl.length ≤ 4294967296) (hall : AllS sl) (cap : Nat) (A : Option Addr) :
    Calls Tryd.prog 13 #[.pointer (some ⟨b, 0, none⟩), .slice A 0 cap] w (RunPost B w b v sl [] k) := by
  have HS := Lib.hid h
  have HA := Lib.hid hall
  have c1 := h.c1
  clear h hall
  go_enter Tryd.func13, Tryd.ntmps13
  go_wp2
  go_step3
  go_wp2
  go_step3
  go_wp2
  go_loopg [] 0 (fun g wr => g = 0 ∧ Same w wr)
  case atStart => exact ⟨rfl, Same.refl _⟩
  case round =>
    obtain ⟨rfl, hsw⟩ := hrel
    have hscr := hsw.sc HS.out
    clear c1
    have hfinal : ∀ w2, Same w w2 → RunPost B w b v sl [] k (.returned (.string (textOf ((sl.drop k).take 0)))) w2 := fun w2 s2 => by
      refine ⟨by rw [runN_nil], ?_⟩
      rw [runN_nil]
      exact ⟨s2.sc HS.out, same_grown s2 _⟩
    have HF := Lib.hid hfinal
    clear hfinal
    by_cases hj : k = sl.length
    · subst hj
      have hE := end_yes hscr rfl hl
      clear hscr
      go_wp2_with (go_at_call 17; (with_reducible refine hE.mono ?_); rintro e w2 ⟨rfl, hs2⟩)
      have hsc := Same.sc HS.out (hsw.trans hs2)
      have hfin := HF.out _ (hsw.trans hs2)
      have HFF := Lib.hid hfin
      have c0 := hsc.c0
      have c1 := hsc.c1
      rcases hsc.row.2 with ⟨rfl, hl0⟩ | ⟨g', cap2, cur, rfl, _, _, hcap, _⟩
      · have cv := cvt_nil w2
        have hz : textOf ((sl.drop sl.length).take 0) = textOf [] := by simp
        rw [hz] at HFF
        clear hsc hfin hz hs2 hE hsw
        go_quiet (fail)
        go_wp2
        (try rw [Exit.noGoto_ret])
        go_ret
        exact runpost_same HFF.out ⟨rfl, rfl, rfl, rfl⟩
      · by_cases hck : cap2 = sl.length
        · subst hck
          have cv := cvt hsc HA.out 0 0 0 (by omega)
          have hz : textOf ((sl.drop sl.length).take 0) = textOf ((sl.drop 0).take 0) := by simp
          rw [hz] at HFF
          clear hsc hfin hz hs2 hE hsw
          have b3 : (sl.length : Int) ≤ (sl.length : Int) := by omega
          go_quiet (fail)
          go_wp2
          (try rw [Exit.noGoto_ret])
          go_ret
          exact runpost_same HFF.out ⟨rfl, rfl, rfl, rfl⟩
        · have cv := cvt hsc HA.out sl.length 0 (cap2 - sl.length) (by omega)
          clear hsc hfin hs2 hE hsw
          have b1 : (0 : Int) ≤ (sl.length : Int) := by omega
          have b2 : (sl.length : Int) ≤ (sl.length : Int) := by omega
          have b3 : (sl.length : Int) ≤ (cap2 : Int) := by omega
          have b4 : sl.length ≤ cap2 := by omega
          go_quiet (fail)
          go_wp2
          (try rw [Exit.noGoto_ret])
          go_ret
          exact runpost_same HFF.out ⟨rfl, rfl, rfl, rfl⟩
    · have hE := end_no hscr (by omega) hl
      clear hscr
      go_wp2_with (go_at_call 17; (with_reducible refine hE.mono ?_); rintro e w2 ⟨rfl, hs2⟩)
      go_loopg [17] 0 (fun g2 i wx => g2 = 0 ∧ i = .int .i64 0 ∧ Same w wx)
      case atStart => exact ⟨rfl, rfl, hsw.trans hs2⟩
      case round =>
        obtain ⟨rfl, rfl, hsx⟩ := hrel
        go_wp2
        (try rw [Exit.noGoto_ret])
        have hsc := Same.sc HS.out (hsx)
        have hfin := HF.out _ (hsx)
        have HFF := Lib.hid hfin
        have c0 := hsc.c0
        have c1 := hsc.c1
        rcases hsc.row.2 with ⟨rfl, hl0⟩ | ⟨g', cap2, cur, rfl, _, _, hcap, _⟩
        · have cv := cvt_nil wr
          obtain rfl : k = 0 := by omega
          have hz : textOf ((sl.drop 0).take 0) = textOf [] := by simp
          rw [hz] at HFF
          clear hsc hfin hz
          go_quiet (fail)
          go_wp2
          (try rw [Exit.noGoto_ret])
          go_ret
          exact runpost_same HFF.out ⟨rfl, rfl, rfl, rfl⟩
        · by_cases hck : cap2 = k
          · obtain rfl : cap2 = k := hck
            have cv := cvt hsc HA.out 0 0 0 (by omega)
            have hz : textOf ((sl.drop cap2).take 0) = textOf ((sl.drop 0).take 0) := by simp
            rw [hz] at HFF
            clear hsc hfin hz
            have b3 : (cap2 : Int) ≤ (cap2 : Int) := by omega
            go_quiet (fail)
            go_wp2
            (try rw [Exit.noGoto_ret])
            go_ret
            exact runpost_same HFF.out ⟨rfl, rfl, rfl, rfl⟩
          · have cv := cvt hsc HA.out k 0 (cap2 - k) (by omega)
            clear hsc hfin
            have b1 : (0 : Int) ≤ (k : Int) := by omega
            have b2 : (k : Int) ≤ (k : Int) := by omega
            have b3 : (k : Int) ≤ (cap2 : Int) := by omega
            have b4 : k ≤ cap2 := by omega
            go_quiet (fail)
            go_wp2
            (try rw [Exit.noGoto_ret])
            go_ret
            exact runpost_same HFF.out ⟨rfl, rfl, rfl, rfl⟩
end Go.Proofs.YtjnajpfolppniaaDoor
