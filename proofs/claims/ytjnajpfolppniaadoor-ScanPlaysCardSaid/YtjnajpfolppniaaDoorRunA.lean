/-
  THE SCANNER's 'Run': the signs of some classes that follow.
-/
import Derived.Test.YtjnajpfolppniaaDoorMeth
import Derived.Laws.Cover4
namespace Go.Proofs.YtjnajpfolppniaaDoor
open Go.RowKit
set_option linter.unusedVariables false

theorem encode_list (n : Int) (h : sgn n = true) : (Utf8.encode n).data.toList = Lib.encodeRune n := by
  obtain ⟨h0, h1, h2⟩ := (sgn_iff n).1 h
  have hv : Utf8.valid n = true := by
    unfold Utf8.valid
    rw [Bool.or_eq_true, Bool.and_eq_true, Bool.and_eq_true, decide_eq_true_eq, decide_eq_true_eq, decide_eq_true_eq, decide_eq_true_eq]
    omega
  unfold Utf8.encode Lib.encodeRune
  simp only [hv, if_true]
  by_cases a : n ≤ 127
  · rw [if_pos (by omega), Lib.encodeRuneZ_one h0 a]
    rfl
  by_cases b : n ≤ 2047
  · rw [if_neg (by omega), if_pos (by omega), Lib.encodeRuneZ_two (by omega) b]
    simp only [List.map_cons, List.map_nil]
    rw [show (192 + n / 64).toNat = 192 + n.toNat / 64 by omega, show (128 + n % 64).toNat = 128 + n.toNat % 64 by omega]
  by_cases c : n ≤ 65535
  · rw [if_neg (by omega), if_neg (by omega), if_pos (by omega), Lib.encodeRuneZ_three (by omega)]
    simp only [List.map_cons, List.map_nil]
    rw [show (224 + n / 4096).toNat = 224 + n.toNat / 4096 by omega, show (128 + n / 64 % 64).toNat = 128 + n.toNat / 64 % 64 by omega, show (128 + n % 64).toNat = 128 + n.toNat % 64 by omega]
  · rw [if_neg (by omega), if_neg (by omega), if_neg (by omega), Lib.encodeRuneZ_four (by omega) h1]
    simp only [List.map_cons, List.map_nil]
    rw [show (240 + n / 262144).toNat = 240 + n.toNat / 262144 by omega, show (128 + n / 4096 % 64).toNat = 128 + n.toNat / 4096 % 64 by omega, show (128 + n / 64 % 64).toNat = 128 + n.toNat / 64 % 64 by omega, show (128 + n % 64).toNat = 128 + n.toNat % 64 by omega]
theorem fold_list : ∀ (l : List Int) (s : ByteArray), AllS l → (l.foldl (fun r n => r ++ Utf8.encode n) s).data.toList = s.data.toList ++ encL l
  | [], s, _ => by simp [encL]
  | n :: l, s, h => by
    rw [List.foldl_cons, fold_list l _ h.tail, encL_cons]
    rw [show (s ++ Utf8.encode n).data.toList = s.data.toList ++ (Utf8.encode n).data.toList by simp, encode_list n h.head, List.append_assoc]
theorem runes_text (l : List Int) (h : AllS l) : runesBytes l = textOf l := by
  apply bytes_ext
  rw [textOf_list, runesBytes, fold_list l _ h]
  rfl

/-- The classes' cells. -/
def ClsAt (w : World) (gc oc : Nat) (cs : List Int) : Prop := ∀ (j : Nat) (x : Int), cs[j]? = some x → w.cell? ⟨gc, oc + j, none⟩ = some (.int .i64 x)
theorem ClsAt.kept {w w' : World} {gc oc : Nat} {cs : List Int} {row : Option Nat} (h : ClsAt w gc oc cs) (hg : w.grownBy w' row) (hlt : gc < w.heap.size) (hne : row ≠ some gc) : ClsAt w' gc oc cs := fun j x hx => by
  rw [World.cell?_of_block (w := w) (hg.block gc hlt (fun e => hne e.symm))]
  exact h j x hx
/-- How many signs of the classes follow. -/
def runN (cs : List Int) : List Int → Nat
  | [] => 0
  | n :: l => if cls n ∈ cs then runN cs l + 1 else 0
theorem runN_le (cs : List Int) (l : List Int) : runN cs l ≤ l.length := by
  induction l with
  | nil => simp [runN]
  | cons n l ih => simp only [runN]; split <;> simp <;> omega
/-- The outer relation: j signs are through, all of the classes. -/
def RI (B : Nat) (w : World) (b : Nat) (v : Value) (sl cs : List Int) (k : Nat) (g : Nat) (wr : World) : Prop :=
  ∃ j, k ≤ j ∧ j + g = sl.length ∧ j + runN cs (sl.drop j) = k + runN cs (sl.drop k) ∧ Moves B w b v sl j wr
theorem drop_cons (l : List Int) (j : Nat) (n : Int) (h : l[j]? = some n) : l.drop j = n :: l.drop (j + 1) := by
  have hj := (List.getElem?_eq_some_iff.1 h).1
  rw [List.drop_eq_getElem_cons hj, (List.getElem?_eq_some_iff.1 h).2]
def RunPost (B : Nat) (w : World) (b : Nat) (v : Value) (sl cs : List Int) (k : Nat) (e : Ending) (w' : World) : Prop :=
  e = .returned (.string (textOf ((sl.drop k).take (runN cs (sl.drop k))))) ∧ Moves B w b v sl (k + runN cs (sl.drop k)) w'

theorem cvt {B : Nat} {w : World} {b g n cap : Nat} {sl : List Int} {j : Nat} (h : Sc B w b (.slice (some ⟨g, 0, none⟩) n cap) sl j) (hall : AllS sl) (k q c : Nat) (hq : k + q ≤ sl.length) :
    ∀ m, (convert 47 9 (.slice (some ⟨g, k, none⟩) q c)).run Tryd.prog (w.drewN m) = .ok (.string (textOf ((sl.drop k).take q))) (w.drewN m) := by
  intro m
  rw [← runes_text _ (fun n hn => hall n (List.mem_of_mem_drop (List.mem_of_mem_take hn)))]
  refine run_convert_runes (w.drewN m) 47 9 21 ⟨g, k, none⟩ q c (sl.drop k) (by simp; omega) Tryd.underlying47 Tryd.underlying21 Tryd.underlying9 ?_
  intro i hi
  simp at hi
  have hx : sl[k + i]? = some (sl.getD (k + i) 0) := by
    rw [List.getD_eq_getElem?_getD, List.getElem?_eq_getElem (by omega)]; rfl
  have hc := h.cell (k + i) _ hx
  have he : (sl.drop k).getD i 0 = sl.getD (k + i) 0 := by simp [List.getD, List.getElem?_drop]
  rw [he]
  have : (⟨g, k, none⟩ : Addr).add i = ⟨g, k + i, none⟩ := by
    by_cases hi0 : i = 0
    · subst hi0; simp [Addr.add]
    · simp [Addr.add, hi0]
  rw [this]
  exact hc
theorem runpost_same {B : Nat} {w w1 w2 : World} {b : Nat} {v : Value} {sl cs : List Int} {k : Nat} {e : Ending} (h : RunPost B w b v sl cs k e w1) (s : Same w1 w2) : RunPost B w b v sl cs k e w2 :=
  ⟨h.1, s.sc h.2.1, grown_trans h.2.2 (same_grown s _)⟩
theorem cvt_nil (w : World) : ∀ m, (convert 47 9 (.slice none 0 0)).run Tryd.prog (w.drewN m) = .ok (.string (textOf [])) (w.drewN m) := fun m =>
  run_convert_runes_nil (w.drewN m) 47 9 21 0 0 Tryd.underlying47 Tryd.underlying21 Tryd.underlying9
set_option maxHeartbeats 8000000 in
set_option maxRecDepth 100000 in
theorem run_any {B : Nat} {w : World} {b : Nat} {v : Value} {sl cs : List Int} {k : Nat} (h : Sc B w b v sl k) (hk : k ≤ sl.length) (hl : sl.length ≤ 4294967296) (hall : AllS sl)
    (gc oc cap : Nat) (hgc : gc < w.heap.size) (hgb : gc ≠ b) (hcs : ClsAt w gc oc cs) (hcl : cs.length ≤ 4294967296) :
    Calls Tryd.prog 13 #[.pointer (some ⟨b, 0, none⟩), .slice (some ⟨gc, oc, none⟩) cs.length cap] w (RunPost B w b v sl cs k) := by
  have HS := Lib.hid h
  have HC := Lib.hid hcs
  have HA := Lib.hid hall
  have c1 := h.c1
  clear h hcs hall
  go_enter Tryd.func13, Tryd.ntmps13
  go_wp2
  go_step3
  go_wp2
  go_step3
  go_wp2
  go_loopg [] (sl.length - k) (fun g wr => RI B w b v sl cs k g wr)
  case atStart => exact ⟨k, Nat.le_refl _, by omega, rfl, HS.out, same_grown (Same.refl _) _⟩
  case round =>
    obtain ⟨j, hkj, hjg, hrun, hM⟩ := hrel
    have HR := Lib.hid hrun
    have hcsr := HC.out.kept hM.2 hgc (fun e => hgb (Option.some.inj e).symm)
    have hgcr : gc < wr.heap.size := Nat.lt_of_lt_of_le hgc hM.2.size
    have HM := Lib.hid hM
    clear hrun c1
    cases gk with
    | zero =>
      have hj : j = sl.length := by omega
      have hE := end_yes hM.1 hj hl
      clear hM
      go_wp2_with (go_at_call 17; (with_reducible refine hE.mono ?_); rintro e w2 ⟨rfl, hs2⟩)
      have hkj2 : runN cs (sl.drop k) = j - k := by
        have := HR.out
        rw [show sl.drop j = [] from List.drop_eq_nil_of_le (by omega)] at this
        simp [runN] at this; omega
      have HK := Lib.hid hkj2
      have hjl : j ≤ sl.length := by omega
      have HJ := Lib.hid hj
      clear hkj2 hj
      have hsc := hs2.sc HM.out.1
      have hfin : RunPost B w b v sl cs k (.returned (.string (textOf ((sl.drop k).take (j - k))))) w2 := by
        refine ⟨by rw [HK.out], ?_⟩
        rw [HK.out, show k + (j - k) = j by omega]
        exact ⟨hsc, grown_trans HM.out.2 (same_grown hs2 _)⟩
      have HF := Lib.hid hfin
      have c0 := hsc.c0
      have c1 := hsc.c1
      rcases hsc.row.2 with ⟨rfl, hl0⟩ | ⟨g', cap2, cur, rfl, _, _, hcap, _⟩
      · have cv := cvt_nil w2
        obtain rfl : j = 0 := by omega
        obtain rfl : k = 0 := by omega
        clear hs2 hE hsc hfin
        go_quiet (fail)
        go_wp2
        (try rw [Exit.noGoto_ret])
        go_ret
        exact runpost_same HF.out ⟨rfl, rfl, rfl, rfl⟩
      · by_cases hck : cap2 = k
        · obtain rfl : j = k := by omega
          obtain rfl : cap2 = j := hck
          have cv := cvt hsc HA.out 0 0 0 (by omega)
          have hz : textOf ((sl.drop cap2).take (cap2 - cap2)) = textOf ((sl.drop 0).take 0) := by simp
          rw [hz] at HF
          clear hs2 hE hsc hfin hz
          have b3 : (cap2 : Int) ≤ (cap2 : Int) := by omega
          go_quiet (fail)
          go_wp2
          (try rw [Exit.noGoto_ret])
          go_ret
          exact runpost_same HF.out ⟨rfl, rfl, rfl, rfl⟩
        · have cv := cvt hsc HA.out k (j - k) (cap2 - k) (by omega)
          clear hs2 hE hsc hfin
          have b1 : (0 : Int) ≤ (k : Int) := by omega
          have b2 : (k : Int) ≤ (j : Int) := by omega
          have b3 : (j : Int) ≤ (cap2 : Int) := by omega
          have b4 : k ≤ cap2 := by omega
          go_quiet (fail)
          go_wp2
          (try rw [Exit.noGoto_ret])
          go_ret
          exact runpost_same HF.out ⟨rfl, rfl, rfl, rfl⟩
    | succ g =>
      have hj : j < sl.length := by omega
      obtain ⟨n, hn⟩ : ∃ n, sl[j]? = some n := ⟨_, List.getElem?_eq_getElem hj⟩
      have HN := Lib.hid hn
      have hE := end_no hM.1 hj hl
      clear hM hn
      go_wp2_with (go_at_call 17; (with_reducible refine hE.mono ?_); rintro e w2 ⟨rfl, hs2⟩)
      have HS2 := Lib.hid hs2
      clear hs2 hE
      go_loopg [17] cs.length (fun g2 i wx => ∃ q : Nat, q + g2 = cs.length ∧ i = .int .i64 q ∧ Hid (cls n ∉ cs.take q) ∧ Same wr wx)
      case atStart => exact ⟨0, by omega, rfl, Lib.hid (by simp), HS2.out⟩
      case round =>
        obtain ⟨q, hqg, rfl, HQ, hsx⟩ := hrel
        have hMx := hsx.sc HM.out.1
        have hgx : gc < wr.heap.size := by rw [hsx.heap]; exact hgcr
        cases gk with
        | zero =>
          have hq : q = cs.length := by omega
          have hq2 : ¬ ((q : Int) < (cs.length : Int)) := by omega
          have HSX := Lib.hid hsx
          clear hsx hMx
          have hnot : cls n ∉ cs := by
            have := HQ.out
            rwa [hq, List.take_length] at this
          have hkj2 : runN cs (sl.drop k) = j - k := by
            have := HR.out
            rw [drop_cons sl j n HN.out] at this
            simp only [runN, if_neg hnot] at this
            omega
          have HK := Lib.hid hkj2
          have hjl : j ≤ sl.length := by omega
          have HQ2 := Lib.hid hq
          clear hkj2 hnot hq
          go_wp2
          (try rw [Exit.noGoto_ret])
          have hsx := HSX.out
          have hsc := hsx.sc HM.out.1
          have hfin : RunPost B w b v sl cs k (.returned (.string (textOf ((sl.drop k).take (j - k))))) wr := by
            refine ⟨by rw [HK.out], ?_⟩
            rw [HK.out, show k + (j - k) = j by omega]
            exact ⟨hsc, grown_trans HM.out.2 (same_grown hsx _)⟩
          have HF := Lib.hid hfin
          have c0 := hsc.c0
          have c1 := hsc.c1
          rcases hsc.row.2 with ⟨rfl, hl0⟩ | ⟨g', cap2, cur, rfl, _, _, hcap, _⟩
          · have cv := cvt_nil wr
            obtain rfl : j = 0 := by omega
            obtain rfl : k = 0 := by omega
            clear hsx hsc hfin
            go_quiet (fail)
            go_wp2
            (try rw [Exit.noGoto_ret])
            go_ret
            exact runpost_same HF.out ⟨rfl, rfl, rfl, rfl⟩
          · by_cases hck : cap2 = k
            · obtain rfl : j = k := by omega
              obtain rfl : cap2 = j := hck
              have cv := cvt hsc HA.out 0 0 0 (by omega)
              have hz : textOf ((sl.drop cap2).take (cap2 - cap2)) = textOf ((sl.drop 0).take 0) := by simp
              rw [hz] at HF
              clear hsx hsc hfin hz
              have b3 : (cap2 : Int) ≤ (cap2 : Int) := by omega
              go_quiet (fail)
              go_wp2
              (try rw [Exit.noGoto_ret])
              go_ret
              exact runpost_same HF.out ⟨rfl, rfl, rfl, rfl⟩
            · have cv := cvt hsc HA.out k (j - k) (cap2 - k) (by omega)
              clear hsx hsc hfin
              have b1 : (0 : Int) ≤ (k : Int) := by omega
              have b2 : (k : Int) ≤ (j : Int) := by omega
              have b3 : (j : Int) ≤ (cap2 : Int) := by omega
              have b4 : k ≤ cap2 := by omega
              go_quiet (fail)
              go_wp2
              (try rw [Exit.noGoto_ret])
              go_ret
              exact runpost_same HF.out ⟨rfl, rfl, rfl, rfl⟩
        | succ g2 =>
          have hq : q < cs.length := by omega
          obtain ⟨c, hc⟩ : ∃ c, cs[q]? = some c := ⟨_, List.getElem?_eq_getElem hq⟩
          have hcell : wr.cell? ⟨gc, oc + q, none⟩ = some (.int .i64 c) := by
            rw [World.cell?_of_block (w := w) (by rw [hsx.heap]; exact HM.out.2.block gc hgc (fun e => hgb (Option.some.inj e)))]
            exact HC.out q c hc
          have hP := peek_sign hMx HN.out hl
          have hC2 : Hid (cs.take (q + 1) = cs.take q ++ [c]) := by
            refine Lib.hid ?_
            rw [List.take_succ_eq_append_getElem hq, (List.getElem?_eq_some_iff.1 hc).2]
          have HCC := Lib.hid hc
          have HSX := Lib.hid hsx
          by_cases he : cls n = c
          · have hB : (cls n == c) = true := by simpa using he
            have HE := Lib.hid he
            clear hsx hMx hc he
            go_wp2_with (first
              | (go_at_call 16; (with_reducible refine hP.mono ?_); rintro e w3 ⟨rfl, hs3⟩; have h3 := (HSX.out.trans hs3).sc HM.out.1; have c13 := h3.c1; have f13 := h3.f1)
              | (go_at_call 25; (with_reducible refine (class_any n _).mono ?_); rintro e w' ⟨rfl, rfl⟩))
            have hfin : RI B w b v sl cs k g (w3.setCell ⟨b, 1, none⟩ (.int .i64 ((j : Int) + 1))) := by
              refine ⟨j + 1, by omega, by omega, ?_, by exact h3.place (j + 1), grown_trans HM.out.2 (grown_trans (same_grown (HSX.out.trans hs3) _) (grown_set w3 b 1 _))⟩
              have := HR.out
              rw [drop_cons sl j n HN.out] at this
              simp only [runN, if_pos (show cls n ∈ cs from HE.out ▸ List.mem_of_getElem? HCC.out)] at this
              omega
            have HF := Lib.hid hfin
            clear hfin h3 c13 f13
            go_roundg g
            case measure => omega
            case rel => exact HF.out
          · have hB : (cls n == c) = false := by simpa using he
            have HE := Lib.hid he
            clear hsx hMx hc he
            go_wp2_with (first
              | (go_at_call 16; (with_reducible refine hP.mono ?_); rintro e w3 ⟨rfl, hs3⟩)
              | (go_at_call 25; (with_reducible refine (class_any n _).mono ?_); rintro e w' ⟨rfl, rfl⟩))
            go_roundg g2
            case measure => omega
            case rel =>
              exact ⟨q + 1, by omega, by go_num, Lib.hid (by rw [hC2.out, List.mem_append, not_or]; exact ⟨HQ.out, by simpa using HE.out⟩), HSX.out.trans hs3⟩
end Go.Proofs.YtjnajpfolppniaaDoor
