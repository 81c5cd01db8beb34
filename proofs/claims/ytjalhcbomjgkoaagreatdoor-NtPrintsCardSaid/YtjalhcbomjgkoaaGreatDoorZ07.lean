/-
  MERGED (a claim has at most 60 files): RunA, ReadD, ReadE, ReadF, ReadG.
-/
import Derived.Test.YtjalhcbomjgkoaaGreatDoorZ06
import Derived.Laws.Cover4
/-
  THE SCANNER's 'Run': the signs of some classes that follow.
-/
namespace Go.Proofs.YtjalhcbomjgkoaaGreatDoor
open Go.RowKit
set_option linter.unusedVariables false

theorem encode_list (n : Int) (h : sgn n = true) : (Utf8.encode n).data.toList = Lib.encodeRune n := by
  obtain ⟨h0, h1, h2⟩ := (sgn_iff n).1 h
  have hv : Utf8.valid n = true := by
    unfold Utf8.valid
    rw [Bool.or_eq_true, Bool.and_eq_true, Bool.and_eq_true, decide_eq_true_eq, decide_eq_true_eq, decide_eq_true_eq, decide_eq_true_eq]
    omega
  unfold Utf8.encode Lib.encodeRune
  simp only [hv, if_true]
  by_cases a : n ≤ 127
  · rw [if_pos (by omega), Lib.encodeRuneZ_one h0 a]
    rfl
  by_cases b : n ≤ 2047
  · rw [if_neg (by omega), if_pos (by omega), Lib.encodeRuneZ_two (by omega) b]
    simp only [List.map_cons, List.map_nil]
    rw [show (192 + n / 64).toNat = 192 + n.toNat / 64 by omega, show (128 + n % 64).toNat = 128 + n.toNat % 64 by omega]
  by_cases c : n ≤ 65535
  · rw [if_neg (by omega), if_neg (by omega), if_pos (by omega), Lib.encodeRuneZ_three (by omega)]
    simp only [List.map_cons, List.map_nil]
    rw [show (224 + n / 4096).toNat = 224 + n.toNat / 4096 by omega, show (128 + n / 64 % 64).toNat = 128 + n.toNat / 64 % 64 by omega, show (128 + n % 64).toNat = 128 + n.toNat % 64 by omega]
  · rw [if_neg (by omega), if_neg (by omega), if_neg (by omega), Lib.encodeRuneZ_four (by omega) h1]
    simp only [List.map_cons, List.map_nil]
    rw [show (240 + n / 262144).toNat = 240 + n.toNat / 262144 by omega, show (128 + n / 4096 % 64).toNat = 128 + n.toNat / 4096 % 64 by omega, show (128 + n / 64 % 64).toNat = 128 + n.toNat / 64 % 64 by omega, show (128 + n % 64).toNat = 128 + n.toNat % 64 by omega]
theorem fold_list : ∀ (l : List Int) (s : ByteArray), AllS l → (l.foldl (fun r n => r ++ Utf8.encode n) s).data.toList = s.data.toList ++ encL l
  | [], s, _ => by simp [encL]
  | n :: l, s, h => by
    rw [List.foldl_cons, fold_list l _ h.tail, encL_cons]
    rw [show (s ++ Utf8.encode n).data.toList = s.data.toList ++ (Utf8.encode n).data.toList by simp, encode_list n h.head, List.append_assoc]
theorem runes_text (l : List Int) (h : AllS l) : runesBytes l = textOf l := by
  apply bytes_extD
  rw [textOf_list, runesBytes, fold_list l _ h]
  rfl

/-- The classes' cells. -/
def ClsAt (w : World) (gc oc : Nat) (cs : List Int) : Prop := ∀ (j : Nat) (x : Int), cs[j]? = some x → w.cell? ⟨gc, oc + j, none⟩ = some (.int .i64 x)
theorem ClsAt.kept {w w' : World} {gc oc : Nat} {cs : List Int} {row : Option Nat} (h : ClsAt w gc oc cs) (hg : w.grownBy w' row) (hlt : gc < w.heap.size) (hne : row ≠ some gc) : ClsAt w' gc oc cs := fun j x hx => by
  rw [World.cell?_of_block (w := w) (hg.block gc hlt (fun e => hne e.symm))]
  exact h j x hx
/-- How many signs of the classes follow. -/
def runN (cs : List Int) : List Int → Nat
  | [] => 0
  | n :: l => if cls n ∈ cs then runN cs l + 1 else 0
theorem runN_le (cs : List Int) (l : List Int) : runN cs l ≤ l.length := by
  induction l with
  | nil => simp [runN]
  | cons n l ih => simp only [runN]; split <;> simp <;> omega
/-- The outer relation: j signs are through, all of the classes. -/
def RI (B : Nat) (w : World) (b : Nat) (v : Value) (sl cs : List Int) (k : Nat) (g : Nat) (wr : World) : Prop :=
  ∃ j, k ≤ j ∧ j + g = sl.length ∧ j + runN cs (sl.drop j) = k + runN cs (sl.drop k) ∧ Moves B w b v sl j wr
theorem drop_cons (l : List Int) (j : Nat) (n : Int) (h : l[j]? = some n) : l.drop j = n :: l.drop (j + 1) := by
  have hj := (List.getElem?_eq_some_iff.1 h).1
  rw [List.drop_eq_getElem_cons hj, (List.getElem?_eq_some_iff.1 h).2]
def RunPost (B : Nat) (w : World) (b : Nat) (v : Value) (sl cs : List Int) (k : Nat) (e : Ending) (w' : World) : Prop :=
  e = .returned (.string (textOf ((sl.drop k).take (runN cs (sl.drop k))))) ∧ Moves B w b v sl (k + runN cs (sl.drop k)) w'

theorem cvt {B : Nat} {w : World} {b g n cap : Nat} {sl : List Int} {j : Nat} (h : Sc B w b (.slice (some ⟨g, 0, none⟩) n cap) sl j) (hall : AllS sl) (k q c : Nat) (hq : k + q ≤ sl.length) :
    ∀ m, (convert 140 9 (.slice (some ⟨g, k, none⟩) q c)).run Tryz.prog (w.drewN m) = .ok (.string (textOf ((sl.drop k).take q))) (w.drewN m) := by
  intro m
  rw [← runes_text _ (fun n hn => hall n (List.mem_of_mem_drop (List.mem_of_mem_take hn)))]
  refine run_convert_runes (w.drewN m) 140 9 21 ⟨g, k, none⟩ q c (sl.drop k) (by simp; omega) Tryz.underlying140 Tryz.underlying21 Tryz.underlying9 ?_
  intro i hi
  simp at hi
  have hx : sl[k + i]? = some (sl.getD (k + i) 0) := by
    rw [List.getD_eq_getElem?_getD, List.getElem?_eq_getElem (by omega)]; rfl
  have hc := h.cell (k + i) _ hx
  have he : (sl.drop k).getD i 0 = sl.getD (k + i) 0 := by simp [List.getD, List.getElem?_drop]
  rw [he]
  have : (⟨g, k, none⟩ : Addr).add i = ⟨g, k + i, none⟩ := by
    by_cases hi0 : i = 0
    · subst hi0; simp [Addr.add]
    · simp [Addr.add, hi0]
  rw [this]
  exact hc
theorem runpost_same {B : Nat} {w w1 w2 : World} {b : Nat} {v : Value} {sl cs : List Int} {k : Nat} {e : Ending} (h : RunPost B w b v sl cs k e w1) (s : Same w1 w2) : RunPost B w b v sl cs k e w2 :=
  ⟨h.1, s.sc h.2.1, grown_trans h.2.2 (same_grown s _)⟩
theorem cvt_nil (w : World) : ∀ m, (convert 140 9 (.slice none 0 0)).run Tryz.prog (w.drewN m) = .ok (.string (textOf [])) (w.drewN m) := fun m =>
  run_convert_runes_nil (w.drewN m) 140 9 21 0 0 Tryz.underlying140 Tryz.underlying21 Tryz.underlying9
set_option maxHeartbeats 8000000 in
set_option maxRecDepth 100000 in
theorem run_any {B : Nat} {w : World} {b : Nat} {v : Value} {sl cs : List Int} {k : Nat} (h : Sc B w b v sl k) (hk : k ≤ sl.length) (hl : sl.length ≤ 4294967296) (hall : AllS sl)
    (gc oc cap : Nat) (hgc : gc < w.heap.size) (hgb : gc ≠ b) (hcs : ClsAt w gc oc cs) (hcl : cs.length ≤ 4294967296) :
    Calls Tryz.prog 126 #[.pointer (some ⟨b, 0, none⟩), .slice (some ⟨gc, oc, none⟩) cs.length cap] w (RunPost B w b v sl cs k) := by
  have HS := Lib.hid h
  have HC := Lib.hid hcs
  have HA := Lib.hid hall
  have c1 := h.c1
  clear h hcs hall
  go_enter Tryz.func126, Tryz.ntmps126
  go_wp2
  go_step3
  go_wp2
  go_step3
  go_wp2
  go_loopg [] (sl.length - k) (fun g wr => RI B w b v sl cs k g wr)
  case atStart => exact ⟨k, Nat.le_refl _, by omega, rfl, HS.out, same_grown (Same.refl _) _⟩
  case round =>
    obtain ⟨j, hkj, hjg, hrun, hM⟩ := hrel
    have HR := Lib.hid hrun
    have hcsr := HC.out.kept hM.2 hgc (fun e => hgb (Option.some.inj e).symm)
    have hgcr : gc < wr.heap.size := Nat.lt_of_lt_of_le hgc hM.2.size
    have HM := Lib.hid hM
    clear hrun c1
    cases gk with
    | zero =>
      have hj : j = sl.length := by omega
      have hE := end_yes hM.1 hj hl
      clear hM
      go_wp2_with (go_at_call 59; (with_reducible refine hE.mono ?_); rintro e w2 ⟨rfl, hs2⟩)
      have hkj2 : runN cs (sl.drop k) = j - k := by
        have := HR.out
        rw [show sl.drop j = [] from List.drop_eq_nil_of_le (by omega)] at this
        simp [runN] at this; omega
      have HK := Lib.hid hkj2
      have hjl : j ≤ sl.length := by omega
      have HJ := Lib.hid hj
      clear hkj2 hj
      have hsc := hs2.sc HM.out.1
      have hfin : RunPost B w b v sl cs k (.returned (.string (textOf ((sl.drop k).take (j - k))))) w2 := by
        refine ⟨by rw [HK.out], ?_⟩
        rw [HK.out, show k + (j - k) = j by omega]
        exact ⟨hsc, grown_trans HM.out.2 (same_grown hs2 _)⟩
      have HF := Lib.hid hfin
      have c0 := hsc.c0
      have c1 := hsc.c1
      rcases hsc.row.2 with ⟨rfl, hl0⟩ | ⟨g', cap2, cur, rfl, _, _, hcap, _⟩
      · have cv := cvt_nil w2
        obtain rfl : j = 0 := by omega
        obtain rfl : k = 0 := by omega
        clear hs2 hE hsc hfin
        go_quiet (fail)
        go_wp2
        (try rw [Exit.noGoto_ret])
        go_ret
        exact runpost_same HF.out ⟨rfl, rfl, rfl, rfl⟩
      · by_cases hck : cap2 = k
        · obtain rfl : j = k := by omega
          obtain rfl : cap2 = j := hck
          have cv := cvt hsc HA.out 0 0 0 (by omega)
          have hz : textOf ((sl.drop cap2).take (cap2 - cap2)) = textOf ((sl.drop 0).take 0) := by simp
          rw [hz] at HF
          clear hs2 hE hsc hfin hz
          have b3 : (cap2 : Int) ≤ (cap2 : Int) := by omega
          go_quiet (fail)
          go_wp2
          (try rw [Exit.noGoto_ret])
          go_ret
          exact runpost_same HF.out ⟨rfl, rfl, rfl, rfl⟩
        · have cv := cvt hsc HA.out k (j - k) (cap2 - k) (by omega)
          clear hs2 hE hsc hfin
          have b1 : (0 : Int) ≤ (k : Int) := by omega
          have b2 : (k : Int) ≤ (j : Int) := by omega
          have b3 : (j : Int) ≤ (cap2 : Int) := by omega
          have b4 : k ≤ cap2 := by omega
          go_quiet (fail)
          go_wp2
          (try rw [Exit.noGoto_ret])
          go_ret
          exact runpost_same HF.out ⟨rfl, rfl, rfl, rfl⟩
    | succ g =>
      have hj : j < sl.length := by omega
      obtain ⟨n, hn⟩ : ∃ n, sl[j]? = some n := ⟨_, List.getElem?_eq_getElem hj⟩
      have HN := Lib.hid hn
      have hE := end_no hM.1 hj hl
      clear hM hn
      go_wp2_with (go_at_call 59; (with_reducible refine hE.mono ?_); rintro e w2 ⟨rfl, hs2⟩)
      have HS2 := Lib.hid hs2
      clear hs2 hE
      go_loopg [17] cs.length (fun g2 i wx => ∃ q : Nat, q + g2 = cs.length ∧ i = .int .i64 q ∧ Hid (cls n ∉ cs.take q) ∧ Same wr wx)
      case atStart => exact ⟨0, by omega, rfl, Lib.hid (by simp), HS2.out⟩
      case round =>
        obtain ⟨q, hqg, rfl, HQ, hsx⟩ := hrel
        have hMx := hsx.sc HM.out.1
        have hgx : gc < wr.heap.size := by rw [hsx.heap]; exact hgcr
        cases gk with
        | zero =>
          have hq : q = cs.length := by omega
          have hq2 : ¬ ((q : Int) < (cs.length : Int)) := by omega
          have HSX := Lib.hid hsx
          clear hsx hMx
          have hnot : cls n ∉ cs := by
            have := HQ.out
            rwa [hq, List.take_length] at this
          have hkj2 : runN cs (sl.drop k) = j - k := by
            have := HR.out
            rw [drop_cons sl j n HN.out] at this
            simp only [runN, if_neg hnot] at this
            omega
          have HK := Lib.hid hkj2
          have hjl : j ≤ sl.length := by omega
          have HQ2 := Lib.hid hq
          clear hkj2 hnot hq
          go_wp2
          (try rw [Exit.noGoto_ret])
          have hsx := HSX.out
          have hsc := hsx.sc HM.out.1
          have hfin : RunPost B w b v sl cs k (.returned (.string (textOf ((sl.drop k).take (j - k))))) wr := by
            refine ⟨by rw [HK.out], ?_⟩
            rw [HK.out, show k + (j - k) = j by omega]
            exact ⟨hsc, grown_trans HM.out.2 (same_grown hsx _)⟩
          have HF := Lib.hid hfin
          have c0 := hsc.c0
          have c1 := hsc.c1
          rcases hsc.row.2 with ⟨rfl, hl0⟩ | ⟨g', cap2, cur, rfl, _, _, hcap, _⟩
          · have cv := cvt_nil wr
            obtain rfl : j = 0 := by omega
            obtain rfl : k = 0 := by omega
            clear hsx hsc hfin
            go_quiet (fail)
            go_wp2
            (try rw [Exit.noGoto_ret])
            go_ret
            exact runpost_same HF.out ⟨rfl, rfl, rfl, rfl⟩
          · by_cases hck : cap2 = k
            · obtain rfl : j = k := by omega
              obtain rfl : cap2 = j := hck
              have cv := cvt hsc HA.out 0 0 0 (by omega)
              have hz : textOf ((sl.drop cap2).take (cap2 - cap2)) = textOf ((sl.drop 0).take 0) := by simp
              rw [hz] at HF
              clear hsx hsc hfin hz
              have b3 : (cap2 : Int) ≤ (cap2 : Int) := by omega
              go_quiet (fail)
              go_wp2
              (try rw [Exit.noGoto_ret])
              go_ret
              exact runpost_same HF.out ⟨rfl, rfl, rfl, rfl⟩
            · have cv := cvt hsc HA.out k (j - k) (cap2 - k) (by omega)
              clear hsx hsc hfin
              have b1 : (0 : Int) ≤ (k : Int) := by omega
              have b2 : (k : Int) ≤ (j : Int) := by omega
              have b3 : (j : Int) ≤ (cap2 : Int) := by omega
              have b4 : k ≤ cap2 := by omega
              go_quiet (fail)
              go_wp2
              (try rw [Exit.noGoto_ret])
              go_ret
              exact runpost_same HF.out ⟨rfl, rfl, rfl, rfl⟩
        | succ g2 =>
          have hq : q < cs.length := by omega
          obtain ⟨c, hc⟩ : ∃ c, cs[q]? = some c := ⟨_, List.getElem?_eq_getElem hq⟩
          have hcell : wr.cell? ⟨gc, oc + q, none⟩ = some (.int .i64 c) := by
            rw [World.cell?_of_block (w := w) (by rw [hsx.heap]; exact HM.out.2.block gc hgc (fun e => hgb (Option.some.inj e)))]
            exact HC.out q c hc
          have hP := peek_sign hMx HN.out hl
          have hC2 : Hid (cs.take (q + 1) = cs.take q ++ [c]) := by
            refine Lib.hid ?_
            rw [List.take_succ_eq_append_getElem hq, (List.getElem?_eq_some_iff.1 hc).2]
          have HCC := Lib.hid hc
          have HSX := Lib.hid hsx
          by_cases he : cls n = c
          · have hB : (cls n == c) = true := by simpa using he
            have HE := Lib.hid he
            clear hsx hMx hc he
            go_wp2_with (first
              | (go_at_call 86; (with_reducible refine hP.mono ?_); rintro e w3 ⟨rfl, hs3⟩; have h3 := (HSX.out.trans hs3).sc HM.out.1; have c13 := h3.c1; have f13 := h3.f1)
              | (go_at_call 99; (with_reducible refine (class_any n _).mono ?_); rintro e w' ⟨rfl, rfl⟩))
            have hfin : RI B w b v sl cs k g (w3.setCell ⟨b, 1, none⟩ (.int .i64 ((j : Int) + 1))) := by
              refine ⟨j + 1, by omega, by omega, ?_, by exact h3.place (j + 1), grown_trans HM.out.2 (grown_trans (same_grown (HSX.out.trans hs3) _) (grown_set w3 b 1 _))⟩
              have := HR.out
              rw [drop_cons sl j n HN.out] at this
              simp only [runN, if_pos (show cls n ∈ cs from HE.out ▸ List.mem_of_getElem? HCC.out)] at this
              omega
            have HF := Lib.hid hfin
            clear hfin h3 c13 f13
            go_roundg g
            case measure => omega
            case rel => exact HF.out
          · have hB : (cls n == c) = false := by simpa using he
            have HE := Lib.hid he
            clear hsx hMx hc he
            go_wp2_with (first
              | (go_at_call 86; (with_reducible refine hP.mono ?_); rintro e w3 ⟨rfl, hs3⟩)
              | (go_at_call 99; (with_reducible refine (class_any n _).mono ?_); rintro e w' ⟨rfl, rfl⟩))
            go_roundg g2
            case measure => omega
            case rel =>
              exact ⟨q + 1, by omega, by go_num, Lib.hid (by rw [hC2.out, List.mem_append, not_or]; exact ⟨HQ.out, by simpa using HE.out⟩), HSX.out.trans hs3⟩
end Go.Proofs.YtjalhcbomjgkoaaGreatDoor

/-
  READING A SIGN'S NUMBER: all ways.
-/
namespace Go.Proofs.YtjalhcbomjgkoaaGreatDoor
open Go.RowKit
set_option linter.unusedVariables false

/-- m digits are to come, of the number so far, at place p: where it stops, and the sign. -/
def rd : Nat → Int → List Int → Nat → Nat × Option Int
  | 0, S, _, p => if sgn S = true then (p, some S) else (p - 1, none)
  | _ + 1, _, [], p => (p, none)
  | m + 1, S, d :: l, p => if hexv d < 0 then (p, none) else rd m (S * 16 + hexv d) l (p + 1)
theorem rd_zero (S : Int) (l : List Int) (p : Nat) : rd 0 S l p = if sgn S = true then (p, some S) else (p - 1, none) := by cases l <;> rfl
theorem rd_end (m : Nat) (S : Int) (p : Nat) : rd (m + 1) S [] p = (p, none) := rfl
theorem rd_cons (m : Nat) (S d : Int) (l : List Int) (p : Nat) : rd (m + 1) S (d :: l) p = if hexv d < 0 then (p, none) else rd m (S * 16 + hexv d) l (p + 1) := rfl
def RdPost (B : Nat) (w : World) (b : Nat) (v : Value) (sl : List Int) (r : Nat × Option Int) (e : Ending) (w' : World) : Prop :=
  e = .returned (.tuple #[.int .i32 (r.2.getD 0), .bool r.2.isSome]) ∧ Moves B w b v sl r.1 w'
/-- As a rune holds it. -/
def w32 (S : Int) : Int := if S < 2147483648 then S else S - 4294967296
theorem bits_high (X D : Int) (h1 : 2147483648 ≤ X) (h2 : X < 4294967296) (hm : X % 16 = 0) (d0 : 0 ≤ D) (d1 : D < 16) : bits .or .i32 (X - 4294967296) D = X - 4294967296 + D := by
  obtain ⟨x, rfl⟩ := Int.eq_ofNat_of_zero_le (show 0 ≤ X by omega)
  obtain ⟨d, rfl⟩ := Int.eq_ofNat_of_zero_le d0
  have e : BitVec.ofInt 32 ((x : Int) - 4294967296) = BitVec.ofNat 32 x := by
    apply BitVec.eq_of_toNat_eq
    simp [BitVec.toNat_ofInt]
    omega
  have hj := bits_join .u32 32 (by decide) (fun n a b => by rw [IntKind.wrap_u32]; omega) 4 (x : Int) (d : Int) (by omega) (by omega) (by omega) (by omega) (by omega) (by omega)
  have ex : x % 2 ^ 32 = x := Nat.mod_eq_of_lt (by omega)
  have ed : d % 2 ^ 32 = d := Nat.mod_eq_of_lt (by omega)
  have hj2 : IntKind.u32.wrap (((BitVec.ofInt 32 (x : Int) ||| BitVec.ofInt 32 (d : Int) : BitVec 32).toNat : Nat) : Int) = (x : Int) + (d : Int) := hj
  rw [BitVec.ofInt_natCast, BitVec.ofInt_natCast, BitVec.toNat_or, BitVec.toNat_ofNat, BitVec.toNat_ofNat, ex, ed, IntKind.wrap_u32] at hj2
  show IntKind.i32.wrap (((BitVec.ofInt 32 ((x : Int) - 4294967296) ||| BitVec.ofInt 32 (d : Int) : BitVec 32).toNat : Nat) : Int) = _
  rw [e, BitVec.ofInt_natCast, BitVec.toNat_or, BitVec.toNat_ofNat, BitVec.toNat_ofNat, ex, ed, IntKind.wrap_i32]
  omega
/-- i digits are read, g are to come. -/
def NumA (B : Nat) (w : World) (b : Nat) (v : Value) (sl : List Int) (m k g : Nat) (s6 s9 : Value) (wr : World) : Prop :=
  ∃ (i : Nat) (S : Int), i + g = m ∧ k + i ≤ sl.length ∧ 0 ≤ S ∧ S < 16 ^ i ∧ s6 = .int .i32 (w32 S) ∧ s9 = .int .i64 i ∧ rd m 0 (sl.drop k) k = rd g S (sl.drop (k + i)) (k + i) ∧ Moves B w b v sl (k + i) wr

set_option maxHeartbeats 4000000 in
set_option maxRecDepth 100000 in
theorem number_any {B : Nat} {w : World} {b : Nat} {v : Value} {sl : List Int} {k : Nat} (h : Sc B w b v sl k) (hk : k ≤ sl.length) (hl : sl.length ≤ 4294967296) (m : Nat) (hm0 : 0 < m) (hm : m ≤ 8) :
    Calls Tryz.prog 139 #[.pointer (some ⟨b, 0, none⟩), .int .i64 m] w (RdPost B w b v sl (rd m 0 (sl.drop k) k)) := by
  have HS := Lib.hid h
  clear h
  go_enter Tryz.func139, Tryz.ntmps139
  go_wp2
  go_loopg [6, 9] m (fun g s6 s9 wr => NumA B w b v sl m k g s6 s9 wr)
  case atStart => exact ⟨0, 0, by omega, by omega, by omega, by omega, rfl, rfl, rfl, HS.out, same_grown (Same.refl _) _⟩
  case round =>
    obtain ⟨i, S, hig, hki, hS0, hS1, rfl, rfl, hrd, hM⟩ := hrel
    have HRD := Lib.hid hrd
    have HM := Lib.hid hM
    obtain ⟨R, hR⟩ : ∃ R, R = w32 S := ⟨_, rfl⟩
    have HR := Lib.hid hR
    cases gk with
    | zero =>
      have him : i = m := by omega
      have hge : ¬ ((i : Int) < (m : Int)) := by omega
      have c1 := hM.1.c1
      have f1 := hM.1.f1
      have hS2 : S < 4294967296 := by
        have : (16 : Int) ^ i ≤ 16 ^ 8 := by
          have := Nat.pow_le_pow_right (show 0 < 16 by decide) (show i ≤ 8 by omega)
          exact_mod_cast this
        omega
      have hcl : cls R = 6 ↔ ¬ sgn S = true := by
        rw [sgn_iff, hR]; unfold cls w32; split <;> omega
      rw [← hR]
      by_cases hs : sgn S = true
      · have hnot : (cls R == 6) = false := by
          have : cls R ≠ 6 := fun x => (hcl.1 x) hs
          simpa using this
        have hRS : R = S := by
          have := (sgn_iff _).1 hs
          rw [hR]; unfold w32; rw [if_pos (by omega)]
        have hfin : RdPost B w b v sl (rd m 0 (sl.drop k) k) (.returned (.tuple #[.int .i32 R, .bool true])) wr := by
          rw [hrd, rd_zero, if_pos hs]; exact ⟨by rw [hRS]; rfl, hM⟩
        have HF := Lib.hid hfin
        clear hM hrd hR hcl hs hRS hfin hS0 hS1 hS2
        go_wp2_with (go_at_call 99; (with_reducible refine (class_any R _).mono ?_); rintro e w' ⟨rfl, rfl⟩)
        go_ret2
        exact HF.out
      · have hyes : (cls R == 6) = true := by simpa using hcl.2 hs
        have hfin : RdPost B w b v sl (rd m 0 (sl.drop k) k) (.returned (.tuple #[.int .i32 0, .bool false])) (wr.setCell ⟨b, 1, none⟩ (.int .i64 ((k : Int) + (i : Int) - 1))) := by
          rw [hrd, rd_zero, if_neg hs]
          have := hM.1.place (k + i - 1)
          rw [show ((k + i - 1 : Nat) : Int) = (k : Int) + (i : Int) - 1 by omega] at this
          exact ⟨rfl, this, grown_trans hM.2 (grown_set wr b 1 _)⟩
        have HF := Lib.hid hfin
        clear hM hrd hR hcl hs hfin hS0 hS1 hS2 him
        go_wp2_with (go_at_call 99; (with_reducible refine (class_any R _).mono ?_); rintro e w' ⟨rfl, rfl⟩)
        go_ret2
        exact HF.out
    | succ g =>
      have hi2 : (i : Int) < (m : Int) := by omega
      have hS2 : S < 268435456 := by
        have : (16 : Int) ^ i ≤ 16 ^ 7 := by
          have := Nat.pow_le_pow_right (show 0 < 16 by decide) (show i ≤ 7 by omega)
          exact_mod_cast this
        omega
      have hRS : R = S := by rw [hR]; unfold w32; rw [if_pos (by omega)]
      rw [← hR]
      by_cases he : k + i = sl.length
      · have hP := peek_end hM.1 he hl
        have hH : ∀ W, Calls Tryz.prog 133 #[.int .i32 (-1)] W fun e w' => e = .returned (.int .i64 (-1)) ∧ W = w' := fun W => hex_any (-1) W
        have hfin : ∀ w3, Same wr w3 → RdPost B w b v sl (rd m 0 (sl.drop k) k) (.returned (.tuple #[.int .i32 0, .bool false])) w3 := fun w3 s3 => by
          rw [hrd, he, List.drop_length, rd_end, ← he]; exact ⟨rfl, s3.sc hM.1, grown_trans hM.2 (same_grown s3 _)⟩
        have HF := Lib.hid hfin
        clear hM hrd hR hfin hS0 hS1 hS2 hRS he
        go_wp2_with (first
          | (go_at_call 86; (with_reducible refine hP.mono ?_); rintro e w3 ⟨rfl, hs3⟩)
          | (go_at_call 133; (with_reducible refine (hH _).mono ?_); rintro e w' ⟨rfl, rfl⟩))
        go_ret2
        exact HF.out _ hs3
      · have hx0 : k + i < sl.length := by omega
        obtain ⟨d, hx⟩ : ∃ d, sl[k + i]? = some d := ⟨_, List.getElem?_eq_getElem hx0⟩
        have hP := peek_sign hM.1 hx hl
        have hdr := drop_cons sl (k + i) d hx
        obtain ⟨D, hD⟩ : ∃ D, D = hexv d := ⟨_, rfl⟩
        have hh1 : D ≤ 15 := by rw [hD]; unfold hexv; omega
        have hHx : ∀ W, Calls Tryz.prog 133 #[.int .i32 d] W fun e w' => e = .returned (.int .i64 D) ∧ W = w' := fun W => by have := hex_any d W; rwa [← hD] at this
        by_cases hneg : D < 0
        · have hfin : ∀ w3, Same wr w3 → RdPost B w b v sl (rd m 0 (sl.drop k) k) (.returned (.tuple #[.int .i32 0, .bool false])) w3 := fun w3 s3 => by
            rw [hrd, hdr, rd_cons, if_pos (by omega)]; exact ⟨rfl, s3.sc hM.1, grown_trans hM.2 (same_grown s3 _)⟩
          have HF := Lib.hid hfin
          clear hM hrd hR hfin hS0 hS1 hS2 hRS he hdr hx hD
          go_wp2_with (first
            | (go_at_call 86; (with_reducible refine hP.mono ?_); rintro e w3 ⟨rfl, hs3⟩)
            | (go_at_call 133; (with_reducible refine (hHx _).mono ?_); rintro e w' ⟨rfl, rfl⟩))
          go_ret2
          exact HF.out _ hs3
        · have hD0 : 0 ≤ D := by omega
          have hstep : ∀ w3, Same wr w3 → NumA B w b v sl m k g (.int .i32 (w32 (S * 16 + D))) (.int .i64 ((i : Int) + 1)) (w3.setCell ⟨b, 1, none⟩ (.int .i64 ((k : Int) + (i : Int) + 1))) := fun w3 s3 => by
            refine ⟨i + 1, S * 16 + D, by omega, by omega, by omega, ?_, rfl, by rfl, ?_, ?_, grown_trans (grown_trans hM.2 (same_grown s3 _)) (grown_set w3 b 1 _)⟩
            · rw [Int.pow_succ]; omega
            · rw [hrd, hdr, rd_cons, if_neg (by omega), ← hD, Nat.add_assoc]
            · have := (s3.sc hM.1).place (k + (i + 1))
              rwa [show ((k + (i + 1) : Nat) : Int) = (k : Int) + (i : Int) + 1 by omega] at this
          have HST := Lib.hid hstep
          rw [hRS]
          by_cases hbig : S * 16 + D < 2147483648
          · have hor : bits .or .i32 (S * 16) D = S * 16 + D := bits_join .i32 31 (by decide) wraps_i32 4 (S * 16) D (by omega) (by omega) (by omega) (by omega) (by omega) (by omega)
            have hw : w32 (S * 16 + D) = S * 16 + D := by unfold w32; rw [if_pos hbig]
            rw [hw] at HST
            clear hM hrd hR hRS he hdr hx hD hstep hw hS1
            go_wp2_with (first
              | (go_at_call 86; (with_reducible refine hP.mono ?_); rintro e w3 ⟨rfl, hs3⟩; have h3 := hs3.sc HM.out.1; have c13 := h3.c1; have f13 := h3.f1)
              | (go_at_call 133; (with_reducible refine (hHx _).mono ?_); rintro e w' ⟨rfl, rfl⟩))
            have HF := Lib.hid (HST.out _ hs3)
            clear h3 c13 f13
            go_roundg g
            case measure => omega
            case rel => exact HF.out
          · have hor : bits .or .i32 (S * 16 - 4294967296) D = S * 16 - 4294967296 + D := bits_high (S * 16) D (by omega) (by omega) (by omega) (by omega) (by omega)
            have hw : w32 (S * 16 + D) = S * 16 - 4294967296 + D := by unfold w32; rw [if_neg hbig]; omega
            rw [hw] at HST
            have hshift : IntKind.i32.wrap (S * 16) = S * 16 - 4294967296 := by rw [IntKind.wrap_i32]; omega
            clear hM hrd hR hRS he hdr hx hD hstep hw hS1
            go_wp2_with (first
              | (go_at_call 86; (with_reducible refine hP.mono ?_); rintro e w3 ⟨rfl, hs3⟩; have h3 := hs3.sc HM.out.1; have c13 := h3.c1; have f13 := h3.f1)
              | (go_at_call 133; (with_reducible refine (hHx _).mono ?_); rintro e w' ⟨rfl, rfl⟩))
            have HF := Lib.hid (HST.out _ hs3)
            clear h3 c13 f13
            go_roundg g
            case measure => omega
            case rel => exact HF.out
end Go.Proofs.YtjalhcbomjgkoaaGreatDoor

/-
  READING WHAT STANDS BEHIND A BACKSLASH: all ways.
-/
namespace Go.Proofs.YtjalhcbomjgkoaaGreatDoor
open Go.RowKit
set_option linter.unusedVariables false

/-- What stands behind a backslash. -/
def ef (sl : List Int) (p : Nat) : Nat × Option Int :=
  match sl[p]? with
  | none => (p, none)
  | some c => if c = 117 then rd 4 0 (sl.drop (p + 1)) (p + 1) else if c = 85 then rd 8 0 (sl.drop (p + 1)) (p + 1) else if 0 ≤ unl c then (p + 1, some (unl c)) else (p, none)
set_option maxHeartbeats 4000000 in
set_option maxRecDepth 100000 in
theorem escape_none {B : Nat} {w : World} {b : Nat} {v : Value} {sl : List Int} {k : Nat} {c : Int} (h : Sc B w b v sl k)
    (hP : ∀ W, Same w W → Calls Tryz.prog 86 #[.pointer (some ⟨b, 0, none⟩)] W fun e w' => e = .returned (.int .i32 c) ∧ Same w w')
    (hu : unl c = -1) (h1 : c ≠ 117) (h2 : c ≠ 85) (t : TypeId) (fr : Nat × Nat) (htab : ∀ W, Same w W → W.heap[0]? = some (.cells escCells t fr)) :
    Calls Tryz.prog 134 #[.pointer (some ⟨b, 0, none⟩)] w fun e w' => e = .returned (.tuple #[.int .i32 0, .bool false]) ∧ Moves B w b v sl k w' := by
  have hE : ∀ W, Same w W → Calls Tryz.prog 140 #[.int .i32 c] W fun e w' => e = .returned (.tuple #[.int .i32 0, .bool false]) ∧ Sc B w' b v sl k ∧ w.grownBy w' (some b) := fun W s => (escaped_any c W t fr (htab W s)).mono fun _ _ ⟨x, y⟩ => ⟨by rw [x, ← escRes_no c hu], (s.sc h).below3 y, grown_trans (same_grown s _) (below_grown y _)⟩
  have e1 : (c == 117) = false := by simpa using h1
  have e2 : (c == 85) = false := by simpa using h2
  have hs0 : Same w w := Same.refl w
  clear h hu htab h1 h2
  go_enter Tryz.func134, Tryz.ntmps134
  go_wp2_with (first
    | (go_at_call 86; (with_reducible refine (hP _ (by assumption)).mono ?_); rintro e w3 ⟨rfl, hs3⟩)
    | (go_at_call 140; (with_reducible refine (hE _ (by assumption)).mono ?_); rintro e w4 ⟨rfl, hsc4, hg4⟩))
  go_ret2
  exact ⟨rfl, hsc4, hg4⟩

set_option maxHeartbeats 4000000 in
set_option maxRecDepth 100000 in
theorem escape_u4 {B : Nat} {w : World} {b : Nat} {v : Value} {sl : List Int} {k : Nat} (h : Sc B w b v sl k) (hl : sl.length ≤ 4294967296) (hx : sl[k]? = some 117) :
    Calls Tryz.prog 134 #[.pointer (some ⟨b, 0, none⟩)] w (RdPost B w b v sl (rd 4 0 (sl.drop (k + 1)) (k + 1))) := by
  have hki : k < sl.length := (List.getElem?_eq_some_iff.1 hx).1
  have hP := peek_sign h hx hl
  obtain ⟨r, hr⟩ : ∃ r, r = rd 4 0 (sl.drop (k + 1)) (k + 1) := ⟨_, rfl⟩
  have hN : ∀ W, Sc B W b v sl (k + 1) → Calls Tryz.prog 139 #[.pointer (some ⟨b, 0, none⟩), .int .i64 4] W (RdPost B W b v sl r) := fun W s => by
    rw [hr]; exact number_any s (by omega) hl 4 (by omega) (by omega)
  have HS := Lib.hid h
  rw [← hr]
  clear h hx hr
  go_enter Tryz.func134, Tryz.ntmps134
  go_wp2_with (first
    | (go_at_call 86; (with_reducible refine hP.mono ?_); rintro e w3 ⟨rfl, hs3⟩; have h3 := hs3.sc HS.out; have c13 := h3.c1; have f13 := h3.f1; have h4 : Sc B (w3.setCell ⟨b, 1, none⟩ (.int .i64 ((k : Int) + 1))) b v sl (k + 1) := h3.place (k + 1))
    | (go_at_call 139; (with_reducible refine (hN _ (by assumption)).mono ?_); rintro e w4 ⟨rfl, hM4⟩))
  go_ret2
  exact ⟨rfl, hM4.1, grown_trans (grown_trans (same_grown hs3 _) (grown_set w3 b 1 _)) hM4.2⟩
set_option maxHeartbeats 4000000 in
set_option maxRecDepth 100000 in
theorem escape_u8 {B : Nat} {w : World} {b : Nat} {v : Value} {sl : List Int} {k : Nat} (h : Sc B w b v sl k) (hl : sl.length ≤ 4294967296) (hx : sl[k]? = some 85) :
    Calls Tryz.prog 134 #[.pointer (some ⟨b, 0, none⟩)] w (RdPost B w b v sl (rd 8 0 (sl.drop (k + 1)) (k + 1))) := by
  have hki : k < sl.length := (List.getElem?_eq_some_iff.1 hx).1
  have hP := peek_sign h hx hl
  obtain ⟨r, hr⟩ : ∃ r, r = rd 8 0 (sl.drop (k + 1)) (k + 1) := ⟨_, rfl⟩
  have hN : ∀ W, Sc B W b v sl (k + 1) → Calls Tryz.prog 139 #[.pointer (some ⟨b, 0, none⟩), .int .i64 8] W (RdPost B W b v sl r) := fun W s => by
    rw [hr]; exact number_any s (by omega) hl 8 (by omega) (by omega)
  have HS := Lib.hid h
  rw [← hr]
  clear h hx hr
  go_enter Tryz.func134, Tryz.ntmps134
  go_wp2_with (first
    | (go_at_call 86; (with_reducible refine hP.mono ?_); rintro e w3 ⟨rfl, hs3⟩; have h3 := hs3.sc HS.out; have c13 := h3.c1; have f13 := h3.f1; have h4 : Sc B (w3.setCell ⟨b, 1, none⟩ (.int .i64 ((k : Int) + 1))) b v sl (k + 1) := h3.place (k + 1))
    | (go_at_call 139; (with_reducible refine (hN _ (by assumption)).mono ?_); rintro e w4 ⟨rfl, hM4⟩))
  go_ret2
  exact ⟨rfl, hM4.1, grown_trans (grown_trans (same_grown hs3 _) (grown_set w3 b 1 _)) hM4.2⟩
theorem unl_m (c : Int) (h : ¬ 0 ≤ unl c) : unl c = -1 := by revert h; unfold unl; omega
theorem escape_any {B : Nat} {w : World} {b : Nat} {v : Value} {sl : List Int} {k : Nat} (h : Sc B w b v sl k) (hk : k ≤ sl.length) (hl : sl.length ≤ 4294967296)
    (t : TypeId) (fr : Nat × Nat) (htab : ∀ W, Same w W → W.heap[0]? = some (.cells escCells t fr)) :
    Calls Tryz.prog 134 #[.pointer (some ⟨b, 0, none⟩)] w (RdPost B w b v sl (ef sl k)) := by
  unfold ef
  cases hx : sl[k]? with
  | none =>
    have hke : k = sl.length := by have := List.getElem?_eq_none_iff.1 hx; omega
    exact escape_none h (fun W s => (peek_end (s.sc h) hke hl).mono fun _ _ ⟨x, y⟩ => ⟨x, s.trans y⟩) (by decide) (by decide) (by decide) t fr htab
  | some c =>
    dsimp only
    by_cases h1 : c = 117
    · rw [if_pos h1]; exact escape_u4 h hl (h1 ▸ hx)
    rw [if_neg h1]
    by_cases h2 : c = 85
    · rw [if_pos h2]; exact escape_u8 h hl (h2 ▸ hx)
    rw [if_neg h2]
    by_cases h3 : 0 ≤ unl c
    · rw [if_pos h3]; exact escape_letter h hl hx rfl h3 t fr htab
    · rw [if_neg h3]
      exact escape_none h (fun W s => (peek_sign (s.sc h) hx hl).mono fun _ _ ⟨x, y⟩ => ⟨x, s.trans y⟩) (unl_m c h3) h1 h2 t fr htab
theorem rd_le : ∀ (m : Nat) (S : Int) (l : List Int) (p : Nat), p - 1 ≤ (rd m S l p).1 ∧ (rd m S l p).1 ≤ p + l.length
  | 0, S, l, p => by rw [rd_zero]; split <;> simp <;> omega
  | m + 1, S, [], p => by rw [rd_end]; simp
  | m + 1, S, d :: l, p => by
    rw [rd_cons]
    have := rd_le m (S * 16 + hexv d) l (p + 1)
    split <;> simp <;> omega
theorem rd_sgn : ∀ (m : Nat) (S : Int) (l : List Int) (p : Nat) (n : Int), (rd m S l p).2 = some n → sgn n = true ∧ p ≤ (rd m S l p).1
  | 0, S, l, p, n => by rw [rd_zero]; split <;> simp <;> rintro rfl <;> assumption
  | m + 1, S, [], p, n => by rw [rd_end]; simp
  | m + 1, S, d :: l, p, n => by
    rw [rd_cons]
    split
    · simp
    · intro h
      have := rd_sgn m (S * 16 + hexv d) l (p + 1) n h
      exact ⟨this.1, by omega⟩
end Go.Proofs.YtjalhcbomjgkoaaGreatDoor

/-
  'readQuoted' and 'Quoted': all ways.
-/
namespace Go.Proofs.YtjalhcbomjgkoaaGreatDoor
open Go.RowKit
set_option linter.unusedVariables false

/-- From place p on, acc being read; at most f signs are to come. -/
def qf (sl : List Int) : Nat → Nat → List Int → Nat × Option (List Int)
  | 0, p, _ => (p, none)
  | f + 1, p, acc => match sl[p]? with
    | none => (p, none)
    | some c => if c = 34 then (p + 1, some acc) else if c = 10 ∨ c = 13 then (p, none) else if c = 92 then
        (match (ef sl (p + 1)).2 with
          | none => ((ef sl (p + 1)).1, none)
          | some n => qf sl f (ef sl (p + 1)).1 (acc ++ [n]))
      else qf sl f (p + 1) (acc ++ [c])
theorem ef_le (sl : List Int) (p : Nat) (h : p ≤ sl.length) : (ef sl p).1 ≤ sl.length ∧ p ≤ (ef sl p).1 := by
  unfold ef
  cases hx : sl[p]? with
  | none => exact ⟨h, Nat.le_refl _⟩
  | some c =>
    have hp := (List.getElem?_eq_some_iff.1 hx).1
    dsimp only
    have h4 := rd_le 4 0 (sl.drop (p + 1)) (p + 1)
    have h8 := rd_le 8 0 (sl.drop (p + 1)) (p + 1)
    rw [List.length_drop] at h4 h8
    split
    · omega
    split
    · omega
    split <;> simp <;> omega
theorem unl_sgn (c : Int) (h : 0 ≤ unl c) : sgn (unl c) = true := by
  have : unl c = 9 ∨ unl c = 10 ∨ unl c = 13 ∨ unl c = 8 ∨ unl c = 12 ∨ unl c = 34 ∨ unl c = 92 ∨ unl c = 39 := by revert h; unfold unl; omega
  rw [sgn_iff]; omega
theorem ef_sgn (sl : List Int) (p : Nat) (n : Int) (h : (ef sl p).2 = some n) : sgn n = true := by
  unfold ef at h
  cases hx : sl[p]? with
  | none => rw [hx] at h; cases h
  | some c =>
    rw [hx] at h
    dsimp only at h
    split at h
    · exact (rd_sgn _ _ _ _ _ h).1
    split at h
    · exact (rd_sgn _ _ _ _ _ h).1
    split at h
    · rename_i hu
      simp at h
      rw [← h]; exact unl_sgn c hu
    · cases h
def QPost (B : Nat) (w : World) (b : Nat) (v : Value) (sl : List Int) (r : Nat × Option (List Int)) (e : Ending) (w' : World) : Prop :=
  e = .returned (.tuple #[.string (textOf (r.2.getD [])), .bool r.2.isSome]) ∧ Moves B w b v sl r.1 w'
/-- The loop's relation. -/
def QA (w : World) (B b : Nat) (v : Value) (sl : List Int) (N : Nat) (r : Nat × Option (List Int)) (g : Nat) (wr : World) : Prop :=
  ∃ p acc, r = qf sl g p acc ∧ p ≤ sl.length ∧ sl.length - p ≤ g ∧ acc.length + g ≤ 100000 ∧ RS w B b v sl N p acc wr
section
variable {w : World} {B b : Nat} {v : Value} {sl : List Int} {N k : Nat} {acc : List Int}
theorem rs_endy (hk : k = sl.length) (hl : sl.length ≤ 4294967296) : EverT (RS w B b v sl N k acc) 59 #[.pointer (some ⟨b, 0, none⟩)] (.returned (.bool true)) (RS w B b v sl N k acc) :=
  fun _ h => (end_yes h.1 hk hl).mono fun _ _ ⟨x, y⟩ => ⟨x, h.same y⟩
theorem rs_escape (hk : k ≤ sl.length) (hl : sl.length ≤ 4294967296) (t : TypeId) (fr : Nat × Nat) (htab : ∀ W, w.grownBy W (some b) → W.heap[0]? = some (.cells escCells t fr)) (q : Nat) (o : Option Int) (he1 : (ef sl k).1 = q) (he2 : (ef sl k).2 = o) :
    EverT (RS w B b v sl N k acc) 134 #[.pointer (some ⟨b, 0, none⟩)] (.returned (.tuple #[.int .i32 (o.getD 0), .bool o.isSome])) (RS w B b v sl N q acc) := by
  subst he1 he2
  exact fun _ h => (escape_any h.1 hk hl t fr (fun W s => htab W (grown_trans h.2.2.1 (same_grown s _)))).mono fun _ _ ⟨x, y⟩ => ⟨x, h.grown y⟩
end
theorem text_nil : textOf [] = ⟨#[]⟩ := rfl

set_option maxHeartbeats 8000000 in
set_option maxRecDepth 100000 in
theorem readq_any {B : Nat} {w : World} {b : Nat} {v : Value} {sl : List Int} {k : Nat} (h : Sc B w b v sl k) (hl : sl.length ≤ 100000) (hall : AllS sl) (hx0 : sl[k]? = some 34)
    (t : TypeId) (fr : Nat × Nat) (htab : w.heap[0]? = some (.cells escCells t fr)) :
    Calls Tryz.prog 130 #[.pointer (some ⟨b, 0, none⟩)] w (QPost B w b v sl (qf sl (sl.length - (k + 1)) (k + 1) [])) := by
  have hb0 : (0 : Nat) ≠ b := by
    intro e
    rw [e, h.blk] at htab
    simp only [Option.some.injEq, Obj.cells.injEq] at htab
    have := congrArg Array.size htab.1
    simp [escCells] at this
  have hT : ∀ W, w.grownBy W (some b) → W.heap[0]? = some (.cells escCells t fr) := fun W g => (g.block 0 (Array.getElem?_eq_some_iff.1 htab).1 (fun e => hb0 (by cases e; rfl))).trans htab
  have hkl : k < sl.length := (List.getElem?_eq_some_iff.1 hx0).1
  have hP := peek_sign h hx0 (by omega)
  have hbw : b < w.heap.size := (Array.getElem?_eq_some_iff.1 h.blk).1
  have hvw : ∀ g, v.ownBlock = some g → g < w.heap.size := fun g hg => (World.ownsRow.lt h.row g hg).2
  have HS := Lib.hid h
  have HA := Lib.hid hall
  obtain ⟨r, hr⟩ : ∃ r, r = qf sl (sl.length - (k + 1)) (k + 1) [] := ⟨_, rfl⟩
  have HR := Lib.hid hr
  rw [← hr]
  clear h hall htab hx0 hr
  go_enter Tryz.func130, Tryz.ntmps130
  go_wp2_with (go_at_call 86; (with_reducible refine hP.mono ?_); rintro e w3 ⟨rfl, hs3⟩; have h3 := hs3.sc HS.out; have c13 := h3.c1; have f13 := h3.f1)
  obtain ⟨N, hN⟩ : ∃ N, N = w3.heap.size := ⟨_, rfl⟩
  have hNw : N = w.heap.size := by rw [hN, hs3.heap]
  have hstart : RS w B b v sl N (k + 1) [] ((w3.setCell ⟨b, 1, none⟩ (.int .i64 ((k : Int) + 1))).alloc (.cells #[.pointer none, .slice none 0 0] 105)) := by
    have hp1 : Sc B (w3.setCell ⟨b, 1, none⟩ (.int .i64 ((k : Int) + 1))) b v sl (k + 1) := h3.place (k + 1)
    have hfr := Lib.fresh_isBuilder 105 5 (w3.setCell ⟨b, 1, none⟩ (.int .i64 ((k : Int) + 1)))
    rw [World.size_setCell, ← hN] at hfr
    refine ⟨hp1.below3 ((Below.refl _ _).alloc (Nat.le_refl _) _), Lib.IsBuilderF.of hfr, ?_, hNw, by rw [hNw]; exact hbw, by rw [hNw]; exact hvw⟩
    exact grown_trans (grown_trans (same_grown hs3 _) (grown_set w3 b 1 _)) (below_grown ((Below.refl _ _).alloc (Nat.le_refl _) _) _)
  have HST := Lib.hid hstart
  clear hstart h3 c13 f13
  rw [← hN]
  have HNN := Lib.hid hN
  have HNW := Lib.hid hNw
  clear hN hNw
  go_loopg [] (sl.length - (k + 1)) (fun g wr => QA w B b v sl N r g wr)
  case atStart => exact ⟨k + 1, [], HR.out, by omega, by omega, by simp; omega, HST.out⟩
  case round =>
    clear HR HST hP
    obtain ⟨p, acc, hq, hpl, hpg, hag, hR⟩ := hrel
    have hacc : acc.length ≤ 1000000 := by omega
    by_cases hpe : p = sl.length
    · have hrr : r = (p, none) := by
        rw [hq]
        cases gk with
        | zero => rfl
        | succ g => unfold qf; rw [hpe, List.getElem?_eq_none (Nat.le_refl _)]
      have cE := rs_endy (w := w) (B := B) (b := b) (v := v) (N := N) (acc := acc) hpe (by omega)
      have HRR := Lib.hid hrr
      clear hq hrr hpe
      go_wp2_with (go_at_call 59; (with_reducible refine (cE.at (by assumption)).mono ?_); rintro e x1 ⟨rfl, hR1⟩)
      go_ret2
      rw [HRR.out]
      exact ⟨by rw [show ((p, (none : Option (List Int))).2.getD []) = [] from rfl, text_nil]; rfl, hR1.1, hR1.2.2.1⟩
    · have hpl2 : p < sl.length := by omega
      obtain ⟨g, rfl⟩ : ∃ g, gk = g + 1 := ⟨gk - 1, by omega⟩
      obtain ⟨c, hx⟩ : ∃ c, sl[p]? = some c := ⟨_, List.getElem?_eq_getElem hpl2⟩
      have hcs : sgn c = true := HA.out c (List.mem_of_getElem? hx)
      have cE := rs_end (w := w) (B := B) (b := b) (v := v) (N := N) (acc := acc) hpl2 (by omega)
      have cN := rs_next (w := w) (B := B) (b := b) (v := v) (N := N) (acc := acc) hx (by omega)
      unfold qf at hq
      rw [hx] at hq
      dsimp only at hq
      clear hx hpe
      by_cases h34 : c = 34
      · rw [if_pos h34] at hq
        subst h34
        have cS := rs_string (w := w) (B := B) (b := b) (v := v) (sl := sl) (N := N) (k := p + 1) (acc := acc)
        have HQ := Lib.hid hq
        clear hq hcs hT
        go_wp2_with (first
          | (go_at_call 59; (with_reducible refine (cE.at (by assumption)).mono ?_); rintro e x1 ⟨rfl, hR1⟩)
          | (go_at_call 87; (with_reducible refine (cN.at (by assumption)).mono ?_); rintro e x2 ⟨rfl, hR2⟩)
          | (go_at_call 57; (with_reducible refine (cS.at (by assumption)).mono ?_); rintro e x3 ⟨rfl, hR3⟩))
        go_ret2
        rw [HQ.out]
        exact ⟨rfl, hR3.1, hR3.2.2.1⟩
      rw [if_neg h34] at hq
      have g34 : (c == 34) = false := by simpa using h34
      by_cases hnl : c = 10 ∨ c = 13
      · rw [if_pos hnl] at hq
        have HQ := Lib.hid hq
        clear hq hcs hT h34
        rcases hnl with rfl | rfl
        all_goals
          clear g34
          go_wp2_with (first
            | (go_at_call 59; (with_reducible refine (cE.at (by assumption)).mono ?_); rintro e x1 ⟨rfl, hR1⟩)
            | (go_at_call 87; (with_reducible refine (cN.at (by assumption)).mono ?_); rintro e x2 ⟨rfl, hR2⟩; have c12 := hR2.1.c1; have f12 := hR2.1.f1))
          go_ret2
          rw [HQ.out]
          refine ⟨by rw [show ((p, (none : Option (List Int))).2.getD []) = [] from rfl, text_nil]; rfl, by exact hR2.1.place p, grown_trans hR2.2.2.1 (grown_set x2 b 1 _)⟩
      rw [if_neg hnl] at hq
      have g10 : (c == 10) = false := by have : c ≠ 10 := fun e => hnl (.inl e)
                                         simpa using this
      have g13 : (c == 13) = false := by have : c ≠ 13 := fun e => hnl (.inr e)
                                         simpa using this
      by_cases h92 : c = 92
      · rw [if_pos h92] at hq
        subst h92
        obtain ⟨hle1, hle2⟩ := ef_le sl (p + 1) (by omega)
        obtain ⟨q, hq1⟩ : ∃ q, (ef sl (p + 1)).1 = q := ⟨_, rfl⟩
        rw [hq1] at hq hle1 hle2
        clear g34 g10 g13 h34 hnl hcs
        cases ho : (ef sl (p + 1)).2 with
        | none =>
          rw [ho] at hq
          dsimp only at hq
          have cL := rs_escape (w := w) (B := B) (b := b) (v := v) (N := N) (acc := acc) (k := p + 1) (by omega) (by omega) t fr hT q none hq1 ho
          have HQ := Lib.hid hq
          clear hq hT ho hq1
          go_wp2_with (first
            | (go_at_call 59; (with_reducible refine (cE.at (by assumption)).mono ?_); rintro e x1 ⟨rfl, hR1⟩)
            | (go_at_call 87; (with_reducible refine (cN.at (by assumption)).mono ?_); rintro e x2 ⟨rfl, hR2⟩)
            | (go_at_call 134; (with_reducible refine (cL.at (by assumption)).mono ?_); rintro e x3 ⟨rfl, hR3⟩))
          go_ret2
          rw [HQ.out]
          exact ⟨by rw [show ((q, (none : Option (List Int))).2.getD []) = [] from rfl, text_nil]; rfl, hR3.1, hR3.2.2.1⟩
        | some n =>
          rw [ho] at hq
          dsimp only at hq
          have hn := ef_sgn sl (p + 1) n ho
          have cL := rs_escape (w := w) (B := B) (b := b) (v := v) (N := N) (acc := acc) (k := p + 1) (by omega) (by omega) t fr hT q (some n) hq1 ho
          have cW := rs_write (w := w) (B := B) (b := b) (v := v) (sl := sl) (N := N) (k := q) (acc := acc) n hn hacc
          have hfin : ∀ W, RS w B b v sl N q (acc ++ [n]) W → QA w B b v sl N r g W := fun W x => ⟨q, acc ++ [n], hq, hle1, by omega, by simp; omega, x⟩
          have HF := Lib.hid hfin
          clear hq hT ho hq1 hfin hn
          go_wp2_with (first
            | (go_at_call 59; (with_reducible refine (cE.at (by assumption)).mono ?_); rintro e x1 ⟨rfl, hR1⟩)
            | (go_at_call 87; (with_reducible refine (cN.at (by assumption)).mono ?_); rintro e x2 ⟨rfl, hR2⟩)
            | (go_at_call 134; (with_reducible refine (cL.at (by assumption)).mono ?_); rintro e x3 ⟨rfl, hR3⟩)
            | (go_at_call 98; (with_reducible refine (cW.at (by assumption)).mono ?_); rintro e x4 ⟨rfl, hR4⟩))
          go_roundg g
          case measure => omega
          case rel => exact HF.out _ hR4
      · rw [if_neg h92] at hq
        have g92 : (c == 92) = false := by simpa using h92
        have cW := rs_write (w := w) (B := B) (b := b) (v := v) (sl := sl) (N := N) (k := p + 1) (acc := acc) c hcs hacc
        have hfin : ∀ W, RS w B b v sl N (p + 1) (acc ++ [c]) W → QA w B b v sl N r g W := fun W x => ⟨p + 1, acc ++ [c], hq, by omega, by omega, by simp; omega, x⟩
        have HF := Lib.hid hfin
        clear hq hT hfin hcs h34 hnl h92
        go_wp2_with (first
          | (go_at_call 59; (with_reducible refine (cE.at (by assumption)).mono ?_); rintro e x1 ⟨rfl, hR1⟩)
          | (go_at_call 87; (with_reducible refine (cN.at (by assumption)).mono ?_); rintro e x2 ⟨rfl, hR2⟩)
          | (go_at_call 98; (with_reducible refine (cW.at (by assumption)).mono ?_); rintro e x3 ⟨rfl, hR3⟩))
        go_roundg g
        case measure => omega
        case rel => exact HF.out _ hR3
end Go.Proofs.YtjalhcbomjgkoaaGreatDoor

/-
  'Quoted': all ways.
-/
namespace Go.Proofs.YtjalhcbomjgkoaaGreatDoor
open Go.RowKit
set_option linter.unusedVariables false

/-- What stands quoted at place k. -/
def qd (sl : List Int) (k : Nat) : Nat × Option (List Int) := if sl[k]? = some 34 then qf sl (sl.length - (k + 1)) (k + 1) [] else (k, none)
set_option maxHeartbeats 4000000 in
theorem readq_none {B : Nat} {w : World} {b : Nat} {v : Value} {sl : List Int} {k : Nat} {c : Int} (h : Sc B w b v sl k)
    (hP : Calls Tryz.prog 86 #[.pointer (some ⟨b, 0, none⟩)] w fun e w' => e = .returned (.int .i32 c) ∧ Same w w') (hc : c ≠ 34) :
    Calls Tryz.prog 130 #[.pointer (some ⟨b, 0, none⟩)] w (QPost B w b v sl (k, none)) := by
  have hB : (c == 34) = false := by simpa using hc
  have HS := Lib.hid h
  clear h hc
  go_enter Tryz.func130, Tryz.ntmps130
  go_wp2_with (go_at_call 86; (with_reducible refine hP.mono ?_); rintro e w3 ⟨rfl, hs3⟩)
  go_ret2
  exact ⟨by rw [show ((k, (none : Option (List Int))).2.getD []) = [] from rfl, text_nil]; rfl, hs3.sc HS.out, same_grown hs3 _⟩
theorem readq_all {B : Nat} {w : World} {b : Nat} {v : Value} {sl : List Int} {k : Nat} (h : Sc B w b v sl k) (hk : k ≤ sl.length) (hl : sl.length ≤ 100000) (hall : AllS sl)
    (t : TypeId) (fr : Nat × Nat) (htab : w.heap[0]? = some (.cells escCells t fr)) :
    Calls Tryz.prog 130 #[.pointer (some ⟨b, 0, none⟩)] w (QPost B w b v sl (qd sl k)) := by
  unfold qd
  by_cases hx : sl[k]? = some 34
  · rw [if_pos hx]; exact readq_any h hl hall hx t fr htab
  · rw [if_neg hx]
    cases hy : sl[k]? with
    | none =>
      have hke : k = sl.length := by have := List.getElem?_eq_none_iff.1 hy; omega
      exact readq_none h (peek_end h hke (by omega)) (by decide)
    | some c => exact readq_none h (peek_sign h hy (by omega)) (fun e => hx (by rw [hy, e]))
def QdPost (B : Nat) (w : World) (b : Nat) (v : Value) (sl : List Int) (k : Nat) (r : Nat × Option (List Int)) (e : Ending) (w' : World) : Prop :=
  match r.2 with
  | some l => e = .returned (.tuple #[.string (textOf l), .int .i64 r.1, .int .i64 0]) ∧ Moves B w b v sl r.1 w'
  | none => e = .returned (.tuple #[.string ⟨#[]⟩, .int .i64 r.1, .int .i64 1]) ∧ Moves B w b v sl k w'
set_option maxHeartbeats 4000000 in
set_option maxRecDepth 100000 in
theorem quoted_any {B : Nat} {w : World} {b : Nat} {v : Value} {sl : List Int} {k : Nat} (h : Sc B w b v sl k) (hk : k ≤ sl.length) (hl : sl.length ≤ 100000) (hall : AllS sl)
    (t : TypeId) (fr : Nat × Nat) (htab : w.heap[0]? = some (.cells escCells t fr)) :
    Calls Tryz.prog 125 #[.pointer (some ⟨b, 0, none⟩)] w (QdPost B w b v sl k (qd sl k)) := by
  have hR := readq_all h hk hl hall t fr htab
  have c1 := h.c1
  obtain ⟨p, o, hr⟩ : ∃ p o, qd sl k = (p, o) := ⟨_, _, rfl⟩
  rw [hr] at hR ⊢
  clear h hall htab hr
  cases o with
  | some l =>
    go_enter Tryz.func125, Tryz.ntmps125
    go_wp2_with (go_at_call 130; (with_reducible refine hR.mono ?_); rintro e w2 ⟨rfl, hM⟩; have c12 := hM.1.c1)
    have HM := Lib.hid hM
    clear hM hR c1
    go_quiet (fail)
    go_wp2
    go_ret3
    refine ⟨rfl, Same.sc HM.out.1 ⟨rfl, rfl, rfl, rfl⟩, grown_trans HM.out.2 ?_⟩
    exact same_grown (same_drewN _ _) _
  | none =>
    go_enter Tryz.func125, Tryz.ntmps125
    go_wp2_with (go_at_call 130; (with_reducible refine hR.mono ?_); rintro e w2 ⟨rfl, hM⟩; have c12 := hM.1.c1; have f12 := hM.1.f1)
    have HM := Lib.hid hM
    clear hM hR c1
    go_ret3
    exact ⟨rfl, by exact HM.out.1.place k, grown_trans HM.out.2 (grown_set w2 b 1 _)⟩
end Go.Proofs.YtjalhcbomjgkoaaGreatDoor
