/-
  MERGED (a claim has at most 60 files): NgLK, NgArg.
-/
import Derived.Test.YtghlajfalgdkfaaZ23
import Derived.Test.YtghlajfalgdkfaaZ25
import Derived.Test.YtghlajfalgdkfaaZ29
import Derived.Test.YtghlajfalgdkfaaZ30
import Derived.Deep.AppendLies
import Derived.Test.YtghlajfalgdkfaaZ19
import Derived.Test.YtghlajfalgdkfaaRows
import Derived.WalkKit
import Derived.ProofKit
import Derived.OpenShut
import Derived.ChangeSlices
import Derived.Lib.SmallJoins
import Derived.Deep.Slices
import Derived.Deep.Strs
/-
  NfaTakes: its walk.
-/
namespace Go.Proofs.Ytghlajfalgdkfaa
open Go.RowKit
set_option linter.unusedVariables false
set_option linter.unusedSimpArgs false
set_option maxRecDepth 100000

theorem step_app_s {ops : Array Oper} {o : Oper} {a : Act} {K : Act → World → Prop} {Q : Exit → Act → World → Prop} {E : Prop} {w w0 : World} (hgd : o.guard = none) (s x : Operand)
    (ho : o.op = .call { callee := .builtin .append, args := #[s, x], argTypes := #[38, 38] }) {B n g0 : Nat} {v : Value} {L : List Sy} {q : Sy} (hn : L.length = n) (hs : a.eval s = v) (hx : a.eval x = .slice (some ⟨g0, 0, none⟩) 1 1) (hL : SyR 44 B w0 v L) (hb : Below w0.heap.size w0 w) (hd : w.cell? ⟨g0, 0, none⟩ = some (.int .i64 q.1) ∧ w.cell? ⟨g0, 1, none⟩ = some (.bool q.2)) (hB : B ≤ w0.heap.size) (h1 : L.length ≤ 1000)
    (h : ∀ gA cap w', SyR 44 B w' (.slice (some ⟨gA, 0, none⟩) (n + 1) cap) (L ++ [q]) → Below B w0 w' → K (a.put o.dst (.slice (some ⟨gA, 0, none⟩) (n + 1) cap)) w') : if Region.wanted o (yielded ops a.tmps) = true then Oper.wp Try.prog o a w K Q else E := by
  obtain ⟨iT, hT0, hT1, hT2, hT3⟩ := info_parts syZ
  dsimp only at hT1 hT2 hT3
  have hLw : SyR 44 B w v L := row_below hL hb
  refine step_append_lies w hgd s x 38 ho B 44 iT (.agg #[.int .i64 0, .bool false]) 2 16 Try.underlying38 hT0 hT1 hT2 hT3 rfl (by decide) v L.length _ hs hLw ⟨g0, 0, none⟩ 1 1 [.int .i64 q.1, .bool q.2] hx rfl (fun j u hj => ?_) (fun u hu => by
    simp at hu
    rcases hu with rfl | rfl <;> rfl) (by decide) (by unfold maxLen; omega) (by omega) (Nat.le_trans hB hb.size) _ rfl ?_
  · rw [at_add, Nat.zero_add]
    match j, hj with
    | 0, hj => simp at hj; subst hj; exact hd.1
    | 1, hj => simp at hj; subst hj; exact hd.2
    | j + 2, hj => simp at hj
  · intro g cap w' h3 h4 h5 h6
    rw [hn]
    refine h _ _ _ ?_ ((hb.mono hB).grown h4 (Nat.le_trans hB hb.size) (fun q hq => (row_lt hLw q hq).1))
    unfold SyR
    rw [List.length_append, List.flatMap_append]
    rw [hn] at h3 ⊢
    exact h3
def LkR (w0 : World) (ws : List Sy) (gk : Nat) (s12 s13 : Value) (wr : World) : Prop := ∃ (i1 : Nat) (A : Option Addr) (m c : Nat), i1 = gk ∧ i1 ≤ ws.length ∧ (i1 = 0 ∧ s13 = .int .i64 (-1) ∨ ∃ i : Nat, i1 = i + 1 ∧ s13 = .int .i64 (i : Int)) ∧ s12 = .slice A m c ∧ m = (flipW (ws.drop i1)).length ∧ SyR 44 w0.heap.size wr (.slice A m c) (flipW (ws.drop i1)) ∧ Below w0.heap.size w0 wr
theorem flipW_len (w : List Sy) : (flipW w).length = w.length := by unfold flipW; simp
theorem turn_chk {t : PT} (hc : chk t = 0) : chk (turn t) = 0 := by
  have h2 := chk_zero hc
  have h3 : ¬ 40 ≤ hgt t := fun h => by unfold chk at hc; rw [if_pos h] at hc; cases hc
  have := turn_hgt t
  unfold chk
  rw [if_neg (by omega), turn_sz, if_neg (by omega), if_pos (turn_frm t h2.2)]
theorem flipW_drop {ws : List Sy} {i : Nat} {s : Sy} (hs : ws[i]? = some s) : flipW (ws.drop i) = flipW (ws.drop (i + 1)) ++ [(s.1, !s.2)] := by
  obtain ⟨hlt, rfl⟩ := List.getElem?_eq_some_iff.1 hs
  rw [List.drop_eq_getElem_cons hlt]
  unfold flipW
  rw [List.map_cons, List.reverse_cons]
  rfl
set_option pp.deepTerms true in
set_option pp.maxSteps 1000000 in
set_option maxHeartbeats 64000000 in
theorem takes_walk (A : Option Addr) (len cap : Nat) (hl : len ≤ cap) (hm : cap ≤ maxLen) (A1 : Option Addr) (l : List Int) (cap1 : Nat) (hl1 : l.length ≤ cap1) (hm1 : cap1 ≤ maxLen) (ok1 : ∀ x ∈ l, 0 ≤ x ∧ x < 256) (W : World) (hn : NdI W A len) (hBy : Byt W A1 l) : Calls Try.prog 3 #[.slice A len cap, .slice A1 l.length cap1] W (LtQ W) := by
  have HF0 := Lib.hid (fun (w : World) (hb : Below W.heap.size W w) => fix_q (c := cap) (hn.below hb) (Nat.le_trans hl hm))
  have HWd := Lib.hid (fun (w : World) (hb : Below W.heap.size W w) => word_q (hBy.below hb) ok1 hl1 hm1)
  obtain ⟨nl, hnl⟩ : ∃ nl, nl = l.length := ⟨_, rfl⟩
  rw [← hnl] at HWd ⊢
  have HB := Lib.hid (Below.refl W.heap.size W)
  clear hl hm hn hBy ok1 hl1 hm1 hnl
  go_enter Try.func3, Try.ntmps3
  go_upto_region 4 with (first
    | (go_at_call 10; (with_reducible refine (fawake_any _).mono ?_); rintro e w1 ⟨rfl, hb1⟩; have HB := Lib.hid (HB.out.trans (hb1.mono HB.out.size)); clear hb1)
    | (go_at_call 12; (with_reducible refine (HF0.out _ HB.out).mono ?_); rintro e w2 ⟨A2, m2, c2, ns, rfl, hm2, hm8, hq, hF, hb2⟩; have cT := tree_c (c := c2) hm2 hq (by omega); have HB := Lib.hid (HB.out.trans (hb2.mono HB.out.size)); clear hm2 hm8 hq hF hb2)
    | (go_at_call 11; (with_reducible refine cT.mono ?_); rintro e w5 ⟨g, L, kd, nn, As, ls, cs, t, rfl, hL, hR, ht, hp, hb5⟩; have HT5 := Lib.hid (show Wd t ∧ sz t ≤ 300 from ⟨trees_wd _ t (List.mem_of_getElem? ht), trees_sz _ t (List.mem_of_getElem? ht)⟩); have HP := Lib.hid hp; have HR := Lib.hid (And.intro hL (And.intro hR ht)); have HB := Lib.hid (HB.out.trans (hb5.mono HB.out.size)); clear hL hR ht hp hb5 cT))
  obtain ⟨w6, hw6⟩ : ∃ w6, w6 = w5.alloc (.cells #[.int .i64 kd, .int .i64 nn, .slice As ls cs] 28) := ⟨_, rfl⟩
  rw [← hw6]
  have hb6 : Below w5.heap.size w5 w6 := by rw [hw6]; exact (Below.refl _ _).alloc (Nat.le_refl _) _
  have hF6 : Fb w6 w5.heap.size 28 #[.int .i64 kd, .int .i64 nn, .slice As ls cs] := by rw [hw6]; exact Fb.new _ _ _
  have HB6 := Lib.hid (HB.out.trans (hb6.mono HB.out.size))
  obtain ⟨gp, hgp⟩ : ∃ gp, gp = w5.heap.size := ⟨_, rfl⟩
  rw [← hgp] at hF6 ⊢
  have HF := Lib.hid (fun (w : World) (hb : Below w6.heap.size w6 w) => (⟨(hF6.below hb).cell 0, (hF6.below hb).cell 1, (hF6.below hb).cell 2⟩ : w.cell? ⟨gp, 0, none⟩ = some (.int .i64 kd) ∧ w.cell? ⟨gp, 1, none⟩ = some (.int .i64 nn) ∧ w.cell? ⟨gp, 2, none⟩ = some (.slice As ls cs)))
  obtain ⟨q0, q1, q2⟩ := HF.out w6 (Below.refl _ _)
  have HP6 := Lib.hid (fun (w : World) (hb : Below w6.heap.size w6 w) => (HP.out.below hb6).below hb)
  have HRf := Lib.hid (fun (w : World) (hb : Below w6.heap.size w6 w) => And.intro ((HR.out.2.1.1.below hb6).below hb) ((HR.out.2.1.2.below hb6).below hb))
  have HRC := Lib.hid (fun (w : World) (hb : Below w6.heap.size w6 w) => (show Calls Try.prog 14 #[.slice (some ⟨g, 0, none⟩) L L, .int .i64 0] w fun e w' => e = .returned (.int .i64 (chk t)) ∧ Below w.heap.size w w' from rcheck_gen (c := L) (HRf.out w hb).1 HR.out.1 (by have := HT5.out.2; omega) HT5.out.1 (at_ := 0) HR.out.2.2))
  clear hw6 hb6 hF6 hgp HF0
  by_cases hz : chk t = 0
  · have cC := compile_ok HT5.out.1 hz (HP6.out w6 (Below.refl _ _))
    rw [hz] at HRC
    go_upto_region 10 with (first
      | (go_at_call 13; (with_reducible refine cC.mono ?_); rintro e w7 ⟨d, rfl, hM, hb7⟩; have HM := Lib.hid (fun (w : World) (hb : Below w7.heap.size w7 w) => hM.below hb); have HB7 := Lib.hid hb7; clear hb7 hM cC)
      | (go_at_call 14; (with_reducible refine (HRC.out _ HB7.out).mono ?_); rintro e w8 ⟨rfl, hb8⟩; have HB8 := Lib.hid (HB7.out.trans (hb8.mono HB7.out.size)); have HU8 := Lib.hid hb8; clear hb8)
      | (go_at_call 15; (with_reducible refine (HWd.out _ (HB6.out.trans (HB8.out.mono HB6.out.size))).mono ?_); rintro e w9 ⟨Aa, Ab, na, ca, nb, cb, ws, rfl, hws, hSa, hSb, hna, hnb, hw5, hb9⟩; have HW9 := Lib.hid (And.intro hSa.wdg (And.intro hSb.wd (And.intro hw5 hnb))); have HB9 := Lib.hid (HB8.out.trans (hb9.mono HB8.out.size)); have HU9 := Lib.hid (HU8.out.trans (hb9.mono HU8.out.size)); clear hws hSa hSb hna hnb hw5 hb9))
    clear q0 q1 q2 HWd
    obtain ⟨bY, hbY⟩ := bool_ofR (lang t ws)
    have HY := Lib.hid hbY
    have hfr := (chk_zero hz).2
    have HTR := Lib.hid (fun (w : World) (hb : Below w6.heap.size w6 w) (A' : Option Addr) (n' c' : Nat) (v : List Sy) (b : Bool) (h1 : WdG w A' n' c' v) (h2 : v.length ≤ 5) (h3 : b = true ↔ lang t v) => (show Calls Try.prog 16 #[.slice (some ⟨g, 0, none⟩) L L, .int .i64 0, .slice A' n' c'] w (BqR w b) from rtakes_gen (c := L) HR.out.1 t hfr HT5.out.1 5 (by decide) w 0 A' n' c' v b (HRf.out w hb).1 (HRf.out w hb).2 HR.out.2.2 h1 h2 h3))
    have CR := Lib.hid (fun (w : World) (hb : Below w9.heap.size w9 w) => HTR.out w (HB9.out.trans (hb.mono HB9.out.size)) Aa na ca ws bY (HW9.out.1.below hb) (HW9.out.2.2.1) HY.out)
    have CN := Lib.hid (fun (w : World) (hb : Below w9.heap.size w9 w) => HTR.out w (HB9.out.trans (hb.mono HB9.out.size)) none 0 0 [] (emB t) (wdg_nil w) (by simp) (emB_lang t hfr))
    have CT := Lib.hid (fun (w : World) (hb : Below w9.heap.size w9 w) => takes_lit (HM.out w (HU9.out.trans (hb.mono HU9.out.size))) (HW9.out.2.1.below hb) (by have := HW9.out.2.2.1; omega) bY HY.out)
    have CE := Lib.hid (fun (w : World) (hb : Below w9.heap.size w9 w) => Empty_gen HT5.out.1 hz (HP6.out w (HB9.out.trans (hb.mono HB9.out.size))))
    have CTd := Lib.hid (fun (w : World) (hb : Below w9.heap.size w9 w) => Turned_gen HT5.out.1 hz (HP6.out w (HB9.out.trans (hb.mono HB9.out.size))))
    have HCells := Lib.hid (fun (w : World) (hb : Below w9.heap.size w9 w) => HF.out w (HB9.out.trans (hb.mono HB9.out.size)))
    have HTurn := Lib.hid (show chk (turn t) = 0 ∧ Wd (turn t) ∧ ∀ w, lang (turn t) (flipW w) ↔ lang t w from ⟨turn_chk hz, turn_wd t HT5.out.1, turn_lang t hfr⟩)
    obtain ⟨bE, hbE⟩ : ∃ bE, bE = emB t := ⟨_, rfl⟩
    rw [← hbE] at CN CE
    have HBx := Lib.hid (Below.refl w9.heap.size w9)
    obtain ⟨y0, y1, y2⟩ := HCells.out w9 (Below.refl _ _)
    clear hbY hfr hbE hz
    go_upto_region 13 with (first
      | (go_at_call 16; (with_reducible refine (CR.out _ HBx.out).mono ?_); rintro e w10 ⟨rfl, hbn⟩; have HBx := Lib.hid (HBx.out.trans (hbn.mono HBx.out.size)); obtain ⟨y0, y1, y2⟩ := HCells.out _ HBx.out; clear hbn)
      | (go_at_call 17; (with_reducible refine (CT.out _ HBx.out).mono ?_); rintro e w11 ⟨rfl, hbn⟩; have HBx := Lib.hid (HBx.out.trans (hbn.mono HBx.out.size)); obtain ⟨y0, y1, y2⟩ := HCells.out _ HBx.out; clear hbn)
      | (go_at_call 18; (with_reducible refine (CE.out _ HBx.out).mono ?_); rintro e w12 ⟨rfl, hbn⟩; have HBx := Lib.hid (HBx.out.trans (hbn.mono HBx.out.size)); obtain ⟨y0, y1, y2⟩ := HCells.out _ HBx.out; clear hbn)
      | (go_at_call 16; (with_reducible refine (CN.out _ HBx.out).mono ?_); rintro e w13 ⟨rfl, hbn⟩; have HBx := Lib.hid (HBx.out.trans (hbn.mono HBx.out.size)); obtain ⟨y0, y1, y2⟩ := HCells.out _ HBx.out; clear hbn))
    clear y0 y1 y2
    have hnb := HW9.out.2.2.2
    have n0 : (0 : Int) ≤ (nb : Int) := by omega
    have n1 : (nb : Int) ≤ 5 := by have := HW9.out.2.2.1; omega
    have H0 := Lib.hid (show LkR w13 ws ws.length (.slice none 0 0) (.int .i64 ((nb : Int) - 1)) w13 from ⟨ws.length, none, 0, 0, rfl, Nat.le_refl _, (by
      by_cases h : ws.length = 0
      · exact .inl ⟨h, by congr 1; omega⟩
      · exact .inr ⟨ws.length - 1, by omega, by congr 1; omega⟩), rfl, by rw [List.drop_length]; rfl, by rw [List.drop_length]; exact World.ownsRow_nil _ _ _ _, Below.refl _ _⟩)
    clear hnb
    go_wp2
    go_loopg [12, 13] ws.length (fun gk s12 s13 wr => LkR w13 ws gk s12 s13 wr)
    case atStart => exact H0.out
    case round =>
      clear H0
      obtain ⟨i1, Av, mv, cv, hi1, hle, hs, rfl, hmv, hrow, hb⟩ := hrel
      have HBy := Lib.hid (HBx.out.trans (hb.mono HBx.out.size))
      rcases hs with ⟨h0, rfl⟩ | ⟨i, hi, rfl⟩
      · subst h0
        have HRow := Lib.hid (show SyR 44 w13.heap.size wr (.slice Av mv cv) (flipW ws) from hrow)
        obtain ⟨y0, y1, y2⟩ := HCells.out wr HBy.out
        have cT2 := CTd.out wr HBy.out
        have HLw : Hid ((flipW ws).length ≤ 1000) := Lib.hid (by rw [flipW_len]; have := HW9.out.2.2.1; omega)
        clear hi1 hle hmv hrow hb
        go_wp2_with (first
          | (go_at_call 19; (with_reducible refine cT2.mono ?_); rintro e w14 ⟨k5, A5, m5, c5, rfl, hpt, hb14⟩; have HB14 := Lib.hid hb14; have cC2 := compile_ok HTurn.out.2.1 HTurn.out.1 hpt; clear hpt hb14)
          | (go_at_call 13; (with_reducible refine cC2.mono ?_); rintro e w15 ⟨d2, rfl, hM2, hb15⟩; have HB15 := Lib.hid (HB14.out.trans (hb15.mono HB14.out.size)); have cTk := takes_lit hM2 (SyR.wd (row_below HRow.out HB15.out)) HLw.out bY (HY.out.trans (HTurn.out.2.2 ws).symm); clear hM2 hb15)
          | (go_at_call 17; (with_reducible refine cTk.mono ?_); rintro e w16 ⟨rfl, hb16⟩; have HB16 := Lib.hid (HB15.out.trans (hb16.mono HB15.out.size)); clear hb16))
        go_ret
        exact ⟨rfl, HB6.out.trans ((HB9.out.trans ((HBy.out.trans (HB16.out.mono HBy.out.size)).mono HB9.out.size)).mono HB6.out.size)⟩
      · subst hi
        obtain ⟨s, hs⟩ : ∃ s, ws[i]? = some s := ⟨_, List.getElem?_eq_getElem (by omega)⟩
        obtain ⟨A', c', es, hat⟩ := HW9.out.2.1.below HBy.out
        obtain ⟨gw, ow, hgA, z0, z1⟩ := hat i s hs
        have hAw : Ab = some ⟨gw, ow, none⟩ := (Value.slice.inj es).1.trans hgA
        subst hAw
        have i0 : (0 : Int) ≤ (i : Int) := by omega
        have i1' : (i : Int) < (nb : Int) := by have := HW9.out.2.2.2; omega
        have HLen := Lib.hid hmv.symm
        have HRow := Lib.hid hrow
        have HSz := Lib.hid hb.size
        have HL1 : Hid ((flipW (ws.drop (i + 1))).length ≤ 1000) := Lib.hid (by rw [flipW_len, List.length_drop]; have := HW9.out.2.2.1; omega)
        have HDr := Lib.hid (flipW_drop hs)
        have HI := Lib.hid (And.intro hi1 hle)
        have HB := Lib.hid hb
        clear hs es hat hgA hi1 hle hmv hrow hb
        go_wp2
        go_region_law (first
          | (refine step_app_s (q := (s.1, !s.2)) rfl _ _ (by rfl) HLen.out (by rfl) (by rfl) HRow.out (by first | exact ((Below.refl _ _).alloc (Nat.le_refl _) _) | exact (((Below.refl _ _).alloc (Nat.le_refl _) _).drew) | exact ((((Below.refl _ _).alloc (Nat.le_refl _) _).drew).drew)) ⟨(Fb.new _ _ _).cell 0, (Fb.new _ _ _).cell 1⟩ HSz.out HL1.out ?_; intro gA c8 w8 hr8 hb8; have HR8 := Lib.hid hr8; have HB8 := Lib.hid hb8; clear hr8 hb8))
        all_goals
          go_wp2
          go_roundg i
          case measure => have := HI.out; omega
          case rel =>
            refine ⟨i, some ⟨gA, 0, none⟩, mv + 1, c8, rfl, by have := HI.out; omega, ?_, rfl, ?_, ?_, HB.out.trans HB8.out⟩
            · cases i with
              | zero => exact .inl ⟨rfl, by first | rfl | (congr 1)⟩
              | succ i => exact .inr ⟨i, rfl, by first | rfl | (congr 1; omega)⟩
            · rw [HDr.out, List.length_append, HLen.out]; rfl
            · rw [HDr.out]; exact HR8.out
  · have cC := compile_no HT5.out.1 hz (HP6.out w6 (Below.refl _ _))
    have hz' : (chk t == 0) = false := beq_eq_false_iff_ne.2 hz
    go_wp2_with (first
      | (go_at_call 13; (with_reducible refine cC.mono ?_); rintro e w7 ⟨rfl, hb7⟩; have HB7 := Lib.hid hb7; clear hb7 cC)
      | (go_at_call 14; (with_reducible refine (HRC.out _ HB7.out).mono ?_); rintro e w8 ⟨rfl, hb8⟩; have HB8 := Lib.hid (HB7.out.trans (hb8.mono HB7.out.size)); clear hb8))
    go_ret
    exact ⟨rfl, HB6.out.trans (HB8.out.mono HB6.out.size)⟩
end Go.Proofs.Ytghlajfalgdkfaa

/-
  ARGUMENTS AS THE CALL GETS THEM: nodes, a slice of three cells each, the third a slice of bytes; bytes.
-/
namespace Go.Proofs.Ytghlajfalgdkfaa
open Go.ChangeShapes Go.WideShapes Go.ChangeAt Go.RowKit
set_option linter.unusedVariables false
set_option linter.unusedSimpArgs false
set_option maxRecDepth 100000
section
variable {H : Type} {enc : TypeId × Value → H} {W : World}
theorem cellsU : Try.prog.cellsOf 5 = 1 := by kernel_rfl
theorem cellsNode : Try.prog.cellsOf 48 = 3 := by kernel_rfl
theorem bytes_opened {fuel : Nat} {v : Value} {y : DataW H × List MemPlace} (h : DataW.trod enc Try.prog W 0 (fun _ => true) true fuel 23 [v] = some y) (hlt : ∀ z ∈ y.2, z.block < W.heap.size) :
    ∃ (A : Option Addr) (l : List Int) (cap : Nat), v = .slice A l.length cap ∧ l.length ≤ cap ∧ cap ≤ maxLen ∧ Byt W A l ∧ ∀ x ∈ l, 0 ≤ x ∧ x < 256 := by
  rcases open_ints Try.underlying23 Try.underlying5 cellsU h with ⟨hcs, hx⟩ | ⟨a, len, cap, zs, hcs, _, hl, hm, hz, hx, hcell, hwz⟩
  · simp at hcs
    exact ⟨none, [], 0, hcs, Nat.le_refl _, by decide, fun j x hx => by simp at hx, fun x hx => by cases hx⟩
  · simp at hcs
    simp only [if_true] at hz
    have hbd : ∀ x ∈ zs.take len, 0 ≤ x ∧ x < 256 := fun x hx => by
      have := bounds_u8 (hwz x (List.mem_of_mem_take hx))
      omega
    refine ⟨some a, zs.take len, cap, by rw [hcs, List.length_take]; congr 1; omega, by simp; omega, hm, fun j x hxj => ?_, hbd⟩
    have hj : j < len := by have := (List.getElem?_eq_some_iff.1 hxj).1; simp at this; omega
    have hxz : zs.getD j 0 = x := by rw [List.getElem?_take_of_lt hj] at hxj; simp [List.getD, hxj]
    obtain ⟨b, off, spot⟩ := a
    have hspot : spot = none := by simpa [Addr.add] using World.cell?_spot (hcell 0 (by omega))
    subst hspot
    have hbW : b < W.heap.size := hlt (.cell b off) (by rw [hx]; exact MemPlace.mem_row.2 ⟨0, by omega, by simp⟩)
    refine ⟨b, off, rfl, hbW, ?_⟩
    rw [← add_plain, ← hxz]
    exact hcell j (by omega)
set_option maxHeartbeats 4000000 in
theorem nodes_opened {fuel : Nat} {v : Value} {y : DataW H × List MemPlace} (h : DataW.trod enc Try.prog W 0 (fun _ => true) true fuel 22 [v] = some y) (hlt : ∀ z ∈ y.2, z.block < W.heap.size) :
    ∃ (A : Option Addr) (len cap : Nat), v = .slice A len cap ∧ len ≤ cap ∧ cap ≤ maxLen ∧ NdI W A len := by
  rcases Go.Deep.open_slice Try.underlying22 h with ⟨hcs, hx⟩ | ⟨a, len, cap, m, n, D, Pl, hcs, _, hl, hm, hmm, hx, hi⟩
  · simp at hcs
    exact ⟨none, 0, 0, hcs, Nat.le_refl _, by decide, fun j hj => by omega⟩
  · simp at hcs
    simp only [if_true] at hmm
    rw [cellsNode] at hx hi
    subst hmm
    refine ⟨some a, len, m, hcs, hl, hm, fun j hj => ?_⟩
    obtain ⟨g, o, spot⟩ := a
    obtain ⟨cs0, hc0, _⟩ := hi 0 (by omega)
    have hz := (World.cells?_some hc0).2.2 0 (by decide)
    have hl0 := (World.cells?_some hc0).2.1
    obtain ⟨u, hu⟩ : ∃ u, cs0[0]? = some u := ⟨_, List.getElem?_eq_getElem (by omega)⟩
    rw [hu] at hz
    have hspot : spot = none := by simpa [Addr.add] using World.cell?_spot hz
    subst hspot
    obtain ⟨cs', hc', ht'⟩ := hi j (by omega)
    have hcl := (World.cells?_some hc').2.1
    have hcc := (World.cells?_some hc').2.2
    match cs', hcl with
    | [v0, v1, v2], _ =>
      have hg : g < W.heap.size := hlt (.cell g o) (by rw [hx]; exact List.mem_append_left _ (MemPlace.mem_row.2 ⟨0, Nat.mul_pos (by omega) (by decide), by simp⟩))
      rw [at_add] at hcc
      obtain ⟨y0, y1, y2, q, hy, _, h0, h1, h2⟩ := Go.Deep.trod_struct3 Try.underlying48 ht'
      have hI : Try.prog.cellsOf 3 = 1 := by kernel_rfl
      have hB : Try.prog.cellsOf 23 = 1 := by kernel_rfl
      simp [hI, hB] at h0 h1 h2
      obtain ⟨k, e0, _, w0⟩ := DataW.trod_int Try.underlying3 h0
      obtain ⟨nn, e1, _, w1⟩ := DataW.trod_int Try.underlying3 h1
      simp at e0 e1
      subst e0 e1
      simp only [Prod.mk.injEq] at hy
      obtain ⟨A', l', c', hv2, hlc, hcm, hByt, hbd⟩ := bytes_opened h2 fun z hz => hlt z (by
        rw [hx]
        refine List.mem_append_right _ (List.mem_flatMap.2 ⟨j, List.mem_range.2 (by omega), ?_⟩)
        rw [hy.2]
        exact List.mem_append_right _ (List.mem_append_right _ hz))
      subst hv2
      have b0 := bounds_i64 w0
      have b1 := bounds_i64 w1
      have x0 := hcc 0 (by decide)
      have x1 := hcc 1 (by decide)
      have x2 := hcc 2 (by decide)
      rw [at_add] at x0 x1 x2
      exact ⟨g, o, k, nn, A', l'.length, c', l', rfl, hg, x0, x1, x2, rfl, by omega, hByt, hbd, by omega, by omega, by omega, by omega⟩
end
end Go.Proofs.Ytghlajfalgdkfaa
