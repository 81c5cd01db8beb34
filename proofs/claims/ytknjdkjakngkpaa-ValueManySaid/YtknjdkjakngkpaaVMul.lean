/-
  THE DOCUMENT's 'Mul'.
-/
import Derived.Test.YtknjdkjakngkpaaVAdd
import Derived.Test.YtknjdkjakngkpaaVMulP
import Derived.Laws.MakeOwn
import Derived.StillTailTactics
import Derived.BigRegion
namespace Go.Proofs.Ytknjdkjakngkpaa
open Go.RowKit
set_option linter.unusedVariables false

/-- The boxes, and the row of the product. -/
def MS (w : World) (u v : Array Value) (n : Nat) (out : List Int) (w' : World) : Prop :=
  Bx w u v w' ∧ Own w.heap.size w' (.slice (some ⟨w.heap.size + 3, 0, none⟩) n n) out ∧ out.length = n
theorem MS.set {w : World} {u v : Array Value} {n : Nat} {out : List Int} {w' : World} (h : MS w u v n out w') (j : Nat) (x : Int) : MS w u v n (out.set j x) (w'.setCell ⟨w.heap.size + 3, j, none⟩ (.int .i64 x)) := by
  obtain ⟨h1, h2, h3⟩ := h
  refine ⟨⟨h1.1.setCell (by simp) _, h1.2.1.far (by simp) _, h1.2.2.1.far (by simp) _, h1.2.2.2.far (by simp) _⟩, ?_, by simp [h3]⟩
  unfold Own at h2 ⊢
  rw [h3] at h2
  have := (World.ownsRow.stored h2 j (.int .i64 x)).1
  rw [List.length_set, h3]
  simpa [dRow, List.map_set] using this
theorem MS.cell {w : World} {u v : Array Value} {n : Nat} {out : List Int} {w' : World} (h : MS w u v n out w') {j : Nat} {x : Int} (hx : out[j]? = some x) : w'.cell? ⟨w.heap.size + 3, j, none⟩ = some (.int .i64 x) := by
  have h2 := h.2.1
  unfold Own at h2
  rw [h.2.2] at h2
  have hj := (List.getElem?_eq_some_iff.1 hx).1
  rw [World.ownsRow.cellAt h2 j (by have := h.2.2; omega)]
  simp [dRow, hx]
theorem MS.free {w : World} {u v : Array Value} {n : Nat} {out : List Int} {w' : World} (h : MS w u v n out w') (j : Nat) : w'.frozen? ⟨w.heap.size + 3, j, none⟩ = false := by
  have h2 := h.2.1
  unfold Own at h2
  rw [h.2.2] at h2
  exact World.ownsRow.frozenAt h2 j
theorem MS.drew {w : World} {u v : Array Value} {n : Nat} {out : List Int} {w' : World} (h : MS w u v n out w') : MS w u v n out w'.drew := ⟨h.1.drew, h.2.1, h.2.2⟩
theorem MS.drewN {w : World} {u v : Array Value} {n : Nat} {out : List Int} {w' : World} (h : MS w u v n out w') (k : Nat) : MS w u v n out (w'.drewN k) := ⟨h.1.drewN k, h.2.1, h.2.2⟩
theorem ms_start (w : World) (u v : Array Value) (n : Nat) (hn : n ≤ 2001) : MS w u v n (List.replicate n 0) ((((w.alloc (.cells u 32)).alloc (.cells v 32)).alloc (.cells #[.bool false, .slice none 0 0] 32)).alloc (.cells (madeCells #[.int .i64 0] n) 3)) := by
  have h0 : Bx w u v (((w.alloc (.cells u 32)).alloc (.cells v 32)).alloc (.cells #[.bool false, .slice none 0 0] 32)) := by
    refine ⟨(((Below.refl _ _).alloc (Nat.le_refl _) _).alloc (by simp) _).alloc (by simp; omega) _, ((Bk.new w _ _).alloc _).alloc _, ?_, ?_⟩
    · have := (Bk.new (w.alloc (.cells u 32)) 32 v).alloc (.cells #[.bool false, .slice none 0 0] 32)
      simpa using this
    · have := Bk.new ((w.alloc (.cells u 32)).alloc (.cells v 32)) 32 #[.bool false, .slice none 0 0]
      simpa using this
  refine ⟨h0.below ((Below.refl _ _).alloc (Nat.le_refl _) _), ?_, by simp⟩
  have hcs : (madeCells #[Value.int .i64 0] n).toList = dRow (List.replicate n 0) := by
    apply List.ext_getElem
    · simp [size_madeCells, dRow]
    · intro j h1 h2
      simp [madeCells, dRow, Nat.mod_one]
  have h1 := World.ownsRow_lit (base := w.heap.size) (e := 3) (size := 1) (((w.alloc (.cells u 32)).alloc (.cells v 32)).alloc (.cells #[.bool false, .slice none 0 0] 32)) (madeCells #[Value.int .i64 0] n) n (by simp; omega) (by unfold maxLen; omega) (by
    have := congrArg List.length hcs
    simpa [dRow] using this)
  rw [hcs] at h1
  unfold Own
  rw [List.length_replicate]
  simpa using h1
def OutI (w : World) (u v : Array Value) (a b : List Int) (g : Nat) (s21 : Value) (wr : World) : Prop :=
  ∃ (i : Nat) (out : List Int), i + g = a.length ∧ s21 = .int .i64 i ∧ MS w u v (a.length + b.length + 1) out wr ∧ val out = val (a.take i) * val b ∧ Bnd out (81 * (i * b.length : Nat))
def InI (w : World) (u v : Array Value) (a b : List Int) (i : Nat) (x : Int) (g : Nat) (s27 : Value) (wr : World) : Prop :=
  ∃ (k : Nat) (out : List Int), k + g = b.length ∧ s27 = .int .i64 k ∧ MS w u v (a.length + b.length + 1) out wr ∧ val out = val (a.take i) * val b + 10 ^ i * (x * val (b.take k)) ∧ Bnd out (81 * (i * b.length + k : Nat))
def CarI (w : World) (u v : Array Value) (n : Nat) (T M : Int) (g : Nat) (s8 : Value) (wr : World) : Prop :=
  ∃ (i : Nat) (out : List Int), i + g = n ∧ s8 = .int .i64 i ∧ MS w u v (n + 1) out wr ∧ val out = T ∧ Car out i M
set_option maxHeartbeats 16000000 in
set_option maxRecDepth 100000 in
theorem mul_any (na nb : Bool) (a b : List Int) (ha : Dig a) (hb : Dig b) (hla : a.length ≤ 1000) (hlb : b.length ≤ 1000) (A B : Option Addr) (ca cb : Nat) (z : Int) (hz : val a * val b = z.natAbs) (hnb : z ≠ 0 → (na != nb) = decide (z < 0)) (w : World) (hA : DAt w A a) (hB : DAt w B b) :
    Calls Try.prog 23 #[.agg #[.bool na, .slice A a.length ca], .agg #[.bool nb, .slice B b.length cb]] w (BgPost w z) := by
  have HA := Lib.hid hA
  have HB := Lib.hid hB
  have DA := Lib.hid ha
  have DB := Lib.hid hb
  have HZ := Lib.hid hz
  have HN := Lib.hid hnb
  obtain ⟨i0, hi, hz0, hz1, hz2⟩ := info_parts dInfo
  have hmk : ∀ W : World, (Instr.makeSlice 30 (.int .i64 ((a.length : Int) + (b.length : Int) + 1)) (.int .i64 ((a.length : Int) + (b.length : Int) + 1))).run Try.prog W = .ok (.slice (some ⟨W.heap.size, 0, none⟩) (a.length + b.length + 1) (a.length + b.length + 1)) (W.alloc (.cells (madeCells (Value.int .i64 0).cells ((a.length + b.length + 1) * 1)) 3)) := by
    intro W
    have h := run_make (P := Try.prog) (w := W) 30 3 i0 (.int .i64 0) Try.underlying30 hi hz0 .i64 .i64 ((a.length : Int) + (b.length : Int) + 1) ((a.length : Int) + (b.length : Int) + 1) (by omega) (by omega) (by rw [hz2]; omega) (by omega)
    rw [hz1, show ((a.length : Int) + (b.length : Int) + 1).toNat = a.length + b.length + 1 by omega] at h
    exact h
  clear hA hB ha hb hz hnb
  go_enter Try.func23, Try.ntmps23
  go_wp2
  go_loopg [21] a.length (fun g s21 wr => OutI w #[.bool na, .slice A a.length ca] #[.bool nb, .slice B b.length cb] a b g s21 wr)
  case atStart =>
    refine ⟨0, List.replicate (a.length + b.length + 1) 0, by omega, rfl, by exact ms_start w _ _ (a.length + b.length + 1) (by omega), ?_, ?_⟩
    · rw [val_rep]; simp [val]
    · simpa using bnd_rep _
  case round =>
    obtain ⟨i, out, hig, rfl, hM, hv, hbd⟩ := hrel
    obtain ⟨c0, c1, d0, d1, _⟩ := hM.1.loose.all
    have HMS := Lib.hid hM
    have HV := Lib.hid hv
    have HBD := Lib.hid hbd
    clear hM hv hbd
    cases gk with
    | zero =>
      have hge : ¬ (i : Int) < (a.length : Int) := by omega
      have hi : i = a.length := by omega
      subst hi
      have hvT : val out = z.natAbs := by rw [HV.out, List.take_length, HZ.out]
      have hmb : a.length * b.length ≤ 1000000 := Nat.le_trans (Nat.mul_le_mul hla hlb) (by decide)
      have hcar := Car.start HBD.out
      obtain ⟨M, hMd⟩ : ∃ M : Int, M = 81 * (a.length * b.length : Nat) := ⟨_, rfl⟩
      rw [← hMd] at hcar
      have hM0 : 0 ≤ M ∧ M ≤ 81000000 := by omega
      have HC := Lib.hid hcar
      have HT := Lib.hid hvT
      clear hcar hvT hMd hmb HV HBD
      go_wp2
      go_loopg [8] (a.length + b.length) (fun g s8 wr => CarI w #[.bool na, .slice A a.length ca] #[.bool nb, .slice B b.length cb] (a.length + b.length) z.natAbs M g s8 wr)
      case atStart => exact ⟨0, out, by omega, rfl, HMS.out, HT.out, HC.out⟩
      case round =>
        clear c0 c1 d0 d1 HMS HC HT
        obtain ⟨i, out2, hig2, rfl, hM, hv, hcar⟩ := hrel
        obtain ⟨c0, c1, d0, d1, _⟩ := hM.1.loose.all
        have HMS := Lib.hid hM
        have HV := Lib.hid hv
        have HC := Lib.hid hcar
        clear hM hv hcar
        cases gk with
        | zero =>
          have hge2 : ¬ (i : Int) + 1 < ((a.length + b.length + 1 : Nat) : Int) := by omega
          have hge3 : ¬ (i : Int) + 1 < (a.length : Int) + (b.length : Int) + 1 := by omega
          have hi2 : i = a.length + b.length := by omega
          subst hi2
          have hdo : Dig out2 := HC.out.done HMS.out.2.2 (by rw [HV.out, ← HZ.out]; exact prod_lt DA.out DB.out)
          obtain ⟨q0, q1, q2, q3⟩ := own_shape2 HMS.out.2.1
          have hl2 := HMS.out.2.2
          have cT := bx_trim (u := #[.bool na, .slice A a.length ca]) (v := #[.bool nb, .slice B b.length cb]) (na != nb) out2 hdo (by omega) _ _ q1 q2 z HV.out HN.out wr q3 HMS.out.1
          rw [hl2, show (na != nb) = !(na == nb) from rfl] at cT
          clear hdo q0 q1 q2 q3 hl2 HC HV
          go_wp2_with (go_at_call 35; (with_reducible refine cT.mono ?_); rintro e w6 ⟨A6, c6, rfl, h61, h62, hS6⟩; obtain ⟨q4, q5, q6, q7⟩ := hS6.res)
          have q4' : w6.cell? ⟨w.heap.size + 1 + 1, 0, none⟩ = some (.bool false) := q4
          have q5' : w6.cell? ⟨w.heap.size + 1 + 1, 1, none⟩ = some (.slice none 0 0) := q5
          have q6' : w6.frozen? ⟨w.heap.size + 1 + 1, 0, none⟩ = false := q6
          have q7' : w6.frozen? ⟨w.heap.size + 1 + 1, 1, none⟩ = false := q7
          clear q4 q5 q6 q7
          go_wp2
          refine bodyPost_ret (v := .agg #[.bool (decide (z < 0)), .slice A6 (digs z.natAbs).length c6]) (by simp [results, Try.results23, go_sem, q4', q5']) rfl ⟨_, rfl, ?_, ?_⟩
          · exact ⟨A6, c6, rfl, h61, DAt.set2 h62 hS6.2.2.2⟩
          · exact (hS6.1.setCell (by simp; omega) _).setCell (by simp; omega) _
        | succ h =>
          have hlt2 : (i : Int) + 1 < ((a.length + b.length + 1 : Nat) : Int) := by omega
          have hlt3 : (i : Int) + 1 < (a.length : Int) + (b.length : Int) + 1 := by omega
          have hlt4 : i + 1 < a.length + b.length + 1 := by omega
          have hlt5 : (i : Int) < ((a.length + b.length + 1 : Nat) : Int) := by omega
          have hlt6 : (i : Int) < (a.length : Int) + (b.length : Int) + 1 := by omega
          have hI0 : (0 : Int) ≤ (i : Int) := by omega
          have hI1 : (0 : Int) ≤ (i : Int) + 1 := by omega
          have hIn : ((i : Int) + 1).toNat = i + 1 := by omega
          have hIw : IntKind.i64.wrap ((i : Int) + 1) = (i : Int) + 1 := IntWalk.i64_in _ (by omega)
          obtain ⟨o, ho⟩ : ∃ o, out2[i]? = some o := ⟨_, List.getElem?_eq_getElem (by have := HMS.out.2.2; omega)⟩
          obtain ⟨p, hp⟩ : ∃ p, out2[i + 1]? = some p := ⟨_, List.getElem?_eq_getElem (by have := HMS.out.2.2; omega)⟩
          have g0 := HC.out i o ho
          have g1 := HC.out (i + 1) p hp
          have ob : 0 ≤ o ∧ o ≤ 162000000 := by omega
          have pb : 0 ≤ p ∧ p ≤ 81000000 := by omega
          obtain ⟨q, hq⟩ : ∃ q, q = o / 10 := ⟨_, rfl⟩
          have hqb : 0 ≤ q ∧ q ≤ 16200000 := by omega
          have hq1 : o.tdiv 10 = q := by rw [hq]; exact Int.tdiv_eq_ediv_of_nonneg ob.1
          have hqw : IntKind.i64.wrap q = q := IntWalk.i64_in _ (by omega)
          have hpw : IntKind.i64.wrap (p + q) = p + q := IntWalk.i64_in _ (by omega)
          have e1 : wr.cell? ⟨w.heap.size + 1 + 1 + 1, i, none⟩ = some (.int .i64 o) := HMS.out.cell ho
          have e2 : wr.cell? ⟨w.heap.size + 1 + 1 + 1, i + 1, none⟩ = some (.int .i64 p) := HMS.out.cell hp
          have hM2 := (HMS.out.drew).set (i + 1) (p + q)
          have ho2 : (out2.set (i + 1) (p + q))[i]? = some o := by rw [List.getElem?_set_ne (by omega)]; exact ho
          have hfin : CarI w #[.bool na, .slice A a.length ca] #[.bool nb, .slice B b.length cb] (a.length + b.length) z.natAbs M h (.int .i64 ((i : Int) + 1)) ((wr.drew.setCell ⟨w.heap.size + 1 + 1 + 1, i + 1, none⟩ (.int .i64 (p + q))).setCell ⟨w.heap.size + 1 + 1 + 1, i, none⟩ (.int .i64 (o % 10))) := by
            refine ⟨i + 1, _, by omega, by go_num, hM2.set i (o % 10), ?_, ?_⟩
            · rw [hq, carry_step ho hp]; exact HV.out
            · rw [hq]; exact HC.out.step ho hp
          have HF := Lib.hid hfin
          have HM2 := Lib.hid hM2
          have HO2 := Lib.hid ho2
          have b1 := ob.1
          have b2 := ob.2
          have b3 := pb.1
          have b4 := pb.2
          have b5 := hqb.1
          have b6 := hqb.2
          clear hfin hM2 ho2 ho hp g0 g1 hq HV HC ob pb hqb
          go_wp2
          go_still_tail 15, (by kernel_rfl)
          change wpList _ _ _ _ _ wr.drew
          obtain ⟨W, hW⟩ : ∃ W, W = wr.drew := ⟨_, rfl⟩
          rw [← hW] at HF HM2 ⊢
          have e3' : W.cell? ⟨w.heap.size + 1 + 1 + 1, i + 1, none⟩ = some (.int .i64 p) := by rw [hW]; exact e2
          have e4' : W.frozen? ⟨w.heap.size + 1 + 1 + 1, i + 1, none⟩ = false := by rw [hW]; exact HMS.out.free _
          have e5' : (W.setCell ⟨w.heap.size + 1 + 1 + 1, i + 1, none⟩ (.int .i64 (p + q))).cell? ⟨w.heap.size + 1 + 1 + 1, i, none⟩ = some (.int .i64 o) := HM2.out.cell HO2.out
          have e6' : (W.setCell ⟨w.heap.size + 1 + 1 + 1, i + 1, none⟩ (.int .i64 (p + q))).frozen? ⟨w.heap.size + 1 + 1 + 1, i, none⟩ = false := HM2.out.free _
          clear hW e1 e2 c0 c1 d0 d1 HMS
          go_wp2
          go_roundg h
          case measure => omega
          case rel => exact HF.out
    | succ g =>
      have hlt : (i : Int) < (a.length : Int) := by omega
      obtain ⟨x, hx⟩ : ∃ x, a[i]? = some x := ⟨_, List.getElem?_eq_getElem (by omega)⟩
      obtain ⟨ga, oa, rfl, hga, hca⟩ := HA.out i x hx
      have HX := Lib.hid hx
      have hx9 := DA.out.at hx
      clear hx
      go_wp2
      go_loopg [27] b.length (fun g' s27 wr' => InI w #[.bool na, .slice (some ⟨ga, oa, none⟩) a.length ca] #[.bool nb, .slice B b.length cb] a b i x g' s27 wr')
      case atStart => exact ⟨0, out, by omega, rfl, HMS.out, by rw [HV.out]; simp [val], by simpa using HBD.out⟩
      case round =>
        clear c0 c1 d0 d1 HMS HV HBD
        obtain ⟨k, out2, hkg, rfl, hM, hv, hbd⟩ := hrel
        obtain ⟨c0, c1, d0, d1, _⟩ := hM.1.loose.all
        have hb2 := hM.1.1
        have HMS := Lib.hid hM
        have HV := Lib.hid hv
        have HBD := Lib.hid hbd
        clear hM hv hbd
        cases gk with
        | zero =>
          have hge : ¬ (k : Int) < (b.length : Int) := by omega
          have hk : k = b.length := by omega
          subst hk
          go_wp2
          go_roundg g
          case measure => omega
          case rel =>
            refine ⟨i + 1, out2, by omega, by go_num, HMS.out, outer_step HX.out HV.out, ?_⟩
            have := HBD.out
            rwa [show i * b.length + b.length = (i + 1) * b.length by rw [Nat.add_mul, Nat.one_mul]] at this
        | succ h =>
          have hlt2 : (k : Int) < (b.length : Int) := by omega
          obtain ⟨y, hy⟩ : ∃ y, b[k]? = some y := ⟨_, List.getElem?_eq_getElem (by omega)⟩
          obtain ⟨gb, ob, rfl, hgb, hcb⟩ := HB.out k y hy
          have hy9 := DB.out.at hy
          obtain ⟨o, ho⟩ : ∃ o, out2[i + k]? = some o := ⟨_, List.getElem?_eq_getElem (by have := HMS.out.2.2; omega)⟩
          have e1 : wr.cell? ⟨ga, oa + i, none⟩ = some (.int .i64 x) := (hb2.cell (p := ⟨ga, oa + i, none⟩) hga).trans hca
          have e2 : wr.cell? ⟨gb, ob + k, none⟩ = some (.int .i64 y) := (hb2.cell (p := ⟨gb, ob + k, none⟩) hgb).trans hcb
          have e3 : wr.cell? ⟨w.heap.size + 1 + 1 + 1, i + k, none⟩ = some (.int .i64 o) := HMS.out.cell ho
          have e4 : wr.frozen? ⟨w.heap.size + 1 + 1 + 1, i + k, none⟩ = false := HMS.out.free _
          have hbd := HBD.out _ o ho
          have hcnt : i * b.length + k ≤ 1000000 := cnt_le (by omega) (by omega) hla hlb
          have hp := digit_prod hx9 hy9
          have ho2 : 0 ≤ o ∧ o ≤ 81000000 := by omega
          obtain ⟨p, hpd⟩ : ∃ p, p = x * y := ⟨_, rfl⟩
          rw [← hpd] at hp
          have hpw : IntKind.i64.wrap (x * y) = p := by rw [IntWalk.i64_in _ (by omega), hpd]
          have hqw : IntKind.i64.wrap (o + p) = o + p := IntWalk.i64_in _ (by omega)
          have hsw : IntKind.i64.wrap ((i : Int) + (k : Int)) = (i : Int) + (k : Int) := IntWalk.i64_in _ (by omega)
          have hsn : ((i : Int) + (k : Int)).toNat = i + k := by omega
          have hs0 : (0 : Int) ≤ (i : Int) + (k : Int) := by omega
          have hsl : (i : Int) + (k : Int) < ((a.length + b.length + 1 : Nat) : Int) := by omega
          have hsl2 : (i : Int) + (k : Int) < (a.length : Int) + (b.length : Int) + 1 := by omega
          have hsl3 : i + k < a.length + b.length + 1 := by omega
          have hI0 : (0 : Int) ≤ (i : Int) := by omega
          have hK0 : (0 : Int) ≤ (k : Int) := by omega
          have hfin : InI w #[.bool na, .slice (some ⟨ga, oa, none⟩) a.length ca] #[.bool nb, .slice (some ⟨gb, ob, none⟩) b.length cb] a b i x h (.int .i64 ((k : Int) + 1)) (wr.drew.setCell ⟨w.heap.size + 3, i + k, none⟩ (.int .i64 (o + p))) := by
            have hs := inner_step hy ho HV.out
            rw [← hpd] at hs
            exact ⟨k + 1, _, by omega, by go_num, HMS.out.drew.set _ _, hs, HBD.out.set (by omega) (by omega) (by omega)⟩
          have HF := Lib.hid hfin
          clear hfin ho hy hcb hbd hcnt ho2 hpd hy9 HV HBD
          go_wp2
          go_still_tail 23, (by kernel_rfl)
          change wpList _ _ _ _ _ wr.drew
          obtain ⟨W, hW⟩ : ∃ W, W = wr.drew := ⟨_, rfl⟩
          rw [← hW] at HF ⊢
          have e3' : W.cell? ⟨w.heap.size + 1 + 1 + 1, i + k, none⟩ = some (.int .i64 o) := by rw [hW]; exact e3
          have e4' : W.frozen? ⟨w.heap.size + 1 + 1 + 1, i + k, none⟩ = false := by rw [hW]; exact e4
          clear hW e3 e4 e1 e2 c0 c1 d0 d1 HMS hb2
          go_wp2
          go_roundg h
          case measure => omega
          case rel => exact HF.out
theorem mul_big (x y : Int) (hx : (digs x.natAbs).length ≤ 1000) (hy : (digs y.natAbs).length ≤ 1000) (u v : Value) (w : World) (hu : BigV w u x) (hv : BigV w v y) : Calls Try.prog 23 #[u, v] w (BgPost w (x * y)) := by
  obtain ⟨A, ca, rfl, _, hA⟩ := hu
  obtain ⟨B, cb, rfl, _, hB⟩ := hv
  exact mul_any _ _ _ _ (digs_dig _) (digs_dig _) hx hy A B ca cb (x * y) (by rw [digs_val, digs_val, Int.natAbs_mul]; rfl) mul_sign w hA hB
end Go.Proofs.Ytknjdkjakngkpaa
