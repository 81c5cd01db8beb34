/-
  MERGED (a claim has at most 60 files): TLang, TRLang, TRiri, TSl, TSame.
-/
import Derived.Test.YtpnfjjgihkmjmaaGreatDoorZ13
import Derived.Test.YtpnfjjgihkmjmaaGreatDoorZ02
import Derived.Deep.QuietTactic
import Derived.BigQuiet
import Derived.Deep.RegionHeld3
import Derived.ChangeKeysEq
/-
  A LANGUAGE: the program's 'isLanguage' (parted at '-', part by part) and the document's 'lang' (byte by byte).
-/
namespace Go.Proofs.YtpnfjjgihkmjmaaGreatDoor
open Go.RowKit
set_option linter.unusedVariables false

abbrev dash : ByteArray := ⟨#[45]⟩
def langB (s : ByteArray) : Bool := decide (s.size ≤ 40) && mach 0 0 s.data.toList
theorem countB_dash (s : ByteArray) : Lib.countB s dash = Lib.countByte s.data.toList 45 := Lib.count_one 45 s.data.toList
theorem indexB_dash (s : ByteArray) : Lib.indexB s dash = Lib.indexByte s.data.toList 45 := Lib.index_one s.data.toList 45
theorem split_dash (s : ByteArray) (hs : s.size < 4294967281) (w : World) : Calls Tryz.prog 173 #[.string s, .string dash] w fun e w' =>
    e = .returned (.slice (some ⟨w.heap.size, 0, none⟩) (Lib.countB s dash + 1) (Lib.countB s dash + 1)) ∧ w' = w.alloc (.cells ((Lib.splitB dash 0 (Lib.countB s dash) s).map Value.string).toArray 9) := by
  have L := Tryz.laysM146
  have hle := Lib.countB_le dash (by decide) s.size s (Nat.le_refl _)
  have hlen := Lib.splitB_all dash (by decide) 0 _ s rfl
  have c : Calls Tryz.prog 174 #[.string s, .string dash, .int .i64 0, .int .i64 (-1)] w fun e w' =>
      e = .returned (.slice (some ⟨w.heap.size, 0, none⟩) (Lib.splitB dash 0 (Lib.countB s dash + 1 - 1) s).length (Lib.countB s dash + 1)) ∧ w' = w.alloc (.cells (Lib.cellsOf (Lib.splitB dash 0 (Lib.countB s dash + 1 - 1) s) (Lib.countB s dash + 1)) 9) :=
    Any.strings_genSplit_core { L with } L.i9 s dash 0 (-1) (Lib.countB s dash + 1) w hs (by decide) (Nat.zero_le _)
      (fun x c _ => (Any.strings_Index_one { L with } x 45 _).mono fun e w' ⟨a, b⟩ => ⟨by rw [a, indexB_dash], b⟩)
      ((Any.strings_Count_one { L with } s 45 w).mono fun e w' ⟨a, b⟩ => ⟨by rw [a, countB_dash], b⟩) (by decide) (by decide) (by rw [if_pos (by decide)]; omega)
  rw [Nat.add_sub_cancel, hlen] at c
  have e2 : Lib.cellsOf (Lib.splitB dash 0 (Lib.countB s dash) s) (Lib.countB s dash + 1) = ((Lib.splitB dash 0 (Lib.countB s dash) s).map Value.string).toArray := by rw [← hlen]; exact Lib.cellsOf_full _
  rw [e2] at c
  obtain ⟨cs, hcs⟩ : ∃ cs, cs = ((Lib.splitB dash 0 (Lib.countB s dash) s).map Value.string).toArray := ⟨_, rfl⟩
  obtain ⟨n, hn⟩ : ∃ n, n = Lib.countB s dash := ⟨_, rfl⟩
  rw [← hcs, ← hn] at c
  rw [← hcs, ← hn]
  clear hcs hn e2 hlen hle L hs
  go_enter Tryz.func173, Tryz.ntmps173
  go_wp2_with (go_at_call 174; (with_reducible refine c.mono ?_); rintro e w' ⟨rfl, rfl⟩)
  go_ret
  exact ⟨rfl, rfl⟩
/-- May a sign stand in part k of a language? -/
def okI (k : Nat) (n : Int) : Bool := (cls n == 1) || (!(k == 0) && (cls n == 2))
theorem cls_1 (n : Int) : cls n = 1 ↔ (97 ≤ n ∧ n ≤ 122) ∨ (65 ≤ n ∧ n ≤ 90) := by unfold cls; omega
theorem cls_2 (n : Int) : cls n = 2 ↔ 48 ≤ n ∧ n ≤ 57 := by unfold cls; omega
theorem cls_let (c : UInt8) : (cls (c.toNat : Int) == 1) = letU c := by
  unfold letU
  rw [Bool.eq_iff_iff, beq_iff_eq, decide_eq_true_eq, cls_1]
  omega
theorem cls_dig (c : UInt8) : (cls (c.toNat : Int) == 2) = digU c := by
  unfold digU
  rw [Bool.eq_iff_iff, beq_iff_eq, decide_eq_true_eq, cls_2]
  omega
theorem okI_far (k : Nat) (n : Int) (h : 128 ≤ n) : okI k n = false := by
  have h1 : (cls n == 1) = false := by rw [beq_eq_false_iff_ne, Ne, cls_1]; omega
  have h2 : (cls n == 2) = false := by rw [beq_eq_false_iff_ne, Ne, cls_2]; omega
  unfold okI
  rw [h1, h2]; simp
theorem okc_far (k : Nat) (c : UInt8) (h : 128 ≤ c.toNat) : okc k c = false := by
  have h1 : letU c = false := by unfold letU; rw [decide_eq_false_iff_not]; omega
  have h2 : digU c = false := by unfold digU; rw [decide_eq_false_iff_not]; omega
  unfold okc
  rw [h1, h2]; simp
theorem okI_okc (k : Nat) (c : UInt8) : okI k (c.toNat : Int) = okc k c := by unfold okI okc; rw [cls_let, cls_dig]
theorem allI_all (f : Int → Bool) : ∀ (l : List Int) (i : Nat), allI (fun _ n => f n) i l = l.all f
  | [], _ => rfl
  | n :: l, i => by simp only [allI, List.all_cons, allI_all f l (i + 1)]
theorem allU_all (g : UInt8 → Bool) : ∀ (l : List UInt8) (i : Nat), allU (fun _ n => g n) i l = l.all g
  | [], _ => rfl
  | n :: l, i => by simp only [allU, List.all_cons, allU_all g l (i + 1)]
theorem part_signs (k : Nat) {l : List UInt8} {sl : List Int} {rest : List UInt8} (hp : Parts l sl rest) : l.all (okc k) = (decide (rest = []) && sl.all (okI k)) := by
  have := all_same (fun _ n => okI k n) (fun _ c => okc k c) (fun _ n h => okI_far k n h) (fun _ c h => okc_far k c h) (fun _ c _ => okI_okc k c) rest hp.bad sl hp.all 0
  rw [allI_all, allU_all] at this
  rw [hp.eq, ← this]
theorem splitB_sizes (sep : ByteArray) : ∀ (k : Nat) (s p : ByteArray), p ∈ Lib.splitB sep 0 k s → p.size ≤ s.size
  | 0, s, p, h => by rw [Lib.splitB_zero, List.mem_singleton] at h; rw [h]; exact Nat.le_refl _
  | k + 1, s, p, h => by
    by_cases hm : Lib.indexB s sep = -1
    · rw [Lib.splitB_miss sep 0 _ s hm, List.mem_singleton] at h; rw [h]; exact Nat.le_refl _
    · unfold Lib.splitB at h
      rw [if_neg (fun e => hm (beq_iff_eq.1 e))] at h
      rcases List.mem_cons.1 h with h | h
      · rw [h, ByteArray.size_extract]; omega
      · have := splitB_sizes sep k _ p h
        rw [ByteArray.size_extract] at this; omega
def LaO (w : World) (s : ByteArray) (ps : List ByteArray) (g0 g : Nat) (s14 : Value) (wr : World) : Prop :=
  ∃ k : Nat, k + g = ps.length ∧ s14 = .int .i64 k ∧ Hid (mach 0 0 s.data.toList = partsOk k ((ps.drop k).map fun p => p.data.toList)) ∧ Below w.heap.size w wr ∧ Fb wr g0 9 (ps.map Value.string).toArray
def LaI (w : World) (p : ByteArray) (sl : List Int) (k g0 it : Nat) (cs : Array Value) (g : Nat) (wr : World) : Prop :=
  ∃ a b, sl = a ++ b ∧ b.length = g ∧ a.all (okI k) = true ∧ wr.heap[it]? = some (.stringIter p (encL a).length) ∧ Below w.heap.size w wr ∧ Fb wr g0 9 cs ∧ it < wr.heap.size
theorem below_it {B : Nat} {a w : World} (h : Below B a w) (g : Nat) (hg : B ≤ g) (s : ByteArray) (n : Nat) : Below B a (w.iterAt g s n) := Lib.below_iterAt h hg _ _
theorem okI_ways (k : Nat) (n q : Int) (hq : q = cls n) : (okI k n = true ∧ (q != 1) = false) ∨ (okI k n = true ∧ (q != 1) = true ∧ ((k : Int) == 0) = false ∧ (q != 2) = false) ∨ (okI k n = false ∧ (q != 1) = true ∧ ((k : Int) == 0) = true) ∨ (okI k n = false ∧ (q != 1) = true ∧ ((k : Int) == 0) = false ∧ (q != 2) = true) := by
  subst hq
  have e : ((k : Int) == 0) = (k == 0) := by rw [Bool.eq_iff_iff, beq_iff_eq, beq_iff_eq]; omega
  unfold okI
  rw [e]
  have e1 : (cls n != 1) = !(cls n == 1) := rfl
  have e2 : (cls n != 2) = !(cls n == 2) := rfl
  rw [e1, e2]
  cases (cls n == 1) <;> cases (cls n == 2) <;> cases (k == 0) <;> simp
set_option maxHeartbeats 8000000 in
set_option maxRecDepth 100000 in
theorem isLang_any (s : ByteArray) (hs : s.size < 4294967281) (w : World) : Calls Tryz.prog 172 #[.string s] w fun e w' => e = .returned (.bool (langB s)) ∧ Below w.heap.size w w' := by
  obtain ⟨r, hr⟩ : ∃ r, r = langB s := ⟨_, rfl⟩
  rw [← hr]
  unfold langB at hr
  by_cases h40 : s.size ≤ 40
  · rw [decide_eq_true h40, Bool.true_and] at hr
    have k40 : ¬ (40 : Int) < (s.size : Int) := by omega
    have cS := fun W => split_dash s hs W
    obtain ⟨n, hn⟩ : ∃ n, n = Lib.countB s dash := ⟨_, rfl⟩
    obtain ⟨ps, hps⟩ : ∃ ps, ps = Lib.splitB dash 0 n s := ⟨_, rfl⟩
    rw [← hn, ← hps] at cS
    have hpl : ps.length = n + 1 := by rw [hps]; exact Lib.splitB_all dash (by decide) 0 _ s hn.symm
    have hm : mach 0 0 s.data.toList = partsOk 0 (ps.map fun p => p.data.toList) := by
      rw [hps, Lib.splitB_data]
      exact mach_parts n _ 0 hn.symm
    have hsz : ∀ p ∈ ps, p.size ≤ 40 := fun p hp => by
      have := splitB_sizes dash n s p (hps ▸ hp)
      omega
    have HM := Lib.hid hm
    have HR := Lib.hid hr
    have HPL := Lib.hid hpl
    have HSZ := Lib.hid hsz
    have hn41 : n ≤ 1000000 := by
      have := Lib.countB_le dash (by decide) s.size s (Nat.le_refl _)
      omega
    clear hm hr hpl hsz hn hps h40 hs
    go_enter Tryz.func172, Tryz.ntmps172
    go_wp2_with (go_at_call 173; (with_reducible refine (cS _).mono ?_); rintro e w2 ⟨rfl, hw2⟩; have hF0 : Fb w2 w.heap.size 9 (ps.map Value.string).toArray := (by rw [hw2]; exact Fb.new w _ _); have hB0 : Below w.heap.size w w2 := (by rw [hw2]; exact (Below.refl _ _).alloc (Nat.le_refl _) _); clear hw2)
    obtain ⟨g0, hg0⟩ : ∃ g, g = w.heap.size := ⟨_, rfl⟩
    rw [← hg0] at hF0
    have hG0 : w.heap.size ≤ g0 := by omega
    rw [← hg0]
    have HF0 := Lib.hid hF0
    have HB0 := Lib.hid hB0
    clear hg0 hF0 hB0
    go_loopg [14] (n + 1) (fun g s14 wr => LaO w s ps g0 g s14 wr)
    case atStart => exact ⟨0, by rw [HPL.out]; omega, rfl, Lib.hid (by rw [HM.out, List.drop_zero]), HB0.out, HF0.out⟩
    case round =>
      obtain ⟨k, hkg, rfl, HK, hbw, hF⟩ := hrel
      have HBW := Lib.hid hbw
      have HF := Lib.hid hF
      have hpl := HPL.out
      cases gk with
      | zero =>
        have hk : k = ps.length := by omega
        have k1 : ¬ (k : Int) < (n : Int) + 1 := by omega
        have HE : Hid (r = true) := Lib.hid (by rw [HR.out, HK.out, hk, List.drop_length]; rfl)
        clear hk hkg hpl hbw hF
        go_wp2
        go_ret
        exact ⟨ret_bool HE.out.symm, HBW.out⟩
      | succ g =>
        have hk : k < ps.length := by omega
        have k1 : (k : Int) < (n : Int) + 1 := by omega
        have k0 : (0 : Int) ≤ (k : Int) := by omega
        obtain ⟨p, hp⟩ : ∃ p, ps[k]? = some p := ⟨_, List.getElem?_eq_getElem hk⟩
        have hc : wr.cell? ⟨g0, k, none⟩ = some (.string p) := by
          rw [hF.cell]
          simp [hp]
        have hdk : (ps.drop k).map (fun p => p.data.toList) = p.data.toList :: (ps.drop (k + 1)).map fun p => p.data.toList := by
          rw [List.drop_eq_getElem_cons hk, (List.getElem?_eq_some_iff.1 hp).2]; rfl
        have hst : mach 0 0 s.data.toList = (partOk k p.data.toList && partsOk (k + 1) ((ps.drop (k + 1)).map fun p => p.data.toList)) := by rw [HK.out, hdk]; rfl
        have hpz : p.data.toList.length = p.size := (Lib.size_eq p).symm
        have hp40 := HSZ.out p (List.mem_of_getElem? hp)
        obtain ⟨sl, rest, hpp⟩ := parts_of p.data.toList
        have hsg := part_signs k hpp
        have HST := Lib.hid hst
        have HPP := Lib.hid hpp
        have HSG := Lib.hid hsg
        have hnil : p.toList = [] ↔ p.size = 0 := by
          rw [ByteArray.toList_eq]
          constructor
          · intro h; have := congrArg List.length h; rw [Array.length_toList] at this; exact this
          · intro h; exact List.length_eq_zero_iff.1 (by rw [Array.length_toList]; exact h)
        have HN := Lib.hid hnil
        have HPZ := Lib.hid hpz
        have HKG := Lib.hid hkg
        clear hp hdk hst hpp hsg hnil hpz hF hbw hkg hpl
        by_cases z0 : p.size = 0
        · have e2 : p.toList = [] := HN.out.2 z0
          have e1 : p.toList.isEmpty = true := by rw [e2]; rfl
          have HE : Hid (r = false) := Lib.hid (by rw [HR.out, HST.out]; unfold partOk; rw [HPZ.out, z0]; rfl)
          clear z0
          go_wp2
          (try rw [Exit.noGoto_ret])
          go_ret
          exact ⟨ret_bool HE.out.symm, HBW.out⟩
        · have e2 : ¬ p.toList = [] := fun e => z0 (HN.out.1 e)
          have e1 : p.toList.isEmpty = false := by
            cases h : p.toList
            · exact absurd h e2
            · rfl
          by_cases z8 : p.size ≤ 8
          · have k8 : ¬ (8 : Int) < (p.size : Int) := by omega
            have hpo : partOk k p.data.toList = (decide (rest = []) && sl.all (okI k)) := by
              unfold partOk
              rw [HPZ.out, beq_eq_false_iff_ne.2 z0, decide_eq_true z8, HSG.out]; rfl
            have HPO := Lib.hid hpo
            obtain ⟨it, hit0⟩ : ∃ it, it = wr.heap.size := ⟨_, rfl⟩
            have hI0 : LaI w p sl k g0 it (ps.map Value.string).toArray sl.length (wr.alloc (.stringIter p 0)) := ⟨[], sl, rfl, rfl, rfl, by rw [hit0]; exact World.iter_heap _ _ _, HBW.out.alloc HBW.out.size _, HF.out.alloc _, by rw [hit0]; simp⟩
            have HI0 := Lib.hid hI0
            have hitb : w.heap.size ≤ it := by rw [hit0]; exact HBW.out.size
            have hg0it : g0 ≠ it := by rw [hit0]; have := HF.out.lt; omega
            have HIT0 := Lib.hid hit0
            clear z0 z8 hpo hI0 hit0
            go_wp2
            rw [← HIT0.out]
            go_loopg [] sl.length (fun g2 wx => LaI w p sl k g0 it (ps.map Value.string).toArray g2 wx)
            case atStart => exact HI0.out
            case round =>
              obtain ⟨a, bb, hab, hbl, hall, hit, hbx, hFx, hlt⟩ := hrel
              have hdat : p.data.toList = encL a ++ (encL bb ++ rest) := by rw [HPP.out.eq, hab, encL_append, List.append_assoc]
              have HAB := Lib.hid hab
              have HALL := Lib.hid hall
              have HBX := Lib.hid hbx
              have HFX := Lib.hid hFx
              cases gk with
              | zero =>
                obtain rfl : bb = [] := List.length_eq_zero_iff.1 hbl
                by_cases hrest : rest = []
                · have hnx : ∀ ty, (Instr.next (.pointer (some ⟨it, 0, none⟩)) true ty).run Tryz.prog wr = _ := fun ty => next_done wr it p a (by rw [hdat, hrest]; simp [encL]) hit ty
                  have hfin : LaO w s ps g0 g (.int .i64 ((k : Int) + 1)) wr := ⟨k + 1, by have := HKG.out; omega, by go_num, Lib.hid (by rw [HST.out, HPO.out, decide_eq_true hrest, hab, List.append_nil, hall]; rfl), hbx, hFx⟩
                  have HFN := Lib.hid hfin
                  clear hab hbl hdat hall hit hbx hFx hrest hfin
                  go_wp2
                  go_roundg g
                  case measure => omega
                  case rel => exact HFN.out
                · have hnx : ∀ ty, (Instr.next (.pointer (some ⟨it, 0, none⟩)) true ty).run Tryz.prog wr = _ := fun ty => next_bad wr it p a rest (by rw [hdat]; simp [encL]) (HPP.out.bad.resolve_left hrest) hit ty
                  obtain ⟨W, hW⟩ : ∃ W, W = wr.iterAt it p ((encL a).length + 1) := ⟨_, rfl⟩
                  rw [← hW] at hnx
                  have HBW2 : Hid (Below w.heap.size w W) := Lib.hid (by rw [hW]; exact Lib.below_iterAt hbx hitb _ _)
                  have HE : Hid (r = false) := Lib.hid (by rw [HR.out, HST.out, HPO.out, decide_eq_false hrest]; rfl)
                  have cR := class_any 65533
                  have hc5 : cls 65533 = 5 := by decide
                  rw [hc5] at cR
                  have hk0 : ((k : Int) == 0) = true ∨ ((k : Int) == 0) = false := by cases ((k : Int) == 0) <;> simp
                  clear hab hbl hdat hall hit hbx hFx hrest hW hc5
                  rcases hk0 with hk0 | hk0
                  all_goals
                    go_wp2_with (go_at_call 116; (with_reducible refine (cR _).mono ?_); rintro e w' ⟨rfl, rfl⟩)
                    (try rw [Exit.noGoto_ret])
                    go_ret
                    exact ⟨ret_bool HE.out.symm, HBW2.out⟩
              | succ g2 =>
                obtain ⟨x, b', rfl⟩ : ∃ x b', bb = x :: b' := by
                  match bb, hbl with
                  | x :: b', _ => exact ⟨x, b', rfl⟩
                have hx : sgn x = true := HPP.out.all x (by rw [hab]; simp)
                have hnx : ∀ ty, (Instr.next (.pointer (some ⟨it, 0, none⟩)) true ty).run Tryz.prog wr = _ := fun ty => next_sign wr it p a x (encL b' ++ rest) (by rw [hdat, encL_cons, List.append_assoc]) hx hit ty
                obtain ⟨W, hW⟩ : ∃ W, W = wr.iterAt it p (encL (a ++ [x])).length := ⟨_, rfl⟩
                rw [← hW] at hnx
                have hitW : W.heap[it]? = some (.stringIter p (encL (a ++ [x])).length) := by rw [hW]; exact Lib.iterAt_heap _ _ _ _ _ hit
                have hbW : Below w.heap.size w W := by rw [hW]; exact Lib.below_iterAt hbx hitb _ _
                have hFW : Fb W g0 9 (ps.map Value.string).toArray := by
                  rw [hW]; exact (Lib.iterAt_other _ _ _ _ _ hg0it).trans hFx
                have hltW : it < W.heap.size := by rw [hW]; exact (Array.getElem?_eq_some_iff.1 (Lib.iterAt_heap _ _ _ _ _ hit)).1
                have HBW2 := Lib.hid hbW
                have hfin : okI k x = true → LaI w p sl k g0 it (ps.map Value.string).toArray g2 W := fun hk => ⟨a ++ [x], b', by rw [hab]; simp, by simpa using hbl, by rw [List.all_append, hall]; simp [hk], hitW, hbW, hFW, hltW⟩
                have hno : okI k x = false → r = false := fun hk => by
                  rw [HR.out, HST.out, HPO.out, hab]; simp [hk]
                have HFN := Lib.hid hfin
                have HNO := Lib.hid hno
                obtain ⟨q, hq⟩ : ∃ q, q = cls x := ⟨_, rfl⟩
                have cR := class_any x
                rw [← hq] at cR
                have ways := okI_ways k x q hq
                have hm : g2 < g2 + 1 := Nat.lt_succ_self g2
                clear hab hbl hdat hall hit hbx hFx hW hitW hbW hFW hltW hx hfin hno hq
                rcases ways with ⟨h0, j1⟩ | ⟨h0, j1, j2, j3⟩ | ⟨h0, j1, j2⟩ | ⟨h0, j1, j2, j3⟩
                all_goals
                  have H0 := Lib.hid h0
                  clear h0
                  go_wp2_with (go_at_call 116; (with_reducible refine (cR _).mono ?_); rintro e w' ⟨rfl, rfl⟩)
                  first
                    | (go_roundg g2; (case measure => exact hm); (case rel => exact HFN.out H0.out))
                    | ((try rw [Exit.noGoto_ret]); go_ret; exact ⟨ret_bool (HNO.out H0.out).symm, HBW2.out⟩)
          · have k8 : (8 : Int) < (p.size : Int) := by omega
            have HE : Hid (r = false) := Lib.hid (by rw [HR.out, HST.out]; unfold partOk; rw [HPZ.out, decide_eq_false z8]; simp)
            clear z0 z8
            go_wp2
            (try rw [Exit.noGoto_ret])
            go_ret
            exact ⟨ret_bool HE.out.symm, HBW.out⟩
  · rw [decide_eq_false h40, Bool.false_and] at hr
    have k40 : (40 : Int) < (s.size : Int) := by omega
    have HE := Lib.hid hr
    clear hr h40 hs
    go_enter Tryz.func172, Tryz.ntmps172
    go_wp2
    go_ret
    exact ⟨ret_bool HE.out.symm, Below.refl _ _⟩
end Go.Proofs.YtpnfjjgihkmjmaaGreatDoor

/-
  THE DOCUMENT's 'lang' and 'label', whatever the text.
-/
namespace Go.Proofs.YtpnfjjgihkmjmaaGreatDoor
open Go.RowKit
set_option linter.unusedVariables false

theorem letB_U (c : UInt8) : letB (c.toNat : Int) = letU c := by unfold letB letU; rw [Bool.eq_iff_iff, decide_eq_true_eq, decide_eq_true_eq]; omega
theorem digB_U (c : UInt8) : digB (c.toNat : Int) = digU c := by unfold digB digU; rw [Bool.eq_iff_iff, decide_eq_true_eq, decide_eq_true_eq]; omega
theorem mach_step {l : List UInt8} {i : Nat} {c : UInt8} (p g : Nat) (h : l[i]? = some c) : mach p g (l.drop i) = if c = 45 then (if g = 0 then false else mach (p + 1) 0 (l.drop (i + 1))) else if okc p c = true then (if 8 < g + 1 then false else mach p (g + 1) (l.drop (i + 1))) else false := by
  have hj := (List.getElem?_eq_some_iff.1 h).1
  rw [List.drop_eq_getElem_cons hj, (List.getElem?_eq_some_iff.1 h).2]
  rfl
/-- The loop's relation. -/
def RlI (l : List UInt8) (N : Nat) (r : Bool) (w : World) (gk : Nat) (s3 s4 s5 : Value) (wr : World) : Prop :=
  ∃ i p g : Nat, i + gk = N ∧ s5 = .int .i64 i ∧ s4 = .int .i64 g ∧ s3 = .int .i64 p ∧ g ≤ 8 ∧ p ≤ i ∧ Hid (r = mach p g (l.drop i)) ∧ w = wr
set_option maxHeartbeats 8000000 in
set_option maxRecDepth 100000 in
theorem rlang_in (s : ByteArray) (h1 : 1 ≤ s.size) (h2 : s.size ≤ 40) (w : World) : Calls Tryz.prog 57 #[.string s] w fun e w' => e = .returned (.bool (mach 0 0 s.data.toList)) ∧ w = w' := by
  have k1 : ¬ (s.size : Int) < 1 := by omega
  have k2 : ¬ (40 : Int) < (s.size : Int) := by omega
  have hl : s.data.toList.length = s.size := by rw [Array.length_toList]; rfl
  have HL := Lib.hid hl
  obtain ⟨r, hr⟩ : ∃ r, r = mach 0 0 s.data.toList := ⟨_, rfl⟩
  have HR := Lib.hid hr
  rw [← hr]
  clear hl hr
  go_enter Tryz.func57, Tryz.ntmps57
  go_wp2
  go_loopg [3, 4, 5] s.size (fun g s3 s4 s5 wr => RlI s.data.toList s.size r w g s3 s4 s5 wr)
  case atStart => exact ⟨0, 0, 0, by omega, rfl, rfl, rfl, by omega, by omega, HR, rfl⟩
  case round =>
    obtain ⟨i, p, g, hig, rfl, rfl, rfl, hg8, hpi, HM, rfl⟩ := hrel
    cases gk with
    | zero =>
      have hi : i = s.size := by omega
      have HE : Hid (r = decide (0 < g)) := Lib.hid (by rw [HM.out, List.drop_eq_nil_of_le (by rw [HL.out]; omega)]; rfl)
      have hn : ¬ (i : Int) < (s.size : Int) := by omega
      clear hi
      go_wp2
      go_ret
      exact ⟨ret_bT HE.out.symm, rfl⟩
    | succ gk =>
      have hi : i < s.size := by omega
      obtain ⟨c, hc⟩ : ∃ c, s.data.toList[i]? = some c := ⟨_, List.getElem?_eq_getElem (by rw [HL.out]; exact hi)⟩
      have hcg : (s[i]'hi).toNat = c.toNat := by
        have := (List.getElem?_eq_some_iff.1 hc).2
        rw [← this]; rfl
      have hst := mach_step p g hc
      have hsg : r = mach p g (s.data.toList.drop i) := HM.out
      rw [hst] at hsg
      have hw1 : IntKind.i64.wrap ((g : Int) + 1) = (g : Int) + 1 := IntWalk.i64_in _ (by omega)
      have hp64 : (p : Int) ≤ 40 := by omega
      have hm : gk < gk + 1 := Nat.lt_succ_self gk
      have hk1 : i + 1 + gk = s.size := by omega
      have HK := Lib.hid hk1
      have HP := Lib.hid hpi
      have HG8 := Lib.hid hg8
      have cL := rletter_any (c.toNat : Int)
      have cD := rdigit_any (c.toNat : Int)
      rw [letB_U] at cL
      rw [digB_U] at cD
      have ek : ((p : Int) == 0) = (p == 0) := by rw [Bool.eq_iff_iff, beq_iff_eq, beq_iff_eq]; omega
      have hokc : okc p c = (letU c || (!((p : Int) == 0) && digU c)) := by rw [ek]; rfl
      by_cases h45 : c = 45
      · have e45 : ((c.toNat : Int) == 45) = true := by rw [h45]; rfl
        rw [if_pos h45] at hsg
        obtain ⟨n, hn⟩ : ∃ n, n = c.toNat := ⟨_, rfl⟩
        rw [← hn] at hcg e45 cL cD
        clear hc hst hig hk1 hn hokc h45
        by_cases g0 : g = 0
        · have eg : ((g : Int) == 0) = true := by rw [beq_iff_eq]; omega
          rw [if_pos g0] at hsg
          have HE := Lib.hid hsg
          clear hsg g0 hpi hg8 ek
          go_wp2
          (try rw [Exit.noGoto_ret])
          go_ret
          exact ⟨ret_bT HE.out.symm, rfl⟩
        · have eg : ((g : Int) == 0) = false := by rw [beq_eq_false_iff_ne]; omega
          rw [if_neg g0] at hsg
          have HE := Lib.hid hsg
          clear hsg g0 hpi hg8 ek
          go_wp2
          go_roundg gk
          case measure => exact hm
          case rel => exact ⟨i + 1, p + 1, 0, HK.out, by go_num, rfl, by go_num, by omega, by have := HP.out; omega, HE, rfl⟩
      · have e45 : ((c.toNat : Int) == 45) = false := by
          rw [beq_eq_false_iff_ne]
          intro e
          apply h45
          apply UInt8.toNat_inj.1
          show c.toNat = 45
          omega
        rw [if_neg h45] at hsg
        have ways : (letU c = true ∧ okc p c = true) ∨ (letU c = false ∧ ((((p : Int) == 0) = true ∧ okc p c = false) ∨ (((p : Int) == 0) = false ∧ ((digU c = true ∧ okc p c = true) ∨ (digU c = false ∧ okc p c = false))))) := by
          rw [hokc]
          cases letU c <;> cases digU c <;> cases ((p : Int) == 0) <;> simp
        obtain ⟨n, hn⟩ : ∃ n, n = c.toNat := ⟨_, rfl⟩
        rw [← hn] at hcg e45 cL cD
        have hbig : okc p c = true → (8 < g + 1 ∧ r = false) ∨ (¬ 8 < g + 1 ∧ r = mach p (g + 1) (s.data.toList.drop (i + 1))) := fun ho => by
          rw [if_pos ho] at hsg
          by_cases h8 : 8 < g + 1
          · rw [if_pos h8] at hsg; exact .inl ⟨h8, hsg⟩
          · rw [if_neg h8] at hsg; exact .inr ⟨h8, hsg⟩
        have hbad : okc p c = false → r = false := fun ho => by
          rw [if_neg (by rw [ho]; decide)] at hsg; exact hsg
        have HBIG := Lib.hid hbig
        have HBAD := Lib.hid hbad
        clear hc hst hig hk1 hn hokc h45 hsg hbig hbad ek hpi
        rcases ways with ⟨a1, ho⟩ | ⟨a1, ⟨a2, ho⟩ | ⟨a2, ⟨a3, ho⟩ | ⟨a3, ho⟩⟩⟩
        · rw [a1] at cL
          rcases HBIG.out ho with ⟨h8, hr⟩ | ⟨h8, hr⟩
          · have k8 : (8 : Int) < (g : Int) + 1 := by omega
            have HE := Lib.hid hr
            clear ho h8 hr HBIG HBAD hg8
            go_wp2_with (go_at_call 86; (with_reducible refine (cL _).mono ?_); rintro e w' ⟨rfl, rfl⟩)
            (try rw [Exit.noGoto_ret])
            go_ret
            exact ⟨ret_bT HE.out.symm, rfl⟩
          · have k8 : ¬ (8 : Int) < (g : Int) + 1 := by omega
            have HE := Lib.hid hr
            clear ho hr HBIG HBAD hg8
            go_wp2_with (go_at_call 86; (with_reducible refine (cL _).mono ?_); rintro e w' ⟨rfl, rfl⟩)
            go_roundg gk
            case measure => exact hm
            case rel => exact ⟨i + 1, p, g + 1, HK.out, by go_num, by go_num, rfl, by omega, by have := HP.out; omega, HE, rfl⟩
        · rw [a1] at cL
          have HE := Lib.hid (HBAD.out ho)
          clear ho HBIG HBAD hg8
          go_wp2_with (go_at_call 86; (with_reducible refine (cL _).mono ?_); rintro e w' ⟨rfl, rfl⟩)
          (try rw [Exit.noGoto_ret])
          go_ret
          exact ⟨ret_bT HE.out.symm, rfl⟩
        · rw [a1] at cL
          rw [a3] at cD
          rcases HBIG.out ho with ⟨h8, hr⟩ | ⟨h8, hr⟩
          · have k8 : (8 : Int) < (g : Int) + 1 := by omega
            have HE := Lib.hid hr
            clear ho h8 hr HBIG HBAD hg8
            go_wp2_with (first
              | (go_at_call 86; (with_reducible refine (cL _).mono ?_); rintro e w' ⟨rfl, rfl⟩)
              | (go_at_call 87; (with_reducible refine (cD _).mono ?_); rintro e w' ⟨rfl, rfl⟩))
            (try rw [Exit.noGoto_ret])
            go_ret
            exact ⟨ret_bT HE.out.symm, rfl⟩
          · have k8 : ¬ (8 : Int) < (g : Int) + 1 := by omega
            have HE := Lib.hid hr
            clear ho hr HBIG HBAD hg8
            go_wp2_with (first
              | (go_at_call 86; (with_reducible refine (cL _).mono ?_); rintro e w' ⟨rfl, rfl⟩)
              | (go_at_call 87; (with_reducible refine (cD _).mono ?_); rintro e w' ⟨rfl, rfl⟩))
            go_roundg gk
            case measure => exact hm
            case rel => exact ⟨i + 1, p, g + 1, HK.out, by go_num, by go_num, rfl, by omega, by have := HP.out; omega, HE, rfl⟩
        · rw [a1] at cL
          rw [a3] at cD
          have HE := Lib.hid (HBAD.out ho)
          clear ho HBIG HBAD hg8
          go_wp2_with (first
            | (go_at_call 86; (with_reducible refine (cL _).mono ?_); rintro e w' ⟨rfl, rfl⟩)
            | (go_at_call 87; (with_reducible refine (cD _).mono ?_); rintro e w' ⟨rfl, rfl⟩))
          (try rw [Exit.noGoto_ret])
          go_ret
          exact ⟨ret_bT HE.out.symm, rfl⟩
theorem rlang_any (s : ByteArray) (w : World) : Calls Tryz.prog 57 #[.string s] w fun e w' => e = .returned (.bool (langB s)) ∧ w = w' := by
  by_cases h1 : 1 ≤ s.size
  · by_cases h2 : s.size ≤ 40
    · have := rlang_in s h1 h2 w
      unfold langB
      rw [decide_eq_true h2]
      exact this
    · have HE : Hid (langB s = false) := Lib.hid (by unfold langB; rw [decide_eq_false h2]; rfl)
      have k1 : ¬ (s.size : Int) < 1 := by omega
      have k2 : (40 : Int) < (s.size : Int) := by omega
      clear h1 h2
      go_enter Tryz.func57, Tryz.ntmps57
      go_wp2
      go_ret
      exact ⟨ret_bT HE.out.symm, rfl⟩
  · have HE : Hid (langB s = false) := Lib.hid (by
      unfold langB
      have : s.data.toList = [] := List.length_eq_zero_iff.1 (by rw [Array.length_toList]; have : s.size = s.data.size := rfl; omega)
      rw [this]; simp [mach])
    have k1 : (s.size : Int) < 1 := by omega
    clear h1
    go_enter Tryz.func57, Tryz.ntmps57
    go_wp2
    go_ret
    exact ⟨ret_bT HE.out.symm, rfl⟩
def labelG (s : ByteArray) : Bool := labG 0 s.data.toList && decide (1 ≤ s.size ∧ s.size ≤ 100)
theorem rlabel_any (s : ByteArray) (w : World) : Calls Tryz.prog 55 #[.string s] w fun e w' => e = .returned (.bool (labelG s)) ∧ w = w' := by
  by_cases h1 : 1 ≤ s.size
  · by_cases h2 : s.size ≤ 100
    · have := rlabel_loop s h1 h2 w
      unfold labelG
      rw [decide_eq_true ⟨h1, h2⟩, Bool.and_true]
      exact this
    · have HE : Hid (labelG s = false) := Lib.hid (by unfold labelG; rw [decide_eq_false (by omega), Bool.and_false])
      have k1 : ¬ (s.size : Int) < 1 := by omega
      have k2 : (100 : Int) < (s.size : Int) := by omega
      clear h1 h2
      go_enter Tryz.func55, Tryz.ntmps55
      go_wp2
      go_ret
      exact ⟨ret_bT HE.out.symm, rfl⟩
  · have HE : Hid (labelG s = false) := Lib.hid (by unfold labelG; rw [decide_eq_false (by omega), Bool.and_false])
    have k1 : (s.size : Int) < 1 := by omega
    clear h1
    go_enter Tryz.func55, Tryz.ntmps55
    go_wp2
    go_ret
    exact ⟨ret_bT HE.out.symm, rfl⟩
end Go.Proofs.YtpnfjjgihkmjmaaGreatDoor

/-
  THE DOCUMENT's 'iri': whether a text is an IRI's.
-/
namespace Go.Proofs.YtpnfjjgihkmjmaaGreatDoor
open Go.RowKit
set_option linter.unusedVariables false

theorem ints_openT {B : Nat} {w : World} {v : Value} {l : List Int} (h : Ints B w v l) : ∃ ao cap, v = .slice ao l.length cap ∧
    (0 < l.length → ∃ g, ao = some ⟨g, 0, none⟩ ∧ g < w.heap.size ∧ ∀ (j : Nat) (x : Int), l[j]? = some x → w.cell? ⟨g, j, none⟩ = some (.int .i64 x)) := by
  rcases id h.2 with ⟨hv, h0⟩ | ⟨g, cap, cur, hv, _⟩
  · exact ⟨none, 0, by rw [hv, h0], fun hp => by omega⟩
  · refine ⟨_, cap, hv, fun _ => ⟨g, rfl, (World.ownsRow.lt h g (by rw [hv]; rfl)).2, ?_⟩⟩
    intro j x hx
    subst hv
    have := World.ownsRow.cells h (g := g) rfl j (.int .i64 x) (by simp [intRow, hx])
    rw [show (⟨g, 0, none⟩ : Addr).add j = ⟨g, j, none⟩ by by_cases h : j = 0 <;> simp [Addr.add, h]] at this
    exact this
/-- Where the first colon is, or -1. -/
def colI (l : List Int) : Int := if 58 ∈ l then (l.idxOf 58 : Int) else -1
theorem colI_snoc (l : List Int) (n : Int) : colI (l ++ [n]) = if n = 58 ∧ colI l < 0 then (l.length : Int) else colI l := by
  unfold colI
  by_cases h : 58 ∈ l
  · have h1 : 58 ∈ l ++ [n] := List.mem_append_left _ h
    rw [if_pos h1, if_pos h, List.idxOf_append, if_pos h, if_neg (by omega)]
  · rw [if_neg h]
    by_cases hn : n = 58
    · subst hn
      have h1 : (58 : Int) ∈ l ++ [58] := by simp
      rw [if_pos h1, List.idxOf_append, if_neg h, if_pos ⟨rfl, by omega⟩]
      simp
    · have h1 : (58 : Int) ∉ l ++ [n] := by simp [h, Ne.symm hn]
      rw [if_neg h1, if_neg (fun e => hn e.1)]
theorem colI_pos (l : List Int) : decide (0 < colI l) = colonB l := by
  unfold colI colonB
  match l with
  | [] => decide
  | n :: l =>
    by_cases hn : n = 58
    · subst hn; simp
    · by_cases h : 58 ∈ l
      · have e : (n :: l).idxOf 58 = l.idxOf 58 + 1 := by rw [List.idxOf_cons, beq_eq_false_iff_ne.2 hn]; rfl
        have m : 58 ∈ n :: l := List.mem_cons_of_mem _ h
        rw [if_pos m, e, decide_eq_true (show (0 : Int) < ((l.idxOf 58 + 1 : Nat) : Int) by omega), decide_eq_true ⟨m, by simp [hn]⟩]
      · have m : ¬ 58 ∈ n :: l := by simp [h, Ne.symm hn]
        rw [if_neg m, decide_eq_false (by omega), decide_eq_false (fun e => m e.1)]
def badN (n k : Int) : Prop := (1 ≤ k → n ≠ 60) ∧ (2 ≤ k → n ≠ 62) ∧ (3 ≤ k → n ≠ 34) ∧ (4 ≤ k → n ≠ 123) ∧ (5 ≤ k → n ≠ 125) ∧ (6 ≤ k → n ≠ 124) ∧ (7 ≤ k → n ≠ 94) ∧ (8 ≤ k → n ≠ 96) ∧ (9 ≤ k → n ≠ 92)
theorem badN_zero (n : Int) : badN n 0 := by unfold badN; refine ⟨?_, ?_, ?_, ?_, ?_, ?_, ?_, ?_, ?_⟩ <;> (intro h; omega)
theorem badN_nine (n : Int) (h : badN n 9) : ¬ (n = 60 ∨ n = 62 ∨ n = 34 ∨ n = 123 ∨ n = 125 ∨ n = 124 ∨ n = 94 ∨ n = 96 ∨ n = 92) := by
  unfold badN at h
  rintro (rfl | rfl | rfl | rfl | rfl | rfl | rfl | rfl | rfl)
  · exact h.1 (by decide) rfl
  · exact h.2.1 (by decide) rfl
  · exact h.2.2.1 (by decide) rfl
  · exact h.2.2.2.1 (by decide) rfl
  · exact h.2.2.2.2.1 (by decide) rfl
  · exact h.2.2.2.2.2.1 (by decide) rfl
  · exact h.2.2.2.2.2.2.1 (by decide) rfl
  · exact h.2.2.2.2.2.2.2.1 (by decide) rfl
  · exact h.2.2.2.2.2.2.2.2 (by decide) rfl
theorem badN_step {n : Int} (j : Nat) (h : badN n j) (hj : j < 9) (hn : n ≠ [60, 62, 34, 123, 125, 124, 94, 96, 92].getD j 0) : badN n (j + 1) := by
  unfold badN at *
  obtain ⟨h1, h2, h3, h4, h5, h6, h7, h8, h9⟩ := h
  obtain rfl | rfl | rfl | rfl | rfl | rfl | rfl | rfl | rfl : j = 0 ∨ j = 1 ∨ j = 2 ∨ j = 3 ∨ j = 4 ∨ j = 5 ∨ j = 6 ∨ j = 7 ∨ j = 8 := by omega
  all_goals
    simp at hn
    refine ⟨?_, ?_, ?_, ?_, ?_, ?_, ?_, ?_, ?_⟩ <;> (intro hk; first | exact hn | (first | exact h1 (by omega) | exact h2 (by omega) | exact h3 (by omega) | exact h4 (by omega) | exact h5 (by omega) | exact h6 (by omega) | exact h7 (by omega) | exact h8 (by omega) | exact h9 (by omega)) | (exfalso; omega))
/-- The world in the loops. -/
def Rw (w : World) (gI : Nat) (sl : List Int) (wr : World) : Prop := Below w.heap.size w wr ∧ ∀ (j : Nat) (x : Int), sl[j]? = some x → wr.cell? ⟨gI, j, none⟩ = some (.int .i64 x)
theorem Rw.drewN {w : World} {gI : Nat} {sl : List Int} {wr : World} (h : Rw w gI sl wr) (n : Nat) : Rw w gI sl (wr.drewN n) := ⟨⟨h.1.os, h.1.tape, h.1.output, h.1.size, h.1.block⟩, h.2⟩
def RiI (w : World) (gI : Nat) (sl : List Int) (g : Nat) (s5 s24 : Value) (wr : World) : Prop :=
  ∃ k : Nat, k + g = sl.length ∧ s24 = .int .i64 k ∧ s5 = .int .i64 (colI (sl.take k)) ∧ (sl.take k).all okS = true ∧ Rw w gI sl wr
def RiJ (w : World) (gI : Nat) (sl : List Int) (n : Int) (g : Nat) (s9 : Value) (wr : World) : Prop :=
  ∃ j : Nat, j + g = 9 ∧ s9 = .int .i64 j ∧ badN n j ∧ Rw w gI sl wr
theorem below_dq {B : Nat} {a w : World} (h : Below B a w) (n : Nat) : Below B a (w.drewN n) := ⟨h.os, h.tape, h.output, h.size, h.block⟩
theorem okS_no {n : Int} (h : (n = 60 ∨ n = 62 ∨ n = 34 ∨ n = 123 ∨ n = 125 ∨ n = 124 ∨ n = 94 ∨ n = 96 ∨ n = 92) ∨ cls n = 0 ∨ cls n = 4) : okS n = false := by
  unfold okS
  rw [decide_eq_false_iff_not]
  rintro ⟨a, b, c⟩
  rcases h with h | h | h
  · exact a h
  · exact b h
  · exact c h
theorem all_no {sl : List Int} {k : Nat} {n : Int} (hn : sl[k]? = some n) (h : okS n = false) : sl.all okS = false := by
  rw [List.all_eq_false]
  exact ⟨n, List.mem_of_getElem? hn, by rw [h]; decide⟩
theorem take_all {sl : List Int} {k : Nat} {n : Int} (hn : sl[k]? = some n) (h : okS n = true) (ha : (sl.take k).all okS = true) : (sl.take (k + 1)).all okS = true := by
  rw [List.take_add_one, hn, List.all_append, ha]
  simp [h]
theorem take_col {sl : List Int} {k : Nat} {n : Int} (hn : sl[k]? = some n) : colI (sl.take (k + 1)) = if n = 58 ∧ colI (sl.take k) < 0 then (k : Int) else colI (sl.take k) := by
  have hk := (List.getElem?_eq_some_iff.1 hn).1
  rw [List.take_add_one, hn]
  have := colI_snoc (sl.take k) n
  rw [List.length_take, Nat.min_eq_left (by omega)] at this
  exact this
theorem riri_no (s : ByteArray) (sl : List Int) (rest : List UInt8) (hp : Parts s.data.toList sl rest) (hs : s.size ≤ 4294967296) (h : rest ≠ [] ∨ 4096 < s.size) (w : World) :
    Calls Tryz.prog 56 #[.string s] w fun e w' => e = .returned (.bool false) ∧ Below w.heap.size w w' := by
  have sA : ∀ W, Calls Tryz.prog 14 #[.string s] W (SignsPost W sl (decide (rest = []))) := fun W => signs_any s sl rest hp hs W
  by_cases hr : rest = []
  · have hz : (4096 : Int) < (s.size : Int) := by
      rcases h with h | h
      · exact absurd hr h
      · omega
    rw [decide_eq_true hr] at sA
    clear h hr hp
    go_enter Tryz.func56, Tryz.ntmps56
    go_wp2_with (go_at_call 14; (with_reducible refine (sA _).mono ?_); rintro e w2 ⟨vI, rfl, hI2, hb2⟩)
    go_ret
    exact ⟨rfl, hb2⟩
  · rw [decide_eq_false hr] at sA
    clear h hr hp
    go_enter Tryz.func56, Tryz.ntmps56
    go_wp2_with (go_at_call 14; (with_reducible refine (sA _).mono ?_); rintro e w2 ⟨vI, rfl, hI2, hb2⟩)
    go_ret
    exact ⟨rfl, hb2⟩
set_option maxHeartbeats 8000000 in
set_option maxRecDepth 100000 in
theorem riri_yes (s : ByteArray) (sl : List Int) (hp : Parts s.data.toList sl []) (hs : s.size ≤ 4096) (w : World) :
    Calls Tryz.prog 56 #[.string s] w fun e w' => e = .returned (.bool (colonB sl && sl.all okS)) ∧ Below w.heap.size w w' := by
  have sA : ∀ W, Calls Tryz.prog 14 #[.string s] W (SignsPost W sl true) := fun W => by
    have := signs_any s sl [] hp (by omega) W
    exact this
  have hz : ¬ (4096 : Int) < (s.size : Int) := by omega
  have hlen : sl.length ≤ 4096 := by have := (encL_len sl).1; have := len_of s _ hp.eq; simp at this; omega
  clear hp hs
  by_cases hl0 : sl = []
  · subst hl0
    go_enter Tryz.func56, Tryz.ntmps56
    go_wp2_with (go_at_call 14; (with_reducible refine (sA _).mono ?_); rintro e w2 ⟨vI, rfl, hI2, hb2⟩; obtain ⟨ao, capI, rfl, _⟩ := ints_openT hI2)
    clear hI2
    go_loopg [5, 24] 0 (fun g s5 s24 wr => g = 0 ∧ s24 = .int .i64 0 ∧ s5 = .int .i64 (-1) ∧ w2 = wr)
    case atStart => exact ⟨rfl, rfl, rfl, rfl⟩
    case round =>
      obtain ⟨rfl, rfl, rfl, rfl⟩ := hrel
      go_wp2
      go_ret
      exact ⟨rfl, hb2⟩
  · have hpos : 0 < sl.length := List.length_pos_iff.2 hl0
    have HR : Hid (decide (0 < colI sl) = colonB sl) := Lib.hid (colI_pos sl)
    clear hl0
    go_enter Tryz.func56, Tryz.ntmps56
    go_wp2_with (go_at_call 14; (with_reducible refine (sA _).mono ?_); rintro e w2 ⟨vI, rfl, hI2, hb2⟩; obtain ⟨ao, capI, rfl, hcI⟩ := ints_openT hI2; obtain ⟨gI, rfl, hgI, hcI⟩ := hcI hpos)
    have hR0 : Rw w gI sl w2 := ⟨hb2, hcI⟩
    clear hI2 hb2 hcI hgI
    go_loopg [5, 24] sl.length (fun g s5 s24 wr => RiI w gI sl g s5 s24 wr)
    case atStart => exact ⟨0, by omega, rfl, rfl, by simp, hR0⟩
    case round =>
      clear hR0
      obtain ⟨k, hkg, rfl, rfl, hall, hRw⟩ := hrel
      cases gk with
      | zero =>
        have hk : k = sl.length := by omega
        subst hk
        rw [List.take_length] at hall
        obtain ⟨z, hzz⟩ : ∃ z, z = colI (sl.take sl.length) := ⟨_, rfl⟩
        have HZ : Hid (decide (0 < z) = (colonB sl && sl.all okS)) := Lib.hid (by rw [hzz, List.take_length, HR.out, hall, Bool.and_true])
        have HB := Lib.hid hRw.1
        rw [← hzz]
        clear hall hRw hkg hzz
        go_wp2
        go_ret
        exact ⟨ret_bool (by rw [← HZ.out]), HB.out⟩
      | succ g =>
        have hk : k < sl.length := by omega
        obtain ⟨n, hn⟩ : ∃ n, sl[k]? = some n := ⟨_, List.getElem?_eq_getElem hk⟩
        have hcx := hRw.2 k n hn
        have cC := refClass_any n
        have k1 : (0 : Int) ≤ (k : Int) := by omega
        have k2 : (k : Int) < (sl.length : Int) := by omega
        have HN := Lib.hid hn
        have HALL := Lib.hid hall
        have HRW := Lib.hid hRw
        obtain ⟨q, hq⟩ : ∃ q, q = cls n := ⟨_, rfl⟩
        rw [← hq] at cC
        obtain ⟨z, hzz⟩ : ∃ z, z = colI (sl.take k) := ⟨_, rfl⟩
        have HZ := Lib.hid hzz
        have HQ := Lib.hid hq
        rw [← hzz]
        clear hn hall hRw hq hzz
        by_cases q04 : q = 0 ∨ q = 4
        · have HF : Hid (sl.all okS = false) := Lib.hid (all_no HN.out (okS_no (by rw [← HQ.out]; exact .inr q04)))
          rcases q04 with rfl | rfl
          all_goals
            go_wp2_with (go_at_call 88; (with_reducible refine (cC _).mono ?_); rintro e w' ⟨rfl, rfl⟩)
            (try rw [Exit.noGoto_ret])
            go_ret
            exact ⟨ret_bool (by rw [HF.out, Bool.and_false]), HRW.out.1⟩
        · have q0 : (q == 0) = false := by rw [beq_eq_false_iff_ne]; omega
          have q4 : (q == 4) = false := by rw [beq_eq_false_iff_ne]; omega
          have HQ4 := Lib.hid q04
          clear q04
          go_wp2_with (go_at_call 88; (with_reducible refine (cC _).mono ?_); rintro e w' ⟨rfl, rfl⟩)
          clear hcx
          go_loopg [9] 9 (fun g s9 wx => RiJ w gI sl n g s9 wx)
          case atStart => exact ⟨0, rfl, rfl, badN_zero n, HRW.out⟩
          case round =>
            obtain ⟨j, hjg, rfl, hb, hRx⟩ := hrel
            have hcx := hRx.2 k n HN.out
            have HRX := Lib.hid hRx
            clear hRx
            obtain rfl | rfl | rfl | rfl | rfl | rfl | rfl | rfl | rfl | rfl : j = 0 ∨ j = 1 ∨ j = 2 ∨ j = 3 ∨ j = 4 ∨ j = 5 ∨ j = 6 ∨ j = 7 ∨ j = 8 ∨ j = 9 := by omega
            · have ej : (((⟨#[60, 62, 34, 123, 125, 124, 94, 96, 92]⟩ : ByteArray)[0]'(by decide)).toNat) = 60 := rfl
              by_cases hx : n = 60
              · have hxb : (n == 60) = true := by rw [beq_iff_eq]; exact hx
                have HF : Hid (sl.all okS = false) := Lib.hid (all_no HN.out (okS_no (by rw [hx]; decide)))
                clear hx hb hjg
                go_wp2
                go_quiet (fail)
                go_wp2
                (try rw [Exit.noGoto_ret])
                go_ret
                exact ⟨ret_bool (by rw [HF.out, Bool.and_false]), below_dq HRX.out.1 _⟩
              · have hxb : (n == 60) = false := by rw [beq_eq_false_iff_ne]; exact hx
                have hm : 8 < gk := by omega
                have HS : Hid (badN n ((0 : Nat) + 1 : Int)) := Lib.hid (badN_step 0 hb (by omega) hx)
                clear hx hb hjg
                go_wp2
                go_quiet (fail)
                go_wp2
                go_roundg 8
                case measure => exact hm
                case rel => exact ⟨1, rfl, rfl, HS.out, HRX.out.drewN _⟩
            · have ej : (((⟨#[60, 62, 34, 123, 125, 124, 94, 96, 92]⟩ : ByteArray)[1]'(by decide)).toNat) = 62 := rfl
              by_cases hx : n = 62
              · have hxb : (n == 62) = true := by rw [beq_iff_eq]; exact hx
                have HF : Hid (sl.all okS = false) := Lib.hid (all_no HN.out (okS_no (by rw [hx]; decide)))
                clear hx hb hjg
                go_wp2
                go_quiet (fail)
                go_wp2
                (try rw [Exit.noGoto_ret])
                go_ret
                exact ⟨ret_bool (by rw [HF.out, Bool.and_false]), below_dq HRX.out.1 _⟩
              · have hxb : (n == 62) = false := by rw [beq_eq_false_iff_ne]; exact hx
                have hm : 7 < gk := by omega
                have HS : Hid (badN n ((1 : Nat) + 1 : Int)) := Lib.hid (badN_step 1 hb (by omega) hx)
                clear hx hb hjg
                go_wp2
                go_quiet (fail)
                go_wp2
                go_roundg 7
                case measure => exact hm
                case rel => exact ⟨2, rfl, rfl, HS.out, HRX.out.drewN _⟩
            · have ej : (((⟨#[60, 62, 34, 123, 125, 124, 94, 96, 92]⟩ : ByteArray)[2]'(by decide)).toNat) = 34 := rfl
              by_cases hx : n = 34
              · have hxb : (n == 34) = true := by rw [beq_iff_eq]; exact hx
                have HF : Hid (sl.all okS = false) := Lib.hid (all_no HN.out (okS_no (by rw [hx]; decide)))
                clear hx hb hjg
                go_wp2
                go_quiet (fail)
                go_wp2
                (try rw [Exit.noGoto_ret])
                go_ret
                exact ⟨ret_bool (by rw [HF.out, Bool.and_false]), below_dq HRX.out.1 _⟩
              · have hxb : (n == 34) = false := by rw [beq_eq_false_iff_ne]; exact hx
                have hm : 6 < gk := by omega
                have HS : Hid (badN n ((2 : Nat) + 1 : Int)) := Lib.hid (badN_step 2 hb (by omega) hx)
                clear hx hb hjg
                go_wp2
                go_quiet (fail)
                go_wp2
                go_roundg 6
                case measure => exact hm
                case rel => exact ⟨3, rfl, rfl, HS.out, HRX.out.drewN _⟩
            · have ej : (((⟨#[60, 62, 34, 123, 125, 124, 94, 96, 92]⟩ : ByteArray)[3]'(by decide)).toNat) = 123 := rfl
              by_cases hx : n = 123
              · have hxb : (n == 123) = true := by rw [beq_iff_eq]; exact hx
                have HF : Hid (sl.all okS = false) := Lib.hid (all_no HN.out (okS_no (by rw [hx]; decide)))
                clear hx hb hjg
                go_wp2
                go_quiet (fail)
                go_wp2
                (try rw [Exit.noGoto_ret])
                go_ret
                exact ⟨ret_bool (by rw [HF.out, Bool.and_false]), below_dq HRX.out.1 _⟩
              · have hxb : (n == 123) = false := by rw [beq_eq_false_iff_ne]; exact hx
                have hm : 5 < gk := by omega
                have HS : Hid (badN n ((3 : Nat) + 1 : Int)) := Lib.hid (badN_step 3 hb (by omega) hx)
                clear hx hb hjg
                go_wp2
                go_quiet (fail)
                go_wp2
                go_roundg 5
                case measure => exact hm
                case rel => exact ⟨4, rfl, rfl, HS.out, HRX.out.drewN _⟩
            · have ej : (((⟨#[60, 62, 34, 123, 125, 124, 94, 96, 92]⟩ : ByteArray)[4]'(by decide)).toNat) = 125 := rfl
              by_cases hx : n = 125
              · have hxb : (n == 125) = true := by rw [beq_iff_eq]; exact hx
                have HF : Hid (sl.all okS = false) := Lib.hid (all_no HN.out (okS_no (by rw [hx]; decide)))
                clear hx hb hjg
                go_wp2
                go_quiet (fail)
                go_wp2
                (try rw [Exit.noGoto_ret])
                go_ret
                exact ⟨ret_bool (by rw [HF.out, Bool.and_false]), below_dq HRX.out.1 _⟩
              · have hxb : (n == 125) = false := by rw [beq_eq_false_iff_ne]; exact hx
                have hm : 4 < gk := by omega
                have HS : Hid (badN n ((4 : Nat) + 1 : Int)) := Lib.hid (badN_step 4 hb (by omega) hx)
                clear hx hb hjg
                go_wp2
                go_quiet (fail)
                go_wp2
                go_roundg 4
                case measure => exact hm
                case rel => exact ⟨5, rfl, rfl, HS.out, HRX.out.drewN _⟩
            · have ej : (((⟨#[60, 62, 34, 123, 125, 124, 94, 96, 92]⟩ : ByteArray)[5]'(by decide)).toNat) = 124 := rfl
              by_cases hx : n = 124
              · have hxb : (n == 124) = true := by rw [beq_iff_eq]; exact hx
                have HF : Hid (sl.all okS = false) := Lib.hid (all_no HN.out (okS_no (by rw [hx]; decide)))
                clear hx hb hjg
                go_wp2
                go_quiet (fail)
                go_wp2
                (try rw [Exit.noGoto_ret])
                go_ret
                exact ⟨ret_bool (by rw [HF.out, Bool.and_false]), below_dq HRX.out.1 _⟩
              · have hxb : (n == 124) = false := by rw [beq_eq_false_iff_ne]; exact hx
                have hm : 3 < gk := by omega
                have HS : Hid (badN n ((5 : Nat) + 1 : Int)) := Lib.hid (badN_step 5 hb (by omega) hx)
                clear hx hb hjg
                go_wp2
                go_quiet (fail)
                go_wp2
                go_roundg 3
                case measure => exact hm
                case rel => exact ⟨6, rfl, rfl, HS.out, HRX.out.drewN _⟩
            · have ej : (((⟨#[60, 62, 34, 123, 125, 124, 94, 96, 92]⟩ : ByteArray)[6]'(by decide)).toNat) = 94 := rfl
              by_cases hx : n = 94
              · have hxb : (n == 94) = true := by rw [beq_iff_eq]; exact hx
                have HF : Hid (sl.all okS = false) := Lib.hid (all_no HN.out (okS_no (by rw [hx]; decide)))
                clear hx hb hjg
                go_wp2
                go_quiet (fail)
                go_wp2
                (try rw [Exit.noGoto_ret])
                go_ret
                exact ⟨ret_bool (by rw [HF.out, Bool.and_false]), below_dq HRX.out.1 _⟩
              · have hxb : (n == 94) = false := by rw [beq_eq_false_iff_ne]; exact hx
                have hm : 2 < gk := by omega
                have HS : Hid (badN n ((6 : Nat) + 1 : Int)) := Lib.hid (badN_step 6 hb (by omega) hx)
                clear hx hb hjg
                go_wp2
                go_quiet (fail)
                go_wp2
                go_roundg 2
                case measure => exact hm
                case rel => exact ⟨7, rfl, rfl, HS.out, HRX.out.drewN _⟩
            · have ej : (((⟨#[60, 62, 34, 123, 125, 124, 94, 96, 92]⟩ : ByteArray)[7]'(by decide)).toNat) = 96 := rfl
              by_cases hx : n = 96
              · have hxb : (n == 96) = true := by rw [beq_iff_eq]; exact hx
                have HF : Hid (sl.all okS = false) := Lib.hid (all_no HN.out (okS_no (by rw [hx]; decide)))
                clear hx hb hjg
                go_wp2
                go_quiet (fail)
                go_wp2
                (try rw [Exit.noGoto_ret])
                go_ret
                exact ⟨ret_bool (by rw [HF.out, Bool.and_false]), below_dq HRX.out.1 _⟩
              · have hxb : (n == 96) = false := by rw [beq_eq_false_iff_ne]; exact hx
                have hm : 1 < gk := by omega
                have HS : Hid (badN n ((7 : Nat) + 1 : Int)) := Lib.hid (badN_step 7 hb (by omega) hx)
                clear hx hb hjg
                go_wp2
                go_quiet (fail)
                go_wp2
                go_roundg 1
                case measure => exact hm
                case rel => exact ⟨8, rfl, rfl, HS.out, HRX.out.drewN _⟩
            · have ej : (((⟨#[60, 62, 34, 123, 125, 124, 94, 96, 92]⟩ : ByteArray)[8]'(by decide)).toNat) = 92 := rfl
              by_cases hx : n = 92
              · have hxb : (n == 92) = true := by rw [beq_iff_eq]; exact hx
                have HF : Hid (sl.all okS = false) := Lib.hid (all_no HN.out (okS_no (by rw [hx]; decide)))
                clear hx hb hjg
                go_wp2
                go_quiet (fail)
                go_wp2
                (try rw [Exit.noGoto_ret])
                go_ret
                exact ⟨ret_bool (by rw [HF.out, Bool.and_false]), below_dq HRX.out.1 _⟩
              · have hxb : (n == 92) = false := by rw [beq_eq_false_iff_ne]; exact hx
                have hm : 0 < gk := by omega
                have HS : Hid (badN n ((8 : Nat) + 1 : Int)) := Lib.hid (badN_step 8 hb (by omega) hx)
                clear hx hb hjg
                go_wp2
                go_quiet (fail)
                go_wp2
                go_roundg 0
                case measure => exact hm
                case rel => exact ⟨9, rfl, rfl, HS.out, HRX.out.drewN _⟩
            · have HS : Hid (okS n = true) := Lib.hid (by
                unfold okS
                rw [decide_eq_true_eq]
                rw [HQ.out] at HQ4
                have := HQ4.out
                exact ⟨badN_nine n hb, fun e => this (.inl e), fun e => this (.inr e)⟩)
              have HA := Lib.hid (take_all HN.out HS.out HALL.out)
              have HC := Lib.hid (take_col HN.out)
              have hcx' := HRX.out.2 k n HN.out
              have HZ2 := HZ.out
              rw [← HZ2] at HC
              clear HZ2 hb hjg
              by_cases h58 : n = 58 ∧ z < 0
              · have g1 : (n == 58) = true := by rw [beq_iff_eq]; exact h58.1
                have g2 : z < 0 := h58.2
                have HE : Hid (colI (sl.take (k + 1)) = (k : Int)) := Lib.hid (by rw [HC.out, if_pos h58])
                clear h58
                go_wp2
                go_roundg g
                case measure => omega
                case rel => exact ⟨k + 1, by omega, by go_num, by rw [HE.out], HA.out, HRX.out⟩
              · have HE : Hid (colI (sl.take (k + 1)) = z) := Lib.hid (by rw [HC.out, if_neg h58])
                by_cases h5 : n = 58
                · have g1 : (n == 58) = true := by rw [beq_iff_eq]; exact h5
                  have g2 : ¬ z < 0 := fun e => h58 ⟨h5, e⟩
                  clear h58 h5
                  go_wp2
                  go_roundg g
                  case measure => omega
                  case rel => exact ⟨k + 1, by omega, by go_num, by rw [HE.out], HA.out, HRX.out⟩
                · have g1 : (n == 58) = false := by rw [beq_eq_false_iff_ne]; exact h5
                  clear h58 h5
                  go_wp2
                  go_roundg g
                  case measure => omega
                  case rel => exact ⟨k + 1, by omega, by go_num, by rw [HE.out], HA.out, HRX.out⟩
end Go.Proofs.YtpnfjjgihkmjmaaGreatDoor

/-
  THE ORDER OF TEXTS, three by three.
-/
namespace Go.Proofs.YtpnfjjgihkmjmaaGreatDoor
open Go.RowKit
set_option linter.unusedVariables false

/-- The first that is not alike tells the order. -/
def ord3 (a b c a' b' c' : ByteArray) : Int := orT (ordS a a') (orT (ordS b b') (ordS c c'))
theorem orT_no {x y : Int} (h : x ≠ 0) : orT x y = x := if_neg h
theorem orT_yes {x y : Int} (h : x = 0) : orT x y = y := if_pos h
end Go.Proofs.YtpnfjjgihkmjmaaGreatDoor

/-
  WHETHER TWO TERMS ARE THE SAME; how they are in the order.
-/
namespace Go.Proofs.YtpnfjjgihkmjmaaGreatDoor
open Go.RowKit
set_option linter.unusedVariables false

/-- The world behind the first of two, its fields at hand. -/
def Sx (w : World) (g : Nat) (k : Int) (a b c : ByteArray) (W : World) : Prop := Below w.heap.size w W ∧ Fb W g 116 #[.int .i64 k, .string a, .string b, .string c]
theorem Sx.drew {w : World} {g : Nat} {k : Int} {a b c : ByteArray} {W : World} (h : Sx w g k a b c W) : Sx w g k a b c W.drew := ⟨Below.drew h.1, h.2⟩
theorem Sx.below {w : World} {g : Nat} {k : Int} {a b c : ByteArray} {W W' : World} (h : Sx w g k a b c W) (hb : Below W.heap.size W W') : Sx w g k a b c W' := ⟨h.1.trans (hb.mono h.1.size), h.2.below hb⟩
theorem Sx.all {w : World} {g : Nat} {k : Int} {a b c : ByteArray} {W : World} (h : Sx w g k a b c W) :
    W.cell? ⟨g, 0, none⟩ = some (.int .i64 k) ∧ W.cell? ⟨g, 1, none⟩ = some (.string a) ∧ W.cell? ⟨g, 2, none⟩ = some (.string b) ∧ W.cell? ⟨g, 3, none⟩ = some (.string c) ∧ Sx w g k a b c W :=
  ⟨h.2.cell 0, h.2.cell 1, h.2.cell 2, h.2.cell 3, h⟩
theorem Sx.mk {w w1 : World} (hb : Below w.heap.size w w1) (k : Int) (a b c : ByteArray) : Sx w w1.heap.size k a b c (w1.alloc (.cells #[.int .i64 k, .string a, .string b, .string c] 116)) := ⟨hb.alloc hb.size _, Fb.new _ _ _⟩
/-- The same term? -/
def same4 (k : Int) (a b c : ByteArray) (k' : Int) (a' b' c' : ByteArray) : Bool := (k != 3) && ((k == k') && ((a.toList == a'.toList) && ((b.toList == b'.toList) && (c.toList == c'.toList))))
def sameB (x y : Tm) : Bool := same4 x.kind x.ta x.tb x.tc y.kind y.ta y.tb y.tc
theorem infoStr : ∃ i, Tryz.prog.info? 9 = some i := Option.isSome_iff_exists.1 (by kernel_rfl)
theorem eqArr (a b c a' b' c' : ByteArray) (w : World) : (Op.equalIn 9999 114 (.agg #[.string a, .string b, .string c]) (.agg #[.string a', .string b', .string c'])).run Tryz.prog w =
    .ok ((a.toList == a'.toList) && ((b.toList == b'.toList) && (c.toList == c'.toList))) w := by
  obtain ⟨i, hi⟩ := infoStr
  have hs : Tryz.prog.cellsOf 9 = 1 := by kernel_rfl
  have hu : Tryz.prog.underlying 114 = some (.array 3 9) := by kernel_rfl
  rw [run_equalIn_array (w := w) 9998 _ _ hu hi, hs]
  simp only [show List.range 3 = [0, 1, 2] by decide, Op.eqItems]
  go_simp
  by_cases h1 : a.toList = a'.toList <;> by_cases h2 : b.toList = b'.toList <;> by_cases h3 : c.toList = c'.toList <;> simp [h1, h2, h3]
theorem eql4 (k : Int) (a b c : ByteArray) (k' : Int) (a' b' c' : ByteArray) (w : World) :
    (binOp .eql 116 (F4 k a b c) (F4 k' a' b' c')).run Tryz.prog w = .ok (.bool ((k == k') && ((a.toList == a'.toList) && ((b.toList == b'.toList) && (c.toList == c'.toList))))) w := by
  have hA := eqArr a b c a' b' c'
  go_simp
  by_cases hk : k = k'
  · rw [if_pos hk]
    by_cases h1 : a.toList = a'.toList <;> by_cases h2 : b.toList = b'.toList <;> by_cases h3 : c.toList = c'.toList <;> simp [hk, h1, h2, h3]
  · rw [if_neg hk]
    simp [hk]
/-- The fields of a term. -/
theorem fieldsOf_b (t : Tm) (g : Nat) (k : Int) (a b c : ByteArray) (w W : World) (hS : Sx w g k a b c W) :
    Calls Tryz.prog 58 #[t.val] W fun e w' => e = .returned (F4 t.kind t.ta t.tb t.tc) ∧ Sx w g k a b c w' := (fieldsOf_any t W).mono fun _ _ ⟨p, q⟩ => ⟨p, hS.below q⟩
set_option maxRecDepth 100000 in
set_option maxHeartbeats 4000000 in
theorem same_any (x y : Tm) (w : World) : Calls Tryz.prog 32 #[x.val, y.val] w fun e w' => e = .returned (.bool (sameB x y)) ∧ Below w.heap.size w w' := by
  have cx := fieldsOf_any x
  have cy := fieldsOf_b y
  have hE := eql4
  unfold sameB
  obtain ⟨r, hr⟩ : ∃ r, r = same4 x.kind x.ta x.tb x.tc y.kind y.ta y.tb y.tc := ⟨_, rfl⟩
  rw [← hr]
  unfold same4 at hr
  obtain ⟨k, hk⟩ : ∃ k, k = x.kind := ⟨_, rfl⟩
  obtain ⟨a, ha⟩ : ∃ k, k = x.ta := ⟨_, rfl⟩
  obtain ⟨b, hb⟩ : ∃ k, k = x.tb := ⟨_, rfl⟩
  obtain ⟨c, hc⟩ : ∃ k, k = x.tc := ⟨_, rfl⟩
  obtain ⟨k', hk'⟩ : ∃ k, k = y.kind := ⟨_, rfl⟩
  obtain ⟨a', ha'⟩ : ∃ k, k = y.ta := ⟨_, rfl⟩
  obtain ⟨b', hb'⟩ : ∃ k, k = y.tb := ⟨_, rfl⟩
  obtain ⟨c', hc'⟩ : ∃ k, k = y.tc := ⟨_, rfl⟩
  obtain ⟨vx, hvx⟩ : ∃ k, k = x.val := ⟨_, rfl⟩
  obtain ⟨vy, hvy⟩ : ∃ k, k = y.val := ⟨_, rfl⟩
  rw [← hk, ← ha, ← hb, ← hc, ← hvx] at cx
  rw [← hk', ← ha', ← hb', ← hc', ← hvy] at cy
  rw [← hk, ← ha, ← hb, ← hc, ← hk', ← ha', ← hb', ← hc'] at hr
  rw [← hvx, ← hvy]
  clear hk ha hb hc hk' ha' hb' hc' hvx hvy
  cases h3 : (k != 3)
  · rw [h3, Bool.false_and] at hr
    subst hr
    go_enter Tryz.func32, Tryz.ntmps32
    go_wp2_with (go_at_call 58; (with_reducible refine (cx _).mono ?_); rintro e w1 ⟨rfl, hb1⟩)
    have hB := Lib.hid ((Sx.mk hb1 k a b c).1)
    clear hb1 hE
    go_quiet (fail)
    go_wp2
    go_ret
    exact ⟨rfl, ⟨hB.out.os, hB.out.tape, hB.out.output, hB.out.size, hB.out.block⟩⟩
  · rw [h3, Bool.true_and] at hr
    have HR := Lib.hid hr
    clear hr
    go_enter Tryz.func32, Tryz.ntmps32
    go_wp2_with (go_at_call 58; (with_reducible refine (cx _).mono ?_); rintro e w1 ⟨rfl, hb1⟩)
    have hS := Sx.mk hb1 k a b c
    clear hb1
    first
      | (go_region_held (fun W => W.cell? ⟨w1.heap.size, 0, none⟩ = some (.int .i64 k) ∧ W.cell? ⟨w1.heap.size, 1, none⟩ = some (.string a) ∧ W.cell? ⟨w1.heap.size, 2, none⟩ = some (.string b) ∧ W.cell? ⟨w1.heap.size, 3, none⟩ = some (.string c) ∧ Sx w w1.heap.size k a b c W)
          (first | exact Sx.all (by assumption) | exact Sx.all (Sx.drew (by assumption)))
          (first | (go_at_call 58; (with_reducible refine (cy _ _ _ _ _ _ _ (by first | assumption | exact Sx.drew (by assumption))).mono ?_); rintro e w2 ⟨rfl, hS2⟩)))
      | fail
    have HB := Lib.hid hS2.1
    clear hS2 hS
    go_wp2
    go_ret
    exact ⟨ret_bT HR.out.symm, HB.out⟩
end Go.Proofs.YtpnfjjgihkmjmaaGreatDoor
