/-
  A LANGUAGE: the program's 'isLanguage' (parted at '-', part by part) and the document's 'lang' (byte by byte).
-/
import Derived.Test.YtaoelnfflkkeeaaGreatDoorTLab
import Derived.Test.YtaoelnfflkkeeaaGreatDoorTAsc
import Derived.Test.YtaoelnfflkkeeaaGreatDoorMeas
import Derived.Test.YtaoelnfflkkeeaaGreatDoorVShelf
namespace Go.Proofs.YtaoelnfflkkeeaaGreatDoor
open Go.RowKit
set_option linter.unusedVariables false

abbrev dash : ByteArray := ⟨#[45]⟩
def langB (s : ByteArray) : Bool := decide (s.size ≤ 40) && mach 0 0 s.data.toList
theorem countB_dash (s : ByteArray) : Lib.countB s dash = Lib.countByte s.data.toList 45 := Lib.count_one 45 s.data.toList
theorem indexB_dash (s : ByteArray) : Lib.indexB s dash = Lib.indexByte s.data.toList 45 := Lib.index_one s.data.toList 45
theorem split_dash (s : ByteArray) (hs : s.size < 4294967281) (w : World) : Calls Tryz.prog 106 #[.string s, .string dash] w fun e w' =>
    e = .returned (.slice (some ⟨w.heap.size, 0, none⟩) (Lib.countB s dash + 1) (Lib.countB s dash + 1)) ∧ w' = w.alloc (.cells ((Lib.splitB dash 0 (Lib.countB s dash) s).map Value.string).toArray 9) := by
  have L := Tryz.laysM146
  have hle := Lib.countB_le dash (by decide) s.size s (Nat.le_refl _)
  have hlen := Lib.splitB_all dash (by decide) 0 _ s rfl
  have c : Calls Tryz.prog 107 #[.string s, .string dash, .int .i64 0, .int .i64 (-1)] w fun e w' =>
      e = .returned (.slice (some ⟨w.heap.size, 0, none⟩) (Lib.splitB dash 0 (Lib.countB s dash + 1 - 1) s).length (Lib.countB s dash + 1)) ∧ w' = w.alloc (.cells (Lib.cellsOf (Lib.splitB dash 0 (Lib.countB s dash + 1 - 1) s) (Lib.countB s dash + 1)) 9) :=
    Any.strings_genSplit_core { L with } L.i9 s dash 0 (-1) (Lib.countB s dash + 1) w hs (by decide) (Nat.zero_le _)
      (fun x c _ => (Any.strings_Index_one { L with } x 45 _).mono fun e w' ⟨a, b⟩ => ⟨by rw [a, indexB_dash], b⟩)
      ((Any.strings_Count_one { L with } s 45 w).mono fun e w' ⟨a, b⟩ => ⟨by rw [a, countB_dash], b⟩) (by decide) (by decide) (by rw [if_pos (by decide)]; omega)
  rw [Nat.add_sub_cancel, hlen] at c
  have e2 : Lib.cellsOf (Lib.splitB dash 0 (Lib.countB s dash) s) (Lib.countB s dash + 1) = ((Lib.splitB dash 0 (Lib.countB s dash) s).map Value.string).toArray := by rw [← hlen]; exact Lib.cellsOf_full _
  rw [e2] at c
  obtain ⟨cs, hcs⟩ : ∃ cs, cs = ((Lib.splitB dash 0 (Lib.countB s dash) s).map Value.string).toArray := ⟨_, rfl⟩
  obtain ⟨n, hn⟩ : ∃ n, n = Lib.countB s dash := ⟨_, rfl⟩
  rw [← hcs, ← hn] at c
  rw [← hcs, ← hn]
  clear hcs hn e2 hlen hle L hs
  go_enter Tryz.func106, Tryz.ntmps106
  go_wp2_with (go_at_call 107; (with_reducible refine c.mono ?_); rintro e w' ⟨rfl, rfl⟩)
  go_ret
  exact ⟨rfl, rfl⟩
/-- May a sign stand in part k of a language? -/
def okI (k : Nat) (n : Int) : Bool := (cls n == 1) || (!(k == 0) && (cls n == 2))
theorem cls_1 (n : Int) : cls n = 1 ↔ (97 ≤ n ∧ n ≤ 122) ∨ (65 ≤ n ∧ n ≤ 90) := by unfold cls; omega
theorem cls_2 (n : Int) : cls n = 2 ↔ 48 ≤ n ∧ n ≤ 57 := by unfold cls; omega
theorem cls_let (c : UInt8) : (cls (c.toNat : Int) == 1) = letU c := by
  unfold letU
  rw [Bool.eq_iff_iff, beq_iff_eq, decide_eq_true_eq, cls_1]
  omega
theorem cls_dig (c : UInt8) : (cls (c.toNat : Int) == 2) = digU c := by
  unfold digU
  rw [Bool.eq_iff_iff, beq_iff_eq, decide_eq_true_eq, cls_2]
  omega
theorem okI_far (k : Nat) (n : Int) (h : 128 ≤ n) : okI k n = false := by
  have h1 : (cls n == 1) = false := by rw [beq_eq_false_iff_ne, Ne, cls_1]; omega
  have h2 : (cls n == 2) = false := by rw [beq_eq_false_iff_ne, Ne, cls_2]; omega
  unfold okI
  rw [h1, h2]; simp
theorem okc_far (k : Nat) (c : UInt8) (h : 128 ≤ c.toNat) : okc k c = false := by
  have h1 : letU c = false := by unfold letU; rw [decide_eq_false_iff_not]; omega
  have h2 : digU c = false := by unfold digU; rw [decide_eq_false_iff_not]; omega
  unfold okc
  rw [h1, h2]; simp
theorem okI_okc (k : Nat) (c : UInt8) : okI k (c.toNat : Int) = okc k c := by unfold okI okc; rw [cls_let, cls_dig]
theorem allI_all (f : Int → Bool) : ∀ (l : List Int) (i : Nat), allI (fun _ n => f n) i l = l.all f
  | [], _ => rfl
  | n :: l, i => by simp only [allI, List.all_cons, allI_all f l (i + 1)]
theorem allU_all (g : UInt8 → Bool) : ∀ (l : List UInt8) (i : Nat), allU (fun _ n => g n) i l = l.all g
  | [], _ => rfl
  | n :: l, i => by simp only [allU, List.all_cons, allU_all g l (i + 1)]
theorem part_signs (k : Nat) {l : List UInt8} {sl : List Int} {rest : List UInt8} (hp : Parts l sl rest) : l.all (okc k) = (decide (rest = []) && sl.all (okI k)) := by
  have := all_same (fun _ n => okI k n) (fun _ c => okc k c) (fun _ n h => okI_far k n h) (fun _ c h => okc_far k c h) (fun _ c _ => okI_okc k c) rest hp.bad sl hp.all 0
  rw [allI_all, allU_all] at this
  rw [hp.eq, ← this]
theorem splitB_sizes (sep : ByteArray) : ∀ (k : Nat) (s p : ByteArray), p ∈ Lib.splitB sep 0 k s → p.size ≤ s.size
  | 0, s, p, h => by rw [Lib.splitB_zero, List.mem_singleton] at h; rw [h]; exact Nat.le_refl _
  | k + 1, s, p, h => by
    by_cases hm : Lib.indexB s sep = -1
    · rw [Lib.splitB_miss sep 0 _ s hm, List.mem_singleton] at h; rw [h]; exact Nat.le_refl _
    · unfold Lib.splitB at h
      rw [if_neg (fun e => hm (beq_iff_eq.1 e))] at h
      rcases List.mem_cons.1 h with h | h
      · rw [h, ByteArray.size_extract]; omega
      · have := splitB_sizes sep k _ p h
        rw [ByteArray.size_extract] at this; omega
def LaO (w : World) (s : ByteArray) (ps : List ByteArray) (g0 g : Nat) (s14 : Value) (wr : World) : Prop :=
  ∃ k : Nat, k + g = ps.length ∧ s14 = .int .i64 k ∧ Hid (mach 0 0 s.data.toList = partsOk k ((ps.drop k).map fun p => p.data.toList)) ∧ Below w.heap.size w wr ∧ Fb wr g0 9 (ps.map Value.string).toArray
def LaI (w : World) (p : ByteArray) (sl : List Int) (k g0 it : Nat) (cs : Array Value) (g : Nat) (wr : World) : Prop :=
  ∃ a b, sl = a ++ b ∧ b.length = g ∧ a.all (okI k) = true ∧ wr.heap[it]? = some (.stringIter p (encL a).length) ∧ Below w.heap.size w wr ∧ Fb wr g0 9 cs ∧ it < wr.heap.size
theorem okI_ways (k : Nat) (n q : Int) (hq : q = cls n) : (okI k n = true ∧ (q != 1) = false) ∨ (okI k n = true ∧ (q != 1) = true ∧ ((k : Int) == 0) = false ∧ (q != 2) = false) ∨ (okI k n = false ∧ (q != 1) = true ∧ ((k : Int) == 0) = true) ∨ (okI k n = false ∧ (q != 1) = true ∧ ((k : Int) == 0) = false ∧ (q != 2) = true) := by
  subst hq
  have e : ((k : Int) == 0) = (k == 0) := by rw [Bool.eq_iff_iff, beq_iff_eq, beq_iff_eq]; omega
  unfold okI
  rw [e]
  have e1 : (cls n != 1) = !(cls n == 1) := rfl
  have e2 : (cls n != 2) = !(cls n == 2) := rfl
  rw [e1, e2]
  cases (cls n == 1) <;> cases (cls n == 2) <;> cases (k == 0) <;> simp
set_option maxHeartbeats 8000000 in
set_option maxRecDepth 100000 in
theorem isLang_any (s : ByteArray) (hs : s.size < 4294967281) (w : World) : Calls Tryz.prog 105 #[.string s] w fun e w' => e = .returned (.bool (langB s)) ∧ Below w.heap.size w w' := by
  obtain ⟨r, hr⟩ : ∃ r, r = langB s := ⟨_, rfl⟩
  rw [← hr]
  unfold langB at hr
  by_cases h40 : s.size ≤ 40
  · rw [decide_eq_true h40, Bool.true_and] at hr
    have k40 : ¬ (40 : Int) < (s.size : Int) := by omega
    have cS := fun W => split_dash s hs W
    obtain ⟨n, hn⟩ : ∃ n, n = Lib.countB s dash := ⟨_, rfl⟩
    obtain ⟨ps, hps⟩ : ∃ ps, ps = Lib.splitB dash 0 n s := ⟨_, rfl⟩
    rw [← hn, ← hps] at cS
    have hpl : ps.length = n + 1 := by rw [hps]; exact Lib.splitB_all dash (by decide) 0 _ s hn.symm
    have hm : mach 0 0 s.data.toList = partsOk 0 (ps.map fun p => p.data.toList) := by
      rw [hps, Lib.splitB_data]
      exact mach_parts n _ 0 hn.symm
    have hsz : ∀ p ∈ ps, p.size ≤ 40 := fun p hp => by
      have := splitB_sizes dash n s p (hps ▸ hp)
      omega
    have HM := Lib.hid hm
    have HR := Lib.hid hr
    have HPL := Lib.hid hpl
    have HSZ := Lib.hid hsz
    have hn41 : n ≤ 1000000 := by
      have := Lib.countB_le dash (by decide) s.size s (Nat.le_refl _)
      omega
    clear hm hr hpl hsz hn hps h40 hs
    go_enter Tryz.func105, Tryz.ntmps105
    go_wp2_with (go_at_call 106; (with_reducible refine (cS _).mono ?_); rintro e w2 ⟨rfl, hw2⟩; have hF0 : Fb w2 w.heap.size 9 (ps.map Value.string).toArray := (by rw [hw2]; exact Fb.new w _ _); have hB0 : Below w.heap.size w w2 := (by rw [hw2]; exact (Below.refl _ _).alloc (Nat.le_refl _) _); clear hw2)
    obtain ⟨g0, hg0⟩ : ∃ g, g = w.heap.size := ⟨_, rfl⟩
    rw [← hg0] at hF0
    have hG0 : w.heap.size ≤ g0 := by omega
    rw [← hg0]
    have HF0 := Lib.hid hF0
    have HB0 := Lib.hid hB0
    clear hg0 hF0 hB0
    go_loopg [14] (n + 1) (fun g s14 wr => LaO w s ps g0 g s14 wr)
    case atStart => exact ⟨0, by rw [HPL.out]; omega, rfl, Lib.hid (by rw [HM.out, List.drop_zero]), HB0.out, HF0.out⟩
    case round =>
      obtain ⟨k, hkg, rfl, HK, hbw, hF⟩ := hrel
      have HBW := Lib.hid hbw
      have HF := Lib.hid hF
      have hpl := HPL.out
      cases gk with
      | zero =>
        have hk : k = ps.length := by omega
        have k1 : ¬ (k : Int) < (n : Int) + 1 := by omega
        have HE : Hid (r = true) := Lib.hid (by rw [HR.out, HK.out, hk, List.drop_length]; rfl)
        clear hk hkg hpl hbw hF
        go_wp2
        go_ret
        exact ⟨ret_bool HE.out.symm, HBW.out⟩
      | succ g =>
        have hk : k < ps.length := by omega
        have k1 : (k : Int) < (n : Int) + 1 := by omega
        have k0 : (0 : Int) ≤ (k : Int) := by omega
        obtain ⟨p, hp⟩ : ∃ p, ps[k]? = some p := ⟨_, List.getElem?_eq_getElem hk⟩
        have hc : wr.cell? ⟨g0, k, none⟩ = some (.string p) := by
          rw [hF.cell]
          simp [hp]
        have hdk : (ps.drop k).map (fun p => p.data.toList) = p.data.toList :: (ps.drop (k + 1)).map fun p => p.data.toList := by
          rw [List.drop_eq_getElem_cons hk, (List.getElem?_eq_some_iff.1 hp).2]; rfl
        have hst : mach 0 0 s.data.toList = (partOk k p.data.toList && partsOk (k + 1) ((ps.drop (k + 1)).map fun p => p.data.toList)) := by rw [HK.out, hdk]; rfl
        have hpz : p.data.toList.length = p.size := (Lib.size_eq p).symm
        have hp40 := HSZ.out p (List.mem_of_getElem? hp)
        obtain ⟨sl, rest, hpp⟩ := parts_of p.data.toList
        have hsg := part_signs k hpp
        have HST := Lib.hid hst
        have HPP := Lib.hid hpp
        have HSG := Lib.hid hsg
        have hnil : p.toList = [] ↔ p.size = 0 := by
          rw [ByteArray.toList_eq]
          constructor
          · intro h; have := congrArg List.length h; rw [Array.length_toList] at this; exact this
          · intro h; exact List.length_eq_zero_iff.1 (by rw [Array.length_toList]; exact h)
        have HN := Lib.hid hnil
        have HPZ := Lib.hid hpz
        have HKG := Lib.hid hkg
        clear hp hdk hst hpp hsg hnil hpz hF hbw hkg hpl
        by_cases z0 : p.size = 0
        · have e2 : p.toList = [] := HN.out.2 z0
          have e1 : p.toList.isEmpty = true := by rw [e2]; rfl
          have HE : Hid (r = false) := Lib.hid (by rw [HR.out, HST.out]; unfold partOk; rw [HPZ.out, z0]; rfl)
          clear z0
          go_wp2
          (try rw [Exit.noGoto_ret])
          go_ret
          exact ⟨ret_bool HE.out.symm, HBW.out⟩
        · have e2 : ¬ p.toList = [] := fun e => z0 (HN.out.1 e)
          have e1 : p.toList.isEmpty = false := by
            cases h : p.toList
            · exact absurd h e2
            · rfl
          by_cases z8 : p.size ≤ 8
          · have k8 : ¬ (8 : Int) < (p.size : Int) := by omega
            have hpo : partOk k p.data.toList = (decide (rest = []) && sl.all (okI k)) := by
              unfold partOk
              rw [HPZ.out, beq_eq_false_iff_ne.2 z0, decide_eq_true z8, HSG.out]; rfl
            have HPO := Lib.hid hpo
            obtain ⟨it, hit0⟩ : ∃ it, it = wr.heap.size := ⟨_, rfl⟩
            have hI0 : LaI w p sl k g0 it (ps.map Value.string).toArray sl.length (wr.alloc (.stringIter p 0)) := ⟨[], sl, rfl, rfl, rfl, by rw [hit0]; exact World.iter_heap _ _ _, HBW.out.alloc HBW.out.size _, HF.out.alloc _, by rw [hit0]; simp⟩
            have HI0 := Lib.hid hI0
            have hitb : w.heap.size ≤ it := by rw [hit0]; exact HBW.out.size
            have hg0it : g0 ≠ it := by rw [hit0]; have := HF.out.lt; omega
            have HIT0 := Lib.hid hit0
            clear z0 z8 hpo hI0 hit0
            go_wp2
            rw [← HIT0.out]
            go_loopg [] sl.length (fun g2 wx => LaI w p sl k g0 it (ps.map Value.string).toArray g2 wx)
            case atStart => exact HI0.out
            case round =>
              obtain ⟨a, bb, hab, hbl, hall, hit, hbx, hFx, hlt⟩ := hrel
              have hdat : p.data.toList = encL a ++ (encL bb ++ rest) := by rw [HPP.out.eq, hab, encL_append, List.append_assoc]
              have HAB := Lib.hid hab
              have HALL := Lib.hid hall
              have HBX := Lib.hid hbx
              have HFX := Lib.hid hFx
              cases gk with
              | zero =>
                obtain rfl : bb = [] := List.length_eq_zero_iff.1 hbl
                by_cases hrest : rest = []
                · have hnx : ∀ ty, (Instr.next (.pointer (some ⟨it, 0, none⟩)) true ty).run Tryz.prog wr = _ := fun ty => next_done wr it p a (by rw [hdat, hrest]; simp [encL]) hit ty
                  have hfin : LaO w s ps g0 g (.int .i64 ((k : Int) + 1)) wr := ⟨k + 1, by have := HKG.out; omega, by go_num, Lib.hid (by rw [HST.out, HPO.out, decide_eq_true hrest, hab, List.append_nil, hall]; rfl), hbx, hFx⟩
                  have HFN := Lib.hid hfin
                  clear hab hbl hdat hall hit hbx hFx hrest hfin
                  go_wp2
                  go_roundg g
                  case measure => omega
                  case rel => exact HFN.out
                · have hnx : ∀ ty, (Instr.next (.pointer (some ⟨it, 0, none⟩)) true ty).run Tryz.prog wr = _ := fun ty => next_bad wr it p a rest (by rw [hdat]; simp [encL]) (HPP.out.bad.resolve_left hrest) hit ty
                  obtain ⟨W, hW⟩ : ∃ W, W = wr.iterAt it p ((encL a).length + 1) := ⟨_, rfl⟩
                  rw [← hW] at hnx
                  have HBW2 : Hid (Below w.heap.size w W) := Lib.hid (by rw [hW]; exact Lib.below_iterAt hbx hitb _ _)
                  have HE : Hid (r = false) := Lib.hid (by rw [HR.out, HST.out, HPO.out, decide_eq_false hrest]; rfl)
                  have cR := class_any 65533
                  have hc5 : cls 65533 = 5 := by decide
                  rw [hc5] at cR
                  have hk0 : ((k : Int) == 0) = true ∨ ((k : Int) == 0) = false := by cases ((k : Int) == 0) <;> simp
                  clear hab hbl hdat hall hit hbx hFx hrest hW hc5
                  rcases hk0 with hk0 | hk0
                  all_goals
                    go_wp2_with (go_at_call 94; (with_reducible refine (cR _).mono ?_); rintro e w' ⟨rfl, rfl⟩)
                    (try rw [Exit.noGoto_ret])
                    go_ret
                    exact ⟨ret_bool HE.out.symm, HBW2.out⟩
              | succ g2 =>
                obtain ⟨x, b', rfl⟩ : ∃ x b', bb = x :: b' := by
                  match bb, hbl with
                  | x :: b', _ => exact ⟨x, b', rfl⟩
                have hx : sgn x = true := HPP.out.all x (by rw [hab]; simp)
                have hnx : ∀ ty, (Instr.next (.pointer (some ⟨it, 0, none⟩)) true ty).run Tryz.prog wr = _ := fun ty => next_sign wr it p a x (encL b' ++ rest) (by rw [hdat, encL_cons, List.append_assoc]) hx hit ty
                obtain ⟨W, hW⟩ : ∃ W, W = wr.iterAt it p (encL (a ++ [x])).length := ⟨_, rfl⟩
                rw [← hW] at hnx
                have hitW : W.heap[it]? = some (.stringIter p (encL (a ++ [x])).length) := by rw [hW]; exact Lib.iterAt_heap _ _ _ _ _ hit
                have hbW : Below w.heap.size w W := by rw [hW]; exact Lib.below_iterAt hbx hitb _ _
                have hFW : Fb W g0 9 (ps.map Value.string).toArray := by
                  rw [hW]; exact (Lib.iterAt_other _ _ _ _ _ hg0it).trans hFx
                have hltW : it < W.heap.size := by rw [hW]; exact (Array.getElem?_eq_some_iff.1 (Lib.iterAt_heap _ _ _ _ _ hit)).1
                have HBW2 := Lib.hid hbW
                have hfin : okI k x = true → LaI w p sl k g0 it (ps.map Value.string).toArray g2 W := fun hk => ⟨a ++ [x], b', by rw [hab]; simp, by simpa using hbl, by rw [List.all_append, hall]; simp [hk], hitW, hbW, hFW, hltW⟩
                have hno : okI k x = false → r = false := fun hk => by
                  rw [HR.out, HST.out, HPO.out, hab]; simp [hk]
                have HFN := Lib.hid hfin
                have HNO := Lib.hid hno
                obtain ⟨q, hq⟩ : ∃ q, q = cls x := ⟨_, rfl⟩
                have cR := class_any x
                rw [← hq] at cR
                have ways := okI_ways k x q hq
                have hm : g2 < g2 + 1 := Nat.lt_succ_self g2
                clear hab hbl hdat hall hit hbx hFx hW hitW hbW hFW hltW hx hfin hno hq
                rcases ways with ⟨h0, j1⟩ | ⟨h0, j1, j2, j3⟩ | ⟨h0, j1, j2⟩ | ⟨h0, j1, j2, j3⟩
                all_goals
                  have H0 := Lib.hid h0
                  clear h0
                  go_wp2_with (go_at_call 94; (with_reducible refine (cR _).mono ?_); rintro e w' ⟨rfl, rfl⟩)
                  first
                    | (go_roundg g2; (case measure => exact hm); (case rel => exact HFN.out H0.out))
                    | ((try rw [Exit.noGoto_ret]); go_ret; exact ⟨ret_bool (HNO.out H0.out).symm, HBW2.out⟩)
          · have k8 : (8 : Int) < (p.size : Int) := by omega
            have HE : Hid (r = false) := Lib.hid (by rw [HR.out, HST.out]; unfold partOk; rw [HPZ.out, decide_eq_false z8]; simp)
            clear z0 z8
            go_wp2
            (try rw [Exit.noGoto_ret])
            go_ret
            exact ⟨ret_bool HE.out.symm, HBW.out⟩
  · rw [decide_eq_false h40, Bool.false_and] at hr
    have k40 : (40 : Int) < (s.size : Int) := by omega
    have HE := Lib.hid hr
    clear hr h40 hs
    go_enter Tryz.func105, Tryz.ntmps105
    go_wp2
    go_ret
    exact ⟨ret_bool HE.out.symm, Below.refl _ _⟩
end Go.Proofs.YtaoelnfflkkeeaaGreatDoor
