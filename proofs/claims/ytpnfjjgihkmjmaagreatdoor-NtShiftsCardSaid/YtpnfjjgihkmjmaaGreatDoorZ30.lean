/-
  MERGED (a claim has at most 60 files): RQdA, RQdC, QLib.
-/
import Derived.Test.YtpnfjjgihkmjmaaGreatDoorZ09
import Derived.Test.YtpnfjjgihkmjmaaGreatDoorZ10
import Derived.Test.YtpnfjjgihkmjmaaGreatDoorZ19
/-
  THE DOCUMENT's 'Quoted': the plain part; what can't stand there at all.
-/
namespace Go.Proofs.YtpnfjjgihkmjmaaGreatDoor
open Go.RowKit
set_option linter.unusedVariables false

/-- The last number below m whose letter is c. -/
def pl (c : Int) : Nat → Int
  | 0 => -1
  | m + 1 => if lett m ≠ 0 ∧ lett m = c then m else pl c m
theorem lett_unl (c m : Int) (h39 : c ≠ 39) (h0 : 0 ≤ m) : (lett m ≠ 0 ∧ lett m = c) ↔ unl c = m := by
  constructor
  · rintro ⟨h1, h2⟩
    unfold lett at h1 h2
    unfold unl
    omega
  · intro h
    unfold unl at h
    unfold lett
    omega
theorem pl_inv (c : Int) (h39 : c ≠ 39) : ∀ m : Nat, pl c m = if 0 ≤ unl c ∧ unl c < m then unl c else -1
  | 0 => by unfold pl; rw [if_neg (by omega)]
  | m + 1 => by
    unfold pl
    rw [pl_inv c h39 m]
    by_cases hm : unl c = m
    · rw [if_pos ((lett_unl c m h39 (by omega)).2 hm), if_pos (by omega), hm]
    · rw [if_neg (fun h => hm ((lett_unl c m h39 (by omega)).1 h))]
      by_cases h : 0 ≤ unl c ∧ unl c < m
      · rw [if_pos h, if_pos (by omega)]
      · rw [if_neg h, if_neg (by omega)]
theorem pl_all (c : Int) (h39 : c ≠ 39) : pl c 160 = unl c := by
  rw [pl_inv c h39 160]
  have : unl c ≤ 92 := by unfold unl; omega
  have h2 : -1 ≤ unl c := by unfold unl; omega
  split <;> omega
def QxPost (B : Nat) (w : World) (r : Nat × Option (List Int)) (e : Ending) (w' : World) : Prop :=
  ∃ v, e = .returned (.tuple #[v, .int .i64 r.1, .bool r.2.isSome]) ∧ Ints B w' v (r.2.getD []) ∧ Below B w w'
theorem ints_nil (B : Nat) (w : World) : Ints B w (.slice none 0 0) [] := ⟨rfl, .inl ⟨rfl, rfl⟩⟩
set_option maxHeartbeats 4000000 in
theorem rquoted_far (sl : List Int) (k : Nat) (hk : sl.length ≤ k) (ao : Option Addr) (cap : Nat) (w : World) :
    Calls Tryz.prog 72 #[.slice ao sl.length cap, .int .i64 k] w (QxPost w.heap.size w (qd sl k)) := by
  have hq : qd sl k = (k, none) := by unfold qd; rw [List.getElem?_eq_none hk]; rfl
  have hge : (sl.length : Int) ≤ (k : Int) := by omega
  rw [hq]
  clear hq hk
  go_enter Tryz.func72, Tryz.ntmps72
  go_wp2
  go_ret3
  exact ⟨_, rfl, ints_nil _ _, Below.refl _ _⟩
end Go.Proofs.YtpnfjjgihkmjmaaGreatDoor

/-
  THE DOCUMENT's 'Quoted' where a quoted text may begin.
-/
namespace Go.Proofs.YtpnfjjgihkmjmaaGreatDoor
open Go.RowKit
set_option linter.unusedVariables false

/-- The loop's relation. -/
def QDI (w : World) (sl : List Int) (r : Nat × Option (List Int)) (g : Nat) (s7 s8 : Value) (wr : World) : Prop :=
  ∃ p acc av cv, r = qf sl g p acc ∧ p ≤ sl.length ∧ sl.length - p ≤ g ∧ acc.length + g ≤ 100000 ∧ s8 = .int .i64 (p : Nat) ∧ s7 = .slice av acc.length cv ∧ Ints w.heap.size wr s7 acc ∧ Below w.heap.size w wr
/-- The inner loop's relation, over the digits. -/
def RdI (sl : List Int) (wr : World) (R : Nat × Option Int) (p nd g : Nat) (s8 s15 s16 : Value) (wx : World) : Prop :=
  ∃ (S : Int) (i : Nat), i + g = nd ∧ s8 = .int .i64 ((p + 2 + i : Nat) : Int) ∧ s15 = .int .i64 S ∧ s16 = .int .i64 (i : Int) ∧ p + 2 + i ≤ sl.length ∧ R = rd g S (sl.drop (p + 2 + i)) (p + 2 + i) ∧ 0 ≤ S ∧ S < 16 ^ i ∧ wx = wr
theorem pow16 (i : Nat) (h : i ≤ 8) : (16 : Int) ^ i ≤ 4294967296 := by
  obtain rfl | rfl | rfl | rfl | rfl | rfl | rfl | rfl | rfl : i = 0 ∨ i = 1 ∨ i = 2 ∨ i = 3 ∨ i = 4 ∨ i = 5 ∨ i = 6 ∨ i = 7 ∨ i = 8 := by omega
  all_goals decide
theorem ints_shape2 {B : Nat} {w : World} {v : Value} {l : List Int} (h : Ints B w v l) : ∃ av cv, v = .slice av l.length cv := by
  rcases h.2 with ⟨hv, hl0⟩ | ⟨g', cp, cur, hv, _⟩
  · exact ⟨none, 0, by rw [hv, hl0]⟩
  · exact ⟨_, cp, hv⟩
theorem ints_step {B : Nat} {w wr w3 : World} {v v' : Value} {acc : List Int} {n : Int} (hI : Ints B wr v acc) (hb : Below B w wr) (hB : B ≤ wr.heap.size)
    (hown : w3.ownsRow B 3 1 v' (acc.length + 1) (intRow acc ++ [.int .i64 n])) (hgr : (wr.alloc (.cells #[.int .i64 n] 3)).grownBy w3 v.ownBlock) : Ints B w3 v' (acc ++ [n]) ∧ Below B w w3 := by
  refine ⟨?_, (hb.alloc hB _).grown hgr (by simp; omega) (fun k hk => (World.ownsRow.lt hI k hk).1)⟩
  unfold Ints intRow
  rw [List.length_append, List.map_append]
  exact hown

set_option maxHeartbeats 8000000 in
set_option maxRecDepth 100000 in
theorem rquoted_at (sl : List Int) (k : Nat) (hk : k < sl.length) (hl : sl.length ≤ 100000) (gc oc cap : Nat) (w : World) (hgc : gc < w.heap.size) (hB0 : ∀ j x, sl[j]? = some x → w.cell? ⟨gc, oc + j, none⟩ = some (.int .i64 x)) :
    Calls Tryz.prog 72 #[.slice (some ⟨gc, oc, none⟩) sl.length cap, .int .i64 k] w (QxPost w.heap.size w (qd sl k)) := by
  have HC := Lib.hid hB0
  obtain ⟨c0, hx0⟩ : ∃ c, sl[k]? = some c := ⟨_, List.getElem?_eq_getElem hk⟩
  have hcell0 : w.cell? ⟨gc, oc + k, none⟩ = some (.int .i64 c0) := hB0 k c0 hx0
  have hk1 : ¬ ((sl.length : Int) ≤ (k : Int)) := by omega
  have hk2 : (k : Int) < (sl.length : Int) := by omega
  have hk3 : (0 : Int) ≤ (k : Int) := by omega
  obtain ⟨i0, hi, hz0, hz1, hz2⟩ := info_parts intInfo
  obtain ⟨r, hr⟩ : ∃ r, r = qd sl k := ⟨_, rfl⟩
  rw [← hr]
  unfold qd at hr
  rw [hx0] at hr
  by_cases h34 : c0 = 34
  · rw [if_pos (by rw [h34])] at hr
    have HR := Lib.hid hr
    subst h34
    clear hr hB0 hx0
    go_enter Tryz.func72, Tryz.ntmps72
    go_wp2
    go_loopg [7, 8] (sl.length - (k + 1)) (fun g s7 s8 wr => QDI w sl r g s7 s8 wr)
    case atStart => exact ⟨k + 1, [], none, 0, HR.out, by omega, by omega, by simp; omega, by go_num, rfl, ints_nil _ _, Below.refl _ _⟩
    case round =>
      clear HR
      obtain ⟨p, acc, av, cv, hq, hpl, hpg, hag, rfl, rfl, hI, hbw⟩ := hrel
      have hbs := hbw.size
      by_cases hpe : p = sl.length
      · have hrr : r = (p, none) := by
          rw [hq]
          cases gk with
          | zero => rfl
          | succ g => unfold qf; rw [hpe, List.getElem?_eq_none (Nat.le_refl _)]
        have HRR := Lib.hid hrr
        have hge : ¬ ((p : Int) < (sl.length : Int)) := by omega
        clear hq hrr hpe
        go_wp2
        go_ret3
        rw [HRR.out]
        exact ⟨_, rfl, ints_nil _ _, hbw⟩
      · have hpl2 : p < sl.length := by omega
        have hplz : (p : Int) < (sl.length : Int) := by omega
        obtain ⟨g, rfl⟩ : ∃ g, gk = g + 1 := ⟨gk - 1, by omega⟩
        obtain ⟨c, hx⟩ : ∃ c, sl[p]? = some c := ⟨_, List.getElem?_eq_getElem hpl2⟩
        have hcell : wr.cell? ⟨gc, oc + p, none⟩ = some (.int .i64 c) := (hbw.cell (p := ⟨gc, oc + p, none⟩) hgc).trans (HC.out _ _ hx)
        unfold qf at hq
        rw [hx] at hq
        dsimp only at hq
        clear hx hpe hcell0
        by_cases h34 : c = 34
        · rw [if_pos h34] at hq
          subst h34
          have HQ := Lib.hid hq
          clear hq
          go_wp2
          go_ret3
          rw [HQ.out]
          exact ⟨_, rfl, hI, hbw⟩
        rw [if_neg h34] at hq
        have g34 : (c == 34) = false := by simpa using h34
        by_cases hnl : c = 10 ∨ c = 13
        · rw [if_pos hnl] at hq
          have HQ := Lib.hid hq
          clear hq h34
          rcases hnl with rfl | rfl
          all_goals
            clear g34
            go_wp2
            go_ret3
            rw [HQ.out]
            exact ⟨_, rfl, ints_nil _ _, hbw⟩
        rw [if_neg hnl] at hq
        have g10 : (c == 10) = false := by have : c ≠ 10 := fun e => hnl (.inl e)
                                           simpa using this
        have g13 : (c == 13) = false := by have : c ≠ 13 := fun e => hnl (.inr e)
                                           simpa using this
        have HI := Lib.hid hI
        by_cases h92 : c = 92
        · rw [if_pos h92] at hq
          subst h92
          clear g34 g10 g13 h34 hnl
          by_cases hpe : p + 1 = sl.length
          · have he : ef sl (p + 1) = (p + 1, none) := by unfold ef; rw [hpe, List.getElem?_eq_none (Nat.le_refl _)]
            rw [he] at hq
            dsimp only at hq
            have HQ := Lib.hid hq
            have hge2 : (sl.length : Int) ≤ (p : Int) + 1 := by omega
            clear hq he hpe
            go_wp2
            go_ret3
            rw [HQ.out]
            exact ⟨_, rfl, ints_nil _ _, hbw⟩
          · have hp1 : p + 1 < sl.length := by omega
            have hge2 : ¬ ((sl.length : Int) ≤ (p : Int) + 1) := by omega
            have hlt2 : (p : Int) + 1 < (sl.length : Int) := by omega
            have hge3 : (0 : Int) ≤ (p : Int) + 1 := by omega
            obtain ⟨d, hd⟩ : ∃ d, sl[p + 1]? = some d := ⟨_, List.getElem?_eq_getElem hp1⟩
            have hcell2 : wr.cell? ⟨gc, oc + (p + 1), none⟩ = some (.int .i64 d) := (hbw.cell (p := ⟨gc, oc + (p + 1), none⟩) hgc).trans (HC.out _ _ hd)
            have HQ := Lib.hid hq
            have HD := Lib.hid hd
            clear hq hd hpe
            go_wp2
            go_loopg [11, 12] 160 (fun g2 s11 s12 wx => ∃ m : Nat, m + g2 = 160 ∧ s12 = .int .i64 m ∧ s11 = .int .i64 (pl d m) ∧ wx = wr)
            case atStart => exact ⟨0, rfl, rfl, rfl, rfl⟩
            case round =>
              obtain ⟨m, hm, rfl, rfl, rfl⟩ := hrel
              cases gk with
              | zero =>
                have hm160 : m = 160 := by omega
                subst hm160
                by_cases h39 : d = 39
                · subst h39
                  have hef : ef sl (p + 1) = (p + 2, some 39) := by unfold ef; rw [HD.out]; rfl
                  have hfin : ∀ v W (x : Int), x = (p : Int) + 2 → Ints w.heap.size W v (acc ++ [39]) ∧ Below w.heap.size w W → QDI w sl r g v (.int .i64 x) W := fun v W x hx y => by
                    obtain ⟨a1, c1, hv⟩ := ints_shape2 y.1
                    have hq := HQ.out
                    rw [hef] at hq
                    dsimp only at hq
                    exact ⟨p + 2, acc ++ [39], a1, c1, hq, by omega, by omega, by simp; omega, by rw [hx]; rfl, hv, y.1, y.2⟩
                  have HF := Lib.hid hfin
                  clear hfin hef
                  go_wp2_with (at_builtin; refine wpList_append_own _ rfl _ _ 41 rfl w.heap.size 3 i0 (.int .i64 0) 1 8 Tryz.underlying41 hi hz0 hz1 hz2 rfl (by decide) _ _ _ rfl (World.ownsRow.alloc hI _) ⟨wr.heap.size, 0, none⟩ 1 1 [.int .i64 39] rfl rfl ?n1 ?n2 ?n3 ?n4 ?n5 ?_)
                  try (case n1 =>
                      intro j u hj
                      match j, hj with
                      | 0, hj => simp at hj; subst hj; simp [Addr.add])
                  case n2 => first | rfl | (intro u hu; simp at hu; subst hu; rfl)
                  case n3 => unfold maxLen; omega
                  case n4 => omega
                  case n5 => first | omega | (simp; omega)
                  intro v' w3 hown hgrow _
                  have HG := fun x hx => Lib.hid (HF.out v' w3 x hx (ints_step HI.out hbw hbs hown hgrow))
                  clear hown hgrow hI
                  go_wp2
                  go_roundg g
                  case measure => omega
                  case rel => exact (HG _ (by omega)).out
                · rw [pl_all d h39]
                  have g39 : (d == 39) = false := by simpa using h39
                  by_cases hu : 0 ≤ unl d
                  · have hd117 : d ≠ 117 := fun e => by subst e; revert hu; decide
                    have hd85 : d ≠ 85 := fun e => by subst e; revert hu; decide
                    have hef : ef sl (p + 1) = (p + 2, some (unl d)) := by unfold ef; rw [HD.out]; dsimp only; rw [if_neg hd117, if_neg hd85, if_pos hu]
                    obtain ⟨U, hU⟩ : ∃ U, U = unl d := ⟨_, rfl⟩
                    rw [← hU] at hu hef ⊢
                    clear hU hd117 hd85 h39
                    
                    have hfin : ∀ v W (x : Int), x = (p : Int) + 2 → Ints w.heap.size W v (acc ++ [U]) ∧ Below w.heap.size w W → QDI w sl r g v (.int .i64 x) W := fun v W x hx y => by
                      obtain ⟨a1, c1, hv⟩ := ints_shape2 y.1
                      have hq := HQ.out
                      rw [hef] at hq
                      dsimp only at hq
                      exact ⟨p + 2, acc ++ [U], a1, c1, hq, by omega, by omega, by simp; omega, by rw [hx]; rfl, hv, y.1, y.2⟩
                    have HF := Lib.hid hfin
                    clear hfin hef
                    go_wp2_with (at_builtin; refine wpList_append_own _ rfl _ _ 41 rfl w.heap.size 3 i0 (.int .i64 0) 1 8 Tryz.underlying41 hi hz0 hz1 hz2 rfl (by decide) _ _ _ rfl (World.ownsRow.alloc hI _) ⟨wr.heap.size, 0, none⟩ 1 1 [.int .i64 U] rfl rfl ?l1 ?l2 ?l3 ?l4 ?l5 ?_)
                    try (case l1 =>
                        intro j u hj
                        match j, hj with
                        | 0, hj => simp at hj; subst hj; simp [Addr.add])
                    case l2 => first | rfl | (intro u hu; simp at hu; subst hu; rfl)
                    case l3 => unfold maxLen; omega
                    case l4 => omega
                    case l5 => first | omega | (simp; omega)
                    intro v' w3 hown hgrow _
                    have HG := fun x hx => Lib.hid (HF.out v' w3 x hx (ints_step HI.out hbw hbs hown hgrow))
                    clear hown hgrow hI
                    go_wp2
                    go_roundg g
                    case measure => omega
                    case rel => exact (HG _ (by omega)).out
                  · by_cases h117 : d = 117
                    · subst h117
                      have hef : ef sl (p + 1) = rd 4 0 (sl.drop (p + 2)) (p + 2) := by unfold ef; rw [HD.out]; rfl
                      obtain ⟨U, hU⟩ : ∃ U, U = unl 117 := ⟨_, rfl⟩
                      rw [← hU] at hu ⊢
                      have HE := Lib.hid hef
                      clear hU hef g39 h39
                      go_wp2
                      go_loopg [8, 15, 16] 4 (fun g2 s8 s15 s16 wx => RdI sl wr (rd 4 0 (sl.drop (p + 2)) (p + 2)) p 4 g2 s8 s15 s16 wx)
                      case atStart => exact ⟨0, 0, rfl, by go_num, rfl, rfl, by omega, rfl, by decide, by decide, rfl⟩
                      case round =>
                        obtain ⟨S, i, hi8, rfl, rfl, rfl, hql, hR, hS0, hS1, rfl⟩ := hrel
                        have hp16 := pow16 i (by omega)
                        obtain ⟨q, hq⟩ : ∃ q, q = p + 2 + i := ⟨_, rfl⟩
                        rw [← hq] at hR hql ⊢
                        have HQQ := Lib.hid hq
                        have HR := Lib.hid hR
                        cases gk with
                        | zero =>
                          have hin : i = 4 := by omega
                          subst hin
                          have cS : ∀ W, Calls Tryz.prog 77 #[.int .i64 S] W fun e w' => e = .returned (.bool (sgn S)) ∧ W = w' := fun W => refSign_any S W
                          clear hS0 hS1 hp16 hR hq
                          by_cases hsg : sgn S = true
                          · rw [hsg] at cS
                            have hfin : ∀ v W, Ints w.heap.size W v (acc ++ [S]) ∧ Below w.heap.size w W → QDI w sl r g v (.int .i64 (q : Int)) W := fun v W y => by
                              obtain ⟨a1, c1, hv⟩ := ints_shape2 y.1
                              have hq := HQ.out
                              rw [HE.out, HR.out, rd_zero, if_pos hsg] at hq
                              dsimp only at hq
                              have := HQQ.out
                              exact ⟨q, acc ++ [S], a1, c1, hq, hql, by omega, by simp; omega, rfl, hv, y.1, y.2⟩
                            have HF := Lib.hid hfin
                            clear hfin hsg
                            go_wp2_with (first
                              | (go_at_call 77; (with_reducible refine (cS _).mono ?_); rintro e w' ⟨rfl, rfl⟩)
                              | (at_builtin; refine wpList_append_own _ rfl _ _ 41 rfl w.heap.size 3 i0 (.int .i64 0) 1 8 Tryz.underlying41 hi hz0 hz1 hz2 rfl (by decide) _ _ _ rfl (World.ownsRow.alloc HI.out _) ⟨wr.heap.size, 0, none⟩ 1 1 [.int .i64 S] rfl rfl ?e1 ?e2 ?e3 ?e4 ?e5 ?_))
                            try (case e1 =>
                                intro j u hj
                                match j, hj with
                                | 0, hj => simp at hj; subst hj; simp [Addr.add])
                            try (case e2 => first | rfl | (intro u hu; simp at hu; subst hu; rfl))
                            try (case e3 => unfold maxLen; omega)
                            try (case e4 => omega)
                            try (case e5 => first | omega | (simp; omega))
                            intro v' w3 hown hgrow _
                            have HG := Lib.hid (HF.out v' w3 (ints_step HI.out hbw hbs hown hgrow))
                            clear hown hgrow
                            go_wp2
                            go_roundg g
                            case measure => omega
                            case rel => exact HG.out
                          · have hsf : sgn S = false := by simpa using hsg
                            rw [hsf] at cS
                            have hrr : r = (q - 1, none) := by rw [HQ.out, HE.out, HR.out, rd_zero, if_neg hsg]
                            have HRR := Lib.hid hrr
                            have hq1 : ((q - 1 : Nat) : Int) = (q : Int) - 1 := by have := HQQ.out; omega
                            have HQ1 := Lib.hid hq1
                            clear hsg hsf hrr hq1
                            go_wp2_with (go_at_call 77; (with_reducible refine (cS _).mono ?_); rintro e w' ⟨rfl, rfl⟩)
                            go_ret3
                            rw [HRR.out]
                            exact ⟨_, by rw [HQ1.out]; rfl, ints_nil _ _, hbw⟩
                        | succ g3 =>
                          have hin : (i : Int) < 4 := by omega
                          by_cases hqe : q = sl.length
                          · have hrr : r = (q, none) := by rw [HQ.out, HE.out, HR.out, hqe, List.drop_eq_nil_of_le (Nat.le_refl _), rd_end]
                            have HRR := Lib.hid hrr
                            have hge : (sl.length : Int) ≤ (q : Int) := by omega
                            clear hrr hqe hS0 hS1 hp16 hR hq
                            go_wp2
                            go_ret3
                            rw [HRR.out]
                            exact ⟨_, rfl, ints_nil _ _, hbw⟩
                          · have hqlt : (q : Int) < (sl.length : Int) := by omega
                            have hqge : ¬ (sl.length : Int) ≤ (q : Int) := by omega
                            have hq0 : (0 : Int) ≤ (q : Int) := by omega
                            obtain ⟨d2, hd2⟩ : ∃ d, sl[q]? = some d := ⟨_, List.getElem?_eq_getElem (by omega)⟩
                            have hcell9 : wr.cell? ⟨gc, oc + q, none⟩ = some (.int .i64 d2) := (hbw.cell (p := ⟨gc, oc + q, none⟩) hgc).trans (HC.out _ _ hd2)
                            have hdrop : sl.drop q = d2 :: sl.drop (q + 1) := by
                              have hj := (List.getElem?_eq_some_iff.1 hd2).1
                              rw [List.drop_eq_getElem_cons hj, (List.getElem?_eq_some_iff.1 hd2).2]
                            obtain ⟨D, hD⟩ : ∃ D, D = hexv d2 := ⟨_, rfl⟩
                            have hD15 : D ≤ 15 := by rw [hD]; unfold hexv; omega
                            have cH : ∀ W, Calls Tryz.prog 93 #[.int .i64 d2] W fun e w' => e = .returned (.int .i64 D) ∧ W = w' := fun W => by rw [hD]; exact refHex_any d2 W
                            rw [hdrop, rd_cons, ← hD] at hR
                            by_cases hneg : D < 0
                            · have hrr : r = (q, none) := by rw [HQ.out, HE.out, hR, if_pos hneg]
                              have HRR := Lib.hid hrr
                              clear hrr hqe hS0 hS1 hp16 hR hq hd2 hdrop hD hD15 HR
                              go_wp2_with (go_at_call 93; (with_reducible refine (cH _).mono ?_); rintro e w' ⟨rfl, rfl⟩)
                              go_ret3
                              rw [HRR.out]
                              exact ⟨_, rfl, ints_nil _ _, hbw⟩
                            · rw [if_neg hneg] at hR
                              have hpp : (16 : Int) ^ (i + 1) = 16 ^ i * 16 := Int.pow_succ _ _
                              have hfin : RdI sl wr (rd 4 0 (sl.drop (p + 2)) (p + 2)) p 4 g3 (.int .i64 ((q : Int) + 1)) (.int .i64 (S * 16 + D)) (.int .i64 ((i : Int) + 1)) wr :=
                                ⟨S * 16 + D, i + 1, by omega, by rw [show p + 2 + (i + 1) = q + 1 by omega, Int.natCast_succ], rfl, by rw [Int.natCast_succ], by omega, by rw [hR, show p + 2 + (i + 1) = q + 1 by omega], by omega, by omega, rfl⟩
                              have HFF := Lib.hid hfin
                              have hw1 : IntKind.i64.wrap (S * 16) = S * 16 := IntWalk.i64_in _ (by omega)
                              have hw2 : IntKind.i64.wrap (S * 16 + D) = S * 16 + D := IntWalk.i64_in _ (by omega)
                              clear hqe hS0 hS1 hp16 hR hq hd2 hdrop hD hD15 HR hpp hfin
                              go_wp2_with (go_at_call 93; (with_reducible refine (cH _).mono ?_); rintro e w' ⟨rfl, rfl⟩)
                              go_roundg g3
                              case measure => exact Nat.lt_succ_self g3
                              case rel => exact HFF.out
                    by_cases h85 : d = 85
                    · subst h85
                      have hef : ef sl (p + 1) = rd 8 0 (sl.drop (p + 2)) (p + 2) := by unfold ef; rw [HD.out]; rfl
                      obtain ⟨U, hU⟩ : ∃ U, U = unl 85 := ⟨_, rfl⟩
                      rw [← hU] at hu ⊢
                      have HE := Lib.hid hef
                      clear hU hef g39 h39
                      go_wp2
                      go_loopg [8, 15, 16] 8 (fun g2 s8 s15 s16 wx => RdI sl wr (rd 8 0 (sl.drop (p + 2)) (p + 2)) p 8 g2 s8 s15 s16 wx)
                      case atStart => exact ⟨0, 0, rfl, by go_num, rfl, rfl, by omega, rfl, by decide, by decide, rfl⟩
                      case round =>
                        obtain ⟨S, i, hi8, rfl, rfl, rfl, hql, hR, hS0, hS1, rfl⟩ := hrel
                        have hp16 := pow16 i (by omega)
                        obtain ⟨q, hq⟩ : ∃ q, q = p + 2 + i := ⟨_, rfl⟩
                        rw [← hq] at hR hql ⊢
                        have HQQ := Lib.hid hq
                        have HR := Lib.hid hR
                        cases gk with
                        | zero =>
                          have hin : i = 8 := by omega
                          subst hin
                          have cS : ∀ W, Calls Tryz.prog 77 #[.int .i64 S] W fun e w' => e = .returned (.bool (sgn S)) ∧ W = w' := fun W => refSign_any S W
                          clear hS0 hS1 hp16 hR hq
                          by_cases hsg : sgn S = true
                          · rw [hsg] at cS
                            have hfin : ∀ v W, Ints w.heap.size W v (acc ++ [S]) ∧ Below w.heap.size w W → QDI w sl r g v (.int .i64 (q : Int)) W := fun v W y => by
                              obtain ⟨a1, c1, hv⟩ := ints_shape2 y.1
                              have hq := HQ.out
                              rw [HE.out, HR.out, rd_zero, if_pos hsg] at hq
                              dsimp only at hq
                              have := HQQ.out
                              exact ⟨q, acc ++ [S], a1, c1, hq, hql, by omega, by simp; omega, rfl, hv, y.1, y.2⟩
                            have HF := Lib.hid hfin
                            clear hfin hsg
                            go_wp2_with (first
                              | (go_at_call 77; (with_reducible refine (cS _).mono ?_); rintro e w' ⟨rfl, rfl⟩)
                              | (at_builtin; refine wpList_append_own _ rfl _ _ 41 rfl w.heap.size 3 i0 (.int .i64 0) 1 8 Tryz.underlying41 hi hz0 hz1 hz2 rfl (by decide) _ _ _ rfl (World.ownsRow.alloc HI.out _) ⟨wr.heap.size, 0, none⟩ 1 1 [.int .i64 S] rfl rfl ?f1 ?f2 ?f3 ?f4 ?f5 ?_))
                            try (case f1 =>
                                intro j u hj
                                match j, hj with
                                | 0, hj => simp at hj; subst hj; simp [Addr.add])
                            try (case f2 => first | rfl | (intro u hu; simp at hu; subst hu; rfl))
                            try (case f3 => unfold maxLen; omega)
                            try (case f4 => omega)
                            try (case f5 => first | omega | (simp; omega))
                            intro v' w3 hown hgrow _
                            have HG := Lib.hid (HF.out v' w3 (ints_step HI.out hbw hbs hown hgrow))
                            clear hown hgrow
                            go_wp2
                            go_roundg g
                            case measure => omega
                            case rel => exact HG.out
                          · have hsf : sgn S = false := by simpa using hsg
                            rw [hsf] at cS
                            have hrr : r = (q - 1, none) := by rw [HQ.out, HE.out, HR.out, rd_zero, if_neg hsg]
                            have HRR := Lib.hid hrr
                            have hq1 : ((q - 1 : Nat) : Int) = (q : Int) - 1 := by have := HQQ.out; omega
                            have HQ1 := Lib.hid hq1
                            clear hsg hsf hrr hq1
                            go_wp2_with (go_at_call 77; (with_reducible refine (cS _).mono ?_); rintro e w' ⟨rfl, rfl⟩)
                            go_ret3
                            rw [HRR.out]
                            exact ⟨_, by rw [HQ1.out]; rfl, ints_nil _ _, hbw⟩
                        | succ g3 =>
                          have hin : (i : Int) < 8 := by omega
                          by_cases hqe : q = sl.length
                          · have hrr : r = (q, none) := by rw [HQ.out, HE.out, HR.out, hqe, List.drop_eq_nil_of_le (Nat.le_refl _), rd_end]
                            have HRR := Lib.hid hrr
                            have hge : (sl.length : Int) ≤ (q : Int) := by omega
                            clear hrr hqe hS0 hS1 hp16 hR hq
                            go_wp2
                            go_ret3
                            rw [HRR.out]
                            exact ⟨_, rfl, ints_nil _ _, hbw⟩
                          · have hqlt : (q : Int) < (sl.length : Int) := by omega
                            have hqge : ¬ (sl.length : Int) ≤ (q : Int) := by omega
                            have hq0 : (0 : Int) ≤ (q : Int) := by omega
                            obtain ⟨d2, hd2⟩ : ∃ d, sl[q]? = some d := ⟨_, List.getElem?_eq_getElem (by omega)⟩
                            have hcell9 : wr.cell? ⟨gc, oc + q, none⟩ = some (.int .i64 d2) := (hbw.cell (p := ⟨gc, oc + q, none⟩) hgc).trans (HC.out _ _ hd2)
                            have hdrop : sl.drop q = d2 :: sl.drop (q + 1) := by
                              have hj := (List.getElem?_eq_some_iff.1 hd2).1
                              rw [List.drop_eq_getElem_cons hj, (List.getElem?_eq_some_iff.1 hd2).2]
                            obtain ⟨D, hD⟩ : ∃ D, D = hexv d2 := ⟨_, rfl⟩
                            have hD15 : D ≤ 15 := by rw [hD]; unfold hexv; omega
                            have cH : ∀ W, Calls Tryz.prog 93 #[.int .i64 d2] W fun e w' => e = .returned (.int .i64 D) ∧ W = w' := fun W => by rw [hD]; exact refHex_any d2 W
                            rw [hdrop, rd_cons, ← hD] at hR
                            by_cases hneg : D < 0
                            · have hrr : r = (q, none) := by rw [HQ.out, HE.out, hR, if_pos hneg]
                              have HRR := Lib.hid hrr
                              clear hrr hqe hS0 hS1 hp16 hR hq hd2 hdrop hD hD15 HR
                              go_wp2_with (go_at_call 93; (with_reducible refine (cH _).mono ?_); rintro e w' ⟨rfl, rfl⟩)
                              go_ret3
                              rw [HRR.out]
                              exact ⟨_, rfl, ints_nil _ _, hbw⟩
                            · rw [if_neg hneg] at hR
                              have hpp : (16 : Int) ^ (i + 1) = 16 ^ i * 16 := Int.pow_succ _ _
                              have hfin : RdI sl wr (rd 8 0 (sl.drop (p + 2)) (p + 2)) p 8 g3 (.int .i64 ((q : Int) + 1)) (.int .i64 (S * 16 + D)) (.int .i64 ((i : Int) + 1)) wr :=
                                ⟨S * 16 + D, i + 1, by omega, by rw [show p + 2 + (i + 1) = q + 1 by omega, Int.natCast_succ], rfl, by rw [Int.natCast_succ], by omega, by rw [hR, show p + 2 + (i + 1) = q + 1 by omega], by omega, by omega, rfl⟩
                              have HFF := Lib.hid hfin
                              have hw1 : IntKind.i64.wrap (S * 16) = S * 16 := IntWalk.i64_in _ (by omega)
                              have hw2 : IntKind.i64.wrap (S * 16 + D) = S * 16 + D := IntWalk.i64_in _ (by omega)
                              clear hqe hS0 hS1 hp16 hR hq hd2 hdrop hD hD15 HR hpp hfin
                              go_wp2_with (go_at_call 93; (with_reducible refine (cH _).mono ?_); rintro e w' ⟨rfl, rfl⟩)
                              go_roundg g3
                              case measure => exact Nat.lt_succ_self g3
                              case rel => exact HFF.out
                    have g117 : (d == 117) = false := by simpa using h117
                    have g85 : (d == 85) = false := by simpa using h85
                    have hef : ef sl (p + 1) = (p + 1, none) := by unfold ef; rw [HD.out]; dsimp only; rw [if_neg h117, if_neg h85, if_neg hu]
                    have hrr : r = (p + 1, none) := by rw [HQ.out, hef]
                    have HRR := Lib.hid hrr
                    obtain ⟨U, hU⟩ : ∃ U, U = unl d := ⟨_, rfl⟩
                    rw [← hU] at hu ⊢
                    clear hU hef hrr h39 h117 h85
                    go_wp2
                    go_ret3
                    rw [HRR.out]
                    exact ⟨_, rfl, ints_nil _ _, hbw⟩
              | succ g2 =>
                have hm160 : (m : Int) < 160 := by omega
                have hlr : 0 ≤ lett m ∧ lett m < 128 := by unfold lett; omega
                have hw : IntKind.i64.wrap (lett m) = lett m := IntWalk.i64_in _ (by omega)
                have hL : ∀ W, Calls Tryz.prog 94 #[.int .i64 m] W fun e w' => e = .returned (.int .u8 (lett m)) ∧ W = w' := fun W => refLetter_any m W
                by_cases h0 : lett m = 0
                · have hpl3 : pl d (m + 1) = pl d m := by show (if _ then _ else _) = _; rw [if_neg (fun x => x.1 h0)]
                  have HPL := Lib.hid hpl3
                  have gz : (lett m == 0) = true := by simpa using h0
                  have gz' : (lett m != 0) = false := by simpa using h0
                  clear hpl3 h0
                  obtain ⟨L, hLL⟩ : ∃ L, L = lett m := ⟨_, rfl⟩
                  rw [← hLL] at hL gz gz' hlr hw
                  clear hLL
                  go_wp2_with (go_at_call 94; (with_reducible refine (hL _).mono ?_); rintro e w' ⟨rfl, rfl⟩)
                  go_roundg g2
                  case measure => omega
                  case rel => exact ⟨m + 1, by omega, by go_num, by rw [HPL.out], rfl⟩
                · have gz : (lett m == 0) = false := by simpa using h0
                  have gz' : (lett m != 0) = true := by simpa using h0
                  by_cases hc2 : lett m = d
                  · have hpl3 : pl d (m + 1) = m := by show (if _ then _ else _) = _; rw [if_pos ⟨h0, hc2⟩]
                    have HPL := Lib.hid hpl3
                    have gd : (lett m == d) = true := by simpa using hc2
                    clear hpl3 h0 hc2
                    obtain ⟨L, hLL⟩ : ∃ L, L = lett m := ⟨_, rfl⟩
                    rw [← hLL] at hL gz gz' hlr hw gd
                    clear hLL
                    go_wp2_with (go_at_call 94; (with_reducible refine (hL _).mono ?_); rintro e w' ⟨rfl, rfl⟩)
                    go_roundg g2
                    case measure => omega
                    case rel => exact ⟨m + 1, by omega, by go_num, by rw [HPL.out], rfl⟩
                  · have hpl3 : pl d (m + 1) = pl d m := by show (if _ then _ else _) = _; rw [if_neg (fun x => hc2 x.2)]
                    have HPL := Lib.hid hpl3
                    have gd : (lett m == d) = false := by simpa using hc2
                    clear hpl3 h0 hc2
                    obtain ⟨L, hLL⟩ : ∃ L, L = lett m := ⟨_, rfl⟩
                    rw [← hLL] at hL gz gz' hlr hw gd
                    clear hLL
                    go_wp2_with (go_at_call 94; (with_reducible refine (hL _).mono ?_); rintro e w' ⟨rfl, rfl⟩)
                    go_roundg g2
                    case measure => omega
                    case rel => exact ⟨m + 1, by omega, by go_num, by rw [HPL.out], rfl⟩
        · rw [if_neg h92] at hq
          have g92 : (c == 92) = false := by simpa using h92
          have hfin : ∀ v W, Ints w.heap.size W v (acc ++ [c]) ∧ Below w.heap.size w W → QDI w sl r g v (.int .i64 ((p : Int) + 1)) W := fun v W x => by
            obtain ⟨a1, c1, hv⟩ := ints_shape2 x.1
            exact ⟨p + 1, acc ++ [c], a1, c1, hq, by omega, by omega, by simp; omega, by go_num, hv, x.1, x.2⟩
          have HF := Lib.hid hfin
          clear hq hfin h34 hnl h92
          go_wp2_with (at_builtin; refine wpList_append_own _ rfl _ _ 41 rfl w.heap.size 3 i0 (.int .i64 0) 1 8 Tryz.underlying41 hi hz0 hz1 hz2 rfl (by decide) _ _ _ rfl (World.ownsRow.alloc hI _) ⟨wr.heap.size, 0, none⟩ 1 1 [.int .i64 c] rfl rfl ?c1 ?c2 ?c3 ?c4 ?c5 ?_)
          case c1 =>
            intro j u hj
            match j, hj with
            | 0, hj => simp at hj; subst hj; simp [Addr.add]
          case c2 => intro u hu; simp at hu; subst hu; rfl
          case c3 => unfold maxLen; omega
          case c4 => omega
          case c5 => simp; omega
          intro v' w3 hown hgrow _
          have HG := Lib.hid (HF.out v' w3 (ints_step HI.out hbw hbs hown hgrow))
          clear hown hgrow hI
          go_wp2
          go_roundg g
          case measure => omega
          case rel => exact HG.out
  · rw [if_neg (by simpa using h34)] at hr
    have g34 : (c0 == 34) = false := by simpa using h34
    have HR := Lib.hid hr
    clear hr hx0 hB0 h34
    go_enter Tryz.func72, Tryz.ntmps72
    go_wp2
    go_ret3
    rw [HR.out]
    exact ⟨_, rfl, ints_nil _ _, Below.refl _ _⟩
end Go.Proofs.YtpnfjjgihkmjmaaGreatDoor

/-
  THE DOCUMENT's signs as a slice of ints; 'Stands'; its Text and Quoted of such a slice.
-/
namespace Go.Proofs.YtpnfjjgihkmjmaaGreatDoor
open Go.RowKit
set_option linter.unusedVariables false

theorem ints_open {B : Nat} {w : World} {v : Value} {l : List Int} (h : Ints B w v l) : ∃ ao cap, v = .slice ao l.length cap ∧
    (0 < l.length → ∃ g, ao = some ⟨g, 0, none⟩ ∧ g < w.heap.size ∧ ∀ (j : Nat) (x : Int), l[j]? = some x → w.cell? ⟨g, 0 + j, none⟩ = some (.int .i64 x)) := by
  rcases id h.2 with ⟨hv, h0⟩ | ⟨g, cap, cur, hv, _⟩
  · exact ⟨none, 0, by rw [hv, h0], fun hp => by omega⟩
  · refine ⟨_, cap, hv, fun _ => ⟨g, rfl, (World.ownsRow.lt h g (by rw [hv]; rfl)).2, ?_⟩⟩
    intro j x hx
    subst hv
    have := World.ownsRow.cells h (g := g) rfl j (.int .i64 x) (by simp [intRow, hx])
    rw [addr_add] at this
    rw [Nat.zero_add]
    exact this
theorem text_ints {B : Nat} {W : World} {v : Value} {l : List Int} (h : Ints B W v l) (hall : AllS l) (hl : l.length ≤ 1000000) :
    Calls Tryz.prog 73 #[v] W fun e w' => e = .returned (.string (textOf l)) ∧ Below W.heap.size W w' := by
  obtain ⟨ao, cap, rfl, hc⟩ := ints_open h
  by_cases h0 : 0 < l.length
  · obtain ⟨g, rfl, hlt, hcell⟩ := hc h0
    exact text_any l hall hl _ g 0 cap W (fun _ => ⟨rfl, hlt⟩) hcell
  · obtain rfl : l = [] := List.length_eq_zero_iff.1 (by omega)
    exact text_any [] hall hl ao 0 0 cap W (fun hp => absurd hp (by simp)) (fun j x hx => by simp at hx)
/-- The document's signs, wherever they lie. -/
def Lv (W : World) (A : Option Addr) (sl : List Int) : Prop := 0 < sl.length → ∃ g o, A = some ⟨g, o, none⟩ ∧ g < W.heap.size ∧ ∀ (j : Nat) (x : Int), sl[j]? = some x → W.cell? ⟨g, o + j, none⟩ = some (.int .i64 x)
theorem Lv.below {B : Nat} {w w' : World} {A : Option Addr} {sl : List Int} (h : Lv w A sl) (hb : Below B w w') (hB : w.heap.size ≤ B) : Lv w' A sl := fun h0 => by
  obtain ⟨g, o, h1, h2, h3⟩ := h h0
  exact ⟨g, o, h1, Nat.lt_of_lt_of_le h2 hb.size, fun j x hx => (hb.cell (p := ⟨g, o + j, none⟩) (Nat.lt_of_lt_of_le h2 hB)).trans (h3 j x hx)⟩
theorem Lv.of {B : Nat} {w : World} {A : Option Addr} {c : Nat} {sl : List Int} (h : Ints B w (.slice A sl.length c) sl) : Lv w A sl := fun h0 => by
  obtain ⟨ao, cap, hv, hc⟩ := ints_open h
  cases hv
  obtain ⟨g, e, h1, h2⟩ := hc h0
  exact ⟨g, 0, e, h1, h2⟩
theorem rquoted_lv {W : World} {A : Option Addr} {sl : List Int} {cap : Nat} (h : Lv W A sl) (k : Nat) (hl : sl.length ≤ 100000) :
    Calls Tryz.prog 72 #[.slice A sl.length cap, .int .i64 k] W (QxPost W.heap.size W (qd sl k)) := by
  by_cases hk : k < sl.length
  · obtain ⟨g, o, rfl, hlt, hcell⟩ := h (by omega)
    exact rquoted_at sl k hk hl g o cap W hlt hcell
  · exact rquoted_far sl k (by omega) A cap W
set_option maxHeartbeats 2000000 in
theorem stands_any {W : World} {A : Option Addr} {sl : List Int} {cap : Nat} (h : Lv W A sl) (p : Nat) (c : Int) (h0 : 0 ≤ c) (h1 : c ≤ 255) (hl : sl.length ≤ 100000) :
    Calls Tryz.prog 42 #[.slice A sl.length cap, .int .i64 p, .int .u8 c] W fun e w' => e = .returned (.bool (decide (sl[p]? = some c))) ∧ W = w' := by
  by_cases hp : p < sl.length
  · obtain ⟨g, o, rfl, hlt, hcell⟩ := h (by omega)
    obtain ⟨x, hx⟩ : ∃ x, sl[p]? = some x := ⟨_, List.getElem?_eq_getElem hp⟩
    have hc := hcell p x hx
    have k1 : (p : Int) < (sl.length : Int) := by omega
    have k2 : (0 : Int) ≤ (p : Int) := by omega
    have hw : IntKind.i64.wrap c = c := IntWalk.i64_in _ (by omega)
    have hr : decide (sl[p]? = some c) = (x == c) := by
      rw [hx, Bool.eq_iff_iff, decide_eq_true_eq, beq_iff_eq, Option.some.injEq]
    have HR := Lib.hid hr
    clear hcell hx hr h h0 h1 hp
    go_enter Tryz.func42, Tryz.ntmps42
    go_wp2
    go_ret
    exact ⟨ret_bool (by rw [HR.out]), rfl⟩
  · have k1 : ¬ (p : Int) < (sl.length : Int) := by omega
    have hr : decide (sl[p]? = some c) = false := by rw [List.getElem?_eq_none (by omega)]; rfl
    have HR := Lib.hid hr
    clear hr h hp
    go_enter Tryz.func42, Tryz.ntmps42
    go_wp2
    go_ret
    exact ⟨ret_bool HR.out.symm, rfl⟩
end Go.Proofs.YtpnfjjgihkmjmaaGreatDoor
