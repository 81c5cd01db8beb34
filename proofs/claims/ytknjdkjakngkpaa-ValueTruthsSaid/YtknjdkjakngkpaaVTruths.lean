/-
  ValueTruths, WHATEVER THE TRUTHS: And and Or of them are the document's, each is the other one of the turned ones: the law returns true, and its argument reads as before.
-/
import Derived.Test.YtknjdkjakngkpaaVTru
import Derived.Test.YtknjdkjakngkpaaRows
import Derived.ProofKit
import Derived.OpenShut
import Derived.ChangeSlices
import Derived.Maps.AppendAt
import Derived.Laws.AppendOwn
import Derived.Laws.OwnMore
import Derived.OwnWalk
namespace Go.Proofs.Ytknjdkjakngkpaa
open Go.ChangeShapes Go.WideShapes Go.ChangeAt Go.RowKit
set_option linter.unusedVariables false

theorem ret_bool' {a b : Bool} (h : a = b) : Ending.returned (.bool a) = .returned (.bool b) := by rw [h]
def truRow (l : List Int) : List Value := l.map (Value.int .u8)
/-- A slice of truths that the call made. -/
def Tr (B : Nat) (w : World) (v : Value) (l : List Int) : Prop := w.ownsRow B 25 1 v l.length (truRow l)
theorem truInfo : (Try.prog.info? 25).map (fun i => (i.zero, i.size, i.bytes)) = some (some (.int .u8 0), 1, 1) := by kernel_rfl
theorem tr_shape {B : Nat} {w : World} {v : Value} {l : List Int} (h : Tr B w v l) : ∃ A c, v = .slice A l.length c ∧ TAt w A l := by
  rcases h.2 with ⟨hv, hl⟩ | ⟨g, cap, cur, hv, _⟩
  · obtain rfl : l = [] := List.length_eq_zero_iff.1 hl
    exact ⟨none, 0, hv, fun j x hx => by simp at hx⟩
  · refine ⟨_, cap, hv, fun j x hx => ⟨g, 0, rfl, ?_⟩⟩
    have := World.ownsRow.cells h (g := g) (by rw [hv]; rfl) j (.int .u8 x) (by simp [truRow, hx])
    have e : (⟨g, 0, none⟩ : Addr).add j = ⟨g, 0 + j, none⟩ := by
      by_cases hj : j = 0
      · subst hj; simp [Addr.add]
      · simp [Addr.add, hj]
    rw [← e]; exact this
/-- Two slices of the call's own, in blocks of their own. -/
def Apart (v u : Value) : Prop := v.ownBlock = none ∨ v.ownBlock ≠ u.ownBlock
theorem Apart.symm {v u : Value} (h : Apart v u) : Apart u v := by
  unfold Apart at *
  rcases h with h | h
  · cases hu : u.ownBlock with
    | none => exact .inl rfl
    | some k => exact .inr (by rw [h]; simp)
  · exact .inr (fun e => h e.symm)
theorem tr_step {B : Nat} {w wr w3 : World} {v v' u : Value} {a b : List Int} {n : Int} (hv : Tr B wr v a) (hu : Tr B wr u b) (hap : Apart v u) (hb : Below B w wr) (hB : B ≤ wr.heap.size) (o : Obj)
    (hown : w3.ownsRow B 25 1 v' (a.length + 1) (truRow a ++ [.int .u8 n])) (hgr : (wr.alloc o).grownBy w3 v.ownBlock) (hat : v'.ownBlock = v.ownBlock ∨ v'.ownBlock = some (wr.heap.size + 1)) :
    Tr B w3 v' (a ++ [n]) ∧ Tr B w3 u b ∧ Apart v' u ∧ Below B w w3 := by
  refine ⟨?_, ?_, ?_, (hb.alloc hB _).grown hgr (by simp; omega) (fun k hk => (World.ownsRow.lt hv k hk).1)⟩
  · unfold Tr truRow
    rw [List.length_append, List.map_append]
    exact hown
  · exact (World.ownsRow.alloc hu o).kept hgr hap.symm
  · rcases hat with e | e
    · unfold Apart; rw [e]; exact hap
    · refine .inr ?_
      rw [e]
      intro k
      have := (World.ownsRow.lt hu _ k.symm).2
      omega
def m4 (l : List Int) : List Int := l.map (· % 4)
/-- The loop's relation. -/
def TrI (w : World) (l : List Int) (g : Nat) (s3 s4 s5 s6 s7 s23 : Value) (wr : World) : Prop :=
  ∃ (k : Nat) (A3 A4 : Option Addr) (c3 c4 : Nat), k + g = l.length ∧ s23 = .int .i64 k ∧ s3 = .slice A3 (m4 (l.take k)).length c3 ∧ s4 = .slice A4 ((m4 (l.take k)).map nt).length c4 ∧ Tr w.heap.size wr s3 (m4 (l.take k)) ∧ Tr w.heap.size wr s4 ((m4 (l.take k)).map nt) ∧ Apart s3 s4 ∧
    s5 = .bool ((m4 (l.take k)).any (· == 1)) ∧ s6 = .bool ((m4 (l.take k)).any (· == 0)) ∧ s7 = .bool ((m4 (l.take k)).any (2 ≤ ·)) ∧ Below w.heap.size w wr
theorem dcF_eq (f ans : Int) : ∀ l : List Int, dcF f ans l = if l.any (· == f) then f else if l.any (2 ≤ ·) then 2 else ans
  | [] => rfl
  | a :: l => by
    unfold dcF
    rw [dcF_eq f _ l]
    by_cases h1 : a = f
    · simp [h1]
    · by_cases h2 : 2 ≤ a
      · simp [h1, h2]
      · simp [h1, h2]
theorem any_nt1 : ∀ l : List Int, (l.map nt).any (· == 1) = l.any (· == 0)
  | [] => rfl
  | a :: l => by
    simp only [List.map_cons, List.any_cons, any_nt1 l]
    congr 1
    rw [Bool.eq_iff_iff, beq_iff_eq, beq_iff_eq]
    unfold nt; omega
theorem any_nt2 : ∀ l : List Int, (∀ x ∈ l, 0 ≤ x) → (l.map nt).any (2 ≤ ·) = l.any (2 ≤ ·)
  | [], _ => rfl
  | a :: l, h => by
    simp only [List.map_cons, List.any_cons, any_nt2 l (fun x hx => h x (List.mem_cons_of_mem _ hx))]
    congr 1
    have := h a (List.mem_cons_self ..)
    rw [Bool.eq_iff_iff, decide_eq_true_eq, decide_eq_true_eq]
    unfold nt; omega
theorem m4_snoc (l : List Int) (k : Nat) (x : Int) (h : l[k]? = some x) : m4 (l.take (k + 1)) = m4 (l.take k) ++ [x % 4] := by
  unfold m4
  rw [List.take_add_one, h]
  simp
theorem m4_non (l : List Int) : ∀ x ∈ m4 l, 0 ≤ x := by
  intro x hx
  simp only [m4, List.mem_map] at hx
  obtain ⟨y, _, rfl⟩ := hx
  omega
def AllByte (l : List Int) : Prop := ∀ x ∈ l, 0 ≤ x ∧ x ≤ 255
theorem tr_tat {B : Nat} {w : World} {A : Option Addr} {n c : Nat} {l : List Int} (h : Tr B w (.slice A n c) l) : TAt w A l := by
  obtain ⟨A', c', e, h'⟩ := tr_shape h
  injection e with e1 e2 e3
  rw [e1]; exact h'
theorem awake_again {w : World} (W : World) (hW : Below w.heap.size w W) : Calls Try.prog 11 #[] W fun e w' => e = .returned (.bool true) ∧ Below w.heap.size w w' :=
  (awake_ok W).mono fun e w' ⟨a, b⟩ => ⟨a, hW.trans (b.mono hW.size)⟩
theorem nt_nt (y : Int) (h0 : 0 ≤ y) (h2 : y < 2) : (nt (nt y) != y) = false := by
  have : y = 0 ∨ y = 1 := by omega
  rcases this with rfl | rfl <;> rfl
theorem nt_two (y : Int) (h2 : ¬ y < 2) : (nt y != 2) = false := by
  have : nt y = 2 := by unfold nt; omega
  rw [this]; rfl
set_option maxHeartbeats 8000000 in
set_option maxRecDepth 100000 in
theorem truths_walk (l : List Int) (hl : AllByte l) (A : Option Addr) (cap : Nat) (hlc : l.length ≤ cap) (hcm : cap ≤ maxLen) (w : World)
    (hat : ∀ (j : Nat) (x : Int), l[j]? = some x → ∃ g o, A = some ⟨g, o, none⟩ ∧ g < w.heap.size ∧ w.cell? ⟨g, o + j, none⟩ = some (.int .u8 x)) :
    Calls Try.prog 3 #[.slice A l.length cap] w fun e w' => e = .returned (.bool true) ∧ Below w.heap.size w w' := by
  have HL := Lib.hid hl
  have HA := Lib.hid hat
  obtain ⟨i0, hi, hz0, hz1, hz2⟩ := info_parts truInfo
  clear hl hat hlc hcm
  have hb0 : Below w.heap.size w w := Below.refl _ _
  by_cases h40 : 40 < l.length
  · have h40' : (40 : Int) < (l.length : Int) := by omega
    go_enter Try.func3, Try.ntmps3
    go_wp2_with (go_at_call 11; (with_reducible refine (awake_again (w := w) _ (by assumption)).mono ?_); rintro e w' ⟨rfl, hb2⟩)
    go_ret
    exact ⟨rfl, by assumption⟩
  · have h40' : ¬ (40 : Int) < (l.length : Int) := by omega
    go_enter Try.func3, Try.ntmps3
    go_wp2_with (go_at_call 11; (with_reducible refine (awake_ok _).mono ?_); rintro e w1 ⟨rfl, hb1⟩)
    clear hb0
    go_loopg [3, 4, 5, 6, 7, 23] l.length (fun g s3 s4 s5 s6 s7 s23 wr => TrI w l g s3 s4 s5 s6 s7 s23 wr)
    case atStart => exact ⟨0, none, none, 0, 0, by omega, rfl, rfl, rfl, World.ownsRow_nil _ _ _ _, World.ownsRow_nil _ _ _ _, .inl rfl, rfl, rfl, rfl, hb1⟩
    case round =>
      clear hb1
      obtain ⟨k, A3, A4, c3, c4, hkg, rfl, rfl, rfl, hT3, hT4, hap, rfl, rfl, rfl, hbw⟩ := hrel
      have hbs := hbw.size
      cases gk with
      | zero =>
        have hk : k = l.length := by omega
        have hge : ¬ ((k : Int) < (l.length : Int)) := by omega
        have hlen : (m4 (l.take k)).length ≤ 40 := by simp [m4]; omega
        have hnon := m4_non (l.take k)
        obtain ⟨m, hm⟩ : ∃ m, m = m4 (l.take k) := ⟨_, rfl⟩
        rw [← hm] at hT3 hT4 hap hlen hnon ⊢
        obtain ⟨mn, hmn⟩ : ∃ mn, mn = m.map nt := ⟨_, rfl⟩
        have c1 := and_any m (by omega) A3 c3 wr (tr_tat hT3)
        have c2 := or_any m (by omega) A3 c3 wr (tr_tat hT3)
        have c4' := or_any (m.map nt) (by simp; omega) A4 c4 wr (tr_tat hT4)
        rw [dcF_eq] at c1 c2 c4'
        rw [any_nt1, any_nt2 m hnon] at c4'
        rw [← hmn] at c4' ⊢
        obtain ⟨b5, hb5⟩ : ∃ b, b = m.any (· == 1) := ⟨_, rfl⟩
        obtain ⟨b6, hb6⟩ : ∃ b, b = m.any (· == 0) := ⟨_, rfl⟩
        obtain ⟨b7, hb7⟩ : ∃ b, b = m.any (2 ≤ ·) := ⟨_, rfl⟩
        rw [← hb5, ← hb6, ← hb7]
        rw [← hb6, ← hb7] at c1 c4'
        rw [← hb5, ← hb7] at c2
        have cN0 : ∀ W, Calls Try.prog 12 #[.int .u8 0] W fun e w' => e = .returned (.int .u8 1) ∧ W = w' := not_any 0
        have cN1 : ∀ W, Calls Try.prog 12 #[.int .u8 1] W fun e w' => e = .returned (.int .u8 0) ∧ W = w' := not_any 1
        have cN2 : ∀ W, Calls Try.prog 12 #[.int .u8 2] W fun e w' => e = .returned (.int .u8 2) ∧ W = w' := not_any 2
        have cT : ∀ W, Calls Try.prog 15 #[.bool true] W fun e w' => e = .returned (.int .u8 1) ∧ W = w' := of_any true
        have cF : ∀ W, Calls Try.prog 15 #[.bool false] W fun e w' => e = .returned (.int .u8 0) ∧ W = w' := of_any false
        clear hT3 hT4 hap hlen hnon hm hmn hb5 hb6 hb7 hk hbs h40 h40'
        cases b5 <;> cases b6 <;> cases b7
        all_goals
          simp only [if_true, if_false, Bool.false_eq_true] at c1 c2 c4'
          go_wp2_with (first
            | (go_at_call 13; (with_reducible refine c1.mono ?_); rintro e w' ⟨rfl, rfl⟩)
            | (go_at_call 14; (with_reducible refine c2.mono ?_); rintro e w' ⟨rfl, rfl⟩)
            | (go_at_call 14; (with_reducible refine c4'.mono ?_); rintro e w' ⟨rfl, rfl⟩)
            | (go_at_call 12; (with_reducible refine (cN0 _).mono ?_); rintro e w' ⟨rfl, rfl⟩)
            | (go_at_call 12; (with_reducible refine (cN1 _).mono ?_); rintro e w' ⟨rfl, rfl⟩)
            | (go_at_call 12; (with_reducible refine (cN2 _).mono ?_); rintro e w' ⟨rfl, rfl⟩)
            | (go_at_call 15; (with_reducible refine (cT _).mono ?_); rintro e w' ⟨rfl, rfl⟩)
            | (go_at_call 15; (with_reducible refine (cF _).mono ?_); rintro e w' ⟨rfl, rfl⟩))
          go_ret
          exact ⟨rfl, hbw⟩
      | succ g =>
        have hlt : (k : Int) < (l.length : Int) := by omega
        obtain ⟨x, hx⟩ : ∃ x, l[k]? = some x := ⟨_, List.getElem?_eq_getElem (by omega)⟩
        obtain ⟨gb, o, rfl, hgb, hcell0⟩ := HA.out k x hx
        have hcell : wr.cell? ⟨gb, o + k, none⟩ = some (.int .u8 x) := (hbw.cell (p := ⟨gb, o + k, none⟩) hgb).trans hcell0
        have hx0 : 0 ≤ x := (HL.out x (List.mem_of_getElem? hx)).1
        have HS := Lib.hid (m4_snoc l k x hx)
        have hN : ∀ W, Calls Try.prog 12 #[.int .u8 (x % 4)] W fun e w' => e = .returned (.int .u8 (nt (x % 4))) ∧ W = w' := not_any _
        have hN2 : ∀ W, Calls Try.prog 12 #[.int .u8 (nt (x % 4))] W fun e w' => e = .returned (.int .u8 (nt (nt (x % 4)))) ∧ W = w' := not_any _
        have hlen : (m4 (l.take k)).length ≤ 40 := by simp [m4]; omega
        have hlen2 : ((m4 (l.take k)).map nt).length ≤ 40 := by simp [m4]; omega
        obtain ⟨m, hm⟩ : ∃ m, m = m4 (l.take k) := ⟨_, rfl⟩
        rw [← hm] at hT3 hT4 hap hlen hlen2 HS ⊢
        obtain ⟨mn, hmn⟩ : ∃ mn, mn = m.map nt := ⟨_, rfl⟩
        rw [← hmn] at hT4 hap hlen2 ⊢
        obtain ⟨b5, hb5⟩ : ∃ b, b = m.any (· == 1) := ⟨_, rfl⟩
        obtain ⟨b6, hb6⟩ : ∃ b, b = m.any (· == 0) := ⟨_, rfl⟩
        obtain ⟨b7, hb7⟩ : ∃ b, b = m.any (2 ≤ ·) := ⟨_, rfl⟩
        rw [← hb5, ← hb6, ← hb7]
        have H5 := Lib.hid hb5
        have H6 := Lib.hid hb6
        have H7 := Lib.hid hb7
        obtain ⟨N, hNN⟩ : ∃ N, N = nt (x % 4) := ⟨_, rfl⟩
        have f1 : x % 4 < 2 → (nt N != x % 4) = false := fun h => by rw [hNN]; exact nt_nt _ (by omega) h
        have f2 : ¬ x % 4 < 2 → (N != 2) = false := fun h => by rw [hNN]; exact nt_two _ h
        rw [← hNN] at hN hN2
        have HMN := Lib.hid hmn
        have HNN := Lib.hid hNN
        have H3 := Lib.hid hT3
        have H4 := Lib.hid hT4
        have HP := Lib.hid hap
        clear hx hcell0 hm hmn hNN hT3 hT4 hap hb5 hb6 hb7
        go_wp2_with (at_builtin; refine wpList_append_own_at _ rfl _ _ 24 rfl w.heap.size 25 i0 (.int .u8 0) 1 1 Try.underlying24 hi hz0 hz1 hz2 rfl (by decide) _ _ _ rfl (World.ownsRow.alloc H3.out _) ⟨wr.heap.size, 0, none⟩ 1 1 [.int .u8 (x % 4)] rfl rfl ?c1 ?c2 ?c3 ?c4 ?c5 ?_)
        try (case c1 =>
              intro j u hj
              match j, hj with
              | 0, hj => simp at hj; subst hj; simp [Addr.add])
        try (case c2 => first | rfl | (intro u hu; simp at hu; subst hu; rfl))
        try (case c3 => unfold maxLen; omega)
        try (case c4 => omega)
        try (case c5 => first | omega | (simp; omega))
        intro v3 w3 hown3 hgr3 _ hat3
        have HS3 := Lib.hid (tr_step H3.out H4.out HP.out hbw hbs _ hown3 hgr3 hat3)
        have hbs3 := HS3.out.2.2.2.size
        clear hown3 hgr3 hat3
        go_wp2_with (first
          | (go_at_call 12; (with_reducible refine (hN _).mono ?_); rintro e w' ⟨rfl, rfl⟩)
          | (at_builtin; refine wpList_append_own_at _ rfl _ _ 24 rfl w.heap.size 25 i0 (.int .u8 0) 1 1 Try.underlying24 hi hz0 hz1 hz2 rfl (by decide) _ _ _ rfl (World.ownsRow.alloc HS3.out.2.1 _) ⟨w3.heap.size, 0, none⟩ 1 1 [.int .u8 N] rfl rfl ?d1 ?d2 ?d3 ?d4 ?d5 ?_))
        try (case d1 =>
              intro j u hj
              match j, hj with
              | 0, hj => simp at hj; subst hj; simp [Addr.add])
        try (case d2 => first | rfl | (intro u hu; simp at hu; subst hu; rfl))
        try (case d3 => unfold maxLen; omega)
        try (case d4 => omega)
        try (case d5 => first | omega | (simp; omega))
        intro v4 w4 hown4 hgr4 _ hat4
        have HS4 := Lib.hid (tr_step HS3.out.2.1 HS3.out.1 HS3.out.2.2.1.symm HS3.out.2.2.2 hbs3 _ hown4 hgr4 hat4)
        clear hown4 hgr4 hat4
        have hfin : ∀ d5 d6 d7 : Bool, d5 = (b5 || x % 4 == 1) → d6 = (b6 || x % 4 == 0) → d7 = (b7 || decide (2 ≤ x % 4)) →
            TrI w l g v3 v4 (.bool d5) (.bool d6) (.bool d7) (.int .i64 ((k : Int) + 1)) w4 := by
          intro d5 d6 d7 e5 e6 e7
          obtain ⟨A4, c4, hv4, _⟩ := tr_shape HS4.out.1
          obtain ⟨A3, c3, hv3, _⟩ := tr_shape HS4.out.2.1
          have em : (m ++ [x % 4]).map nt = mn ++ [N] := by rw [List.map_append, ← HMN.out, HNN.out]; rfl
          refine ⟨k + 1, A3, A4, c3, c4, by omega, by go_num, ?_, ?_, ?_, ?_, HS4.out.2.2.1.symm, ?_, ?_, ?_, HS4.out.2.2.2⟩
          · rw [HS.out]; exact hv3
          · rw [HS.out, em]; exact hv4
          · rw [HS.out]; exact HS4.out.2.1
          · rw [HS.out, em]; exact HS4.out.1
          · rw [HS.out, e5, H5.out]; simp
          · rw [HS.out, e6, H6.out]; simp
          · rw [HS.out, e7, H7.out]; simp
        have HF := Lib.hid hfin
        clear hfin hlen hlen2 hbs3 hbs hlt
        have hy4 : x % 4 = 0 ∨ x % 4 = 1 ∨ x % 4 = 2 ∨ x % 4 = 3 := by omega
        rcases hy4 with hy | hy | hy | hy
        · have q0 : (x % 4 == 0) = true := by rw [hy]; rfl
          have q1 : (x % 4 == 1) = false := by rw [hy]; rfl
          have q2 : decide (2 ≤ x % 4) = false := by rw [hy]; rfl
          have q3 : decide (x % 4 < 2) = true := by rw [hy]; rfl
          have HF2 := Lib.hid (HF.out _ _ _ rfl rfl rfl)
          rw [q0, q1, q2] at HF2
          have g1 := f1 (by omega)
          clear f1 f2 hy HF H5 H6 H7
          cases b5 <;> cases b6 <;> cases b7
          all_goals
            go_wp2_with (first
              | (go_at_call 12; (with_reducible refine (hN _).mono ?_); rintro e w' ⟨rfl, rfl⟩)
              | (go_at_call 12; (with_reducible refine (hN2 _).mono ?_); rintro e w' ⟨rfl, rfl⟩))
            go_roundg g
            case measure => omega
            case rel => simpa using HF2.out
        · have q0 : (x % 4 == 0) = false := by rw [hy]; rfl
          have q1 : (x % 4 == 1) = true := by rw [hy]; rfl
          have q2 : decide (2 ≤ x % 4) = false := by rw [hy]; rfl
          have q3 : decide (x % 4 < 2) = true := by rw [hy]; rfl
          have HF2 := Lib.hid (HF.out _ _ _ rfl rfl rfl)
          rw [q0, q1, q2] at HF2
          have g1 := f1 (by omega)
          clear f1 f2 hy HF H5 H6 H7
          cases b5 <;> cases b6 <;> cases b7
          all_goals
            go_wp2_with (first
              | (go_at_call 12; (with_reducible refine (hN _).mono ?_); rintro e w' ⟨rfl, rfl⟩)
              | (go_at_call 12; (with_reducible refine (hN2 _).mono ?_); rintro e w' ⟨rfl, rfl⟩))
            go_roundg g
            case measure => omega
            case rel => simpa using HF2.out
        · have q0 : (x % 4 == 0) = false := by rw [hy]; rfl
          have q1 : (x % 4 == 1) = false := by rw [hy]; rfl
          have q2 : decide (2 ≤ x % 4) = true := by rw [hy]; rfl
          have q3 : decide (x % 4 < 2) = false := by rw [hy]; rfl
          have HF2 := Lib.hid (HF.out _ _ _ rfl rfl rfl)
          rw [q0, q1, q2] at HF2
          have g1 := f2 (by omega)
          clear f1 f2 hy HF H5 H6 H7
          cases b5 <;> cases b6 <;> cases b7
          all_goals
            go_wp2_with (first
              | (go_at_call 12; (with_reducible refine (hN _).mono ?_); rintro e w' ⟨rfl, rfl⟩)
              | (go_at_call 12; (with_reducible refine (hN2 _).mono ?_); rintro e w' ⟨rfl, rfl⟩))
            go_roundg g
            case measure => omega
            case rel => simpa using HF2.out
        · have q0 : (x % 4 == 0) = false := by rw [hy]; rfl
          have q1 : (x % 4 == 1) = false := by rw [hy]; rfl
          have q2 : decide (2 ≤ x % 4) = true := by rw [hy]; rfl
          have q3 : decide (x % 4 < 2) = false := by rw [hy]; rfl
          have HF2 := Lib.hid (HF.out _ _ _ rfl rfl rfl)
          rw [q0, q1, q2] at HF2
          have g1 := f2 (by omega)
          clear f1 f2 hy HF H5 H6 H7
          cases b5 <;> cases b6 <;> cases b7
          all_goals
            go_wp2_with (first
              | (go_at_call 12; (with_reducible refine (hN _).mono ?_); rintro e w' ⟨rfl, rfl⟩)
              | (go_at_call 12; (with_reducible refine (hN2 _).mono ?_); rintro e w' ⟨rfl, rfl⟩))
            go_roundg g
            case measure => omega
            case rel => simpa using HF2.out

namespace ValueTruthsF
theorem own : ownKnob Try.prog.godebug = none := by kernel_rfl
theorem laidOut : laidOutB Try.prog = true := by kernel_rfl
theorem cellsE : Try.prog.cellsOf 5 = 1 := by kernel_rfl

set_option maxRecDepth 100000 in
theorem lifted (os : Os) (started : os.Started) (H : Type) (enc : TypeId × Value → H) :
    ReturnsInHanded {} Try.checked os 3 .any (Rows.valueTruthsSpec.pre6 enc Try.prog Try.f3 Rows.valueTruthsRow.domain false) (Rows.valueTruthsSpec.post enc Try.prog Try.f3 false true false false) := by
  refine returnsInHanded_of_change (C := Try.checked) own started (by kernel_rfl) Try.func3
    (ChangeSpec.witness6 (enc := enc) (C := Try.checked) false ⟨#[], #[.slice none 0 0], []⟩ 8 (by kernel_rfl) (by kernel_rfl) (by kernel_rfl) (by kernel_rfl)) ?_
  intro W base args ds gs before hval0 hW hcnd _
  have hval : ∀ (j : Nat) t v, Try.f3.params[j]? = some t → args[j]? = some v → Value.okWide Try.prog W .any base t v := hval0
  have hW' := hW
  obtain ⟨p, q, hA0, hV, rfl, hfz, hnd⟩ := hW
  have hA : DataW.TrodAll enc Try.prog W 0 (fun _ => true) true Try.f3.params.toList args.toList ds p := hA0
  rw [Try.params3] at hA hval
  obtain ⟨v0, vs0, d0, ds0, p0, q0, hargs, rfl, rfl, h0, r0⟩ := trodAll_cons hA
  obtain ⟨rfl, rfl, rfl⟩ := trodAll_nil r0
  obtain rfl : args = #[v0] := by cases args; simp_all
  obtain ⟨rfl, rfl⟩ := trodVars_none hV
  obtain ⟨a0, len0, cap0, rfl⟩ := okWide_slice Try.underlying22 (hval 0 22 v0 rfl rfl)
  have hk0 := h0
  obtain ⟨fu0, hf0⟩ := h0
  clear hA0 hval0
  simp only [List.append_nil] at hW'
  have hlt : ∀ x ∈ p0, x.block < W.heap.size := fun x hx => by
    have := hW'.lt x (by first | exact hx | simp [hx])
    simpa using this
  have hargs0 : ∀ (W' : World), Below W.heap.size W W' → DataW.Trod enc Try.prog W' 0 (fun b => decide (b < W.heap.size)) true 22 (.slice a0 len0 cap0) d0 p0 :=
    fun W' hn => Below.trod laidOut (by kernel_rfl) (of_decide_eq_true (by kernel_rfl)) hk0 hn hlt
  obtain ⟨l, hll, hlc, hcm, hlf, hat⟩ : ∃ l : List Int, l.length = len0 ∧ len0 ≤ cap0 ∧ cap0 ≤ maxLen ∧ (∀ x ∈ l, True ∧ (Lit.int .u8 x).wf = true) ∧ ∀ (j : Nat) (x : Int), l[j]? = some x → ∃ g o, a0 = some ⟨g, o, none⟩ ∧ g < W.heap.size ∧ W.cell? ⟨g, o + j, none⟩ = some (.int .u8 x) := by
    rcases open_ints Try.underlying22 Try.underlying5 cellsE hf0 with ⟨hcs, hx⟩ | ⟨a, len', cap', zs, hcs, _, hl, hm, hz, hx, hcell, hwz⟩
    · simp [Value.cells] at hcs
      obtain ⟨rfl, rfl, rfl⟩ := hcs
      exact ⟨[], rfl, Nat.le_refl _, by decide, (fun x hx => by cases hx), (fun j x hx => by simp at hx)⟩
    · simp [Value.cells] at hcs
      obtain ⟨rfl, rfl, rfl⟩ := hcs
      simp only [Prod.mk.injEq] at hx
      obtain ⟨rfl, rfl⟩ := hx
      simp only [if_true] at hz
      refine ⟨zs.take len0, by simp; omega, hl, hm, fun x hx => ⟨trivial, hwz x (List.mem_of_mem_take hx)⟩, fun j x hx => ?_⟩
      have hj : j < len0 := by have := (List.getElem?_eq_some_iff.1 hx).1; simp at this; omega
      have hxz : zs.getD j 0 = x := by rw [List.getElem?_take_of_lt hj] at hx; simp [List.getD, hx]
      obtain ⟨b, off, spot⟩ := a
      have hspot : spot = none := by simpa [Addr.add] using World.cell?_spot (hcell 0 (by omega))
      subst hspot
      have hbW : b < W.heap.size := hlt (.cell b off) (MemPlace.mem_row.2 ⟨0, by omega, by simp⟩)
      refine ⟨b, off, rfl, hbW, ?_⟩
      rw [← add_plain, ← hxz]
      exact hcell j (by omega)
  subst hll
  refine (truths_walk l (fun x hx => bounds_u8 (hlf x hx).2) a0 cap0 hlc hcm  W hat).mono fun e W' ⟨he, hb⟩ => ?_
  subst he
  refine ⟨_, rfl, _, _, _, [], _, [], hW', trodAll_mk1 (shut_bool Try.underlying4 _), trodAll_cons_mk (hargs0 _ hb) (trodAll_mk0), rfl, hb.frame _, fun h => by cases h⟩
end ValueTruthsF
theorem valueTruths_holds : Rows.ValueTruthsSaid :=
  OpenClaim.holds_of_wide 3 Try.f3 rfl rfl rfl rfl rfl rfl rfl ⟨rfl, rfl, rfl, rfl, rfl⟩ rfl rfl rfl rfl rfl (by kernel_rfl) Try.func3 (by kernel_rfl)
    (of_decide_eq_true (by kernel_rfl)) (by unfold Func.isWrapper; first | (rw [if_pos (by decide +kernel)]; kernel_rfl) | (rw [if_neg (by decide +kernel)]; exact ⟨rfl, rfl⟩))
    (fun os started H enc _ => ValueTruthsF.lifted os started H enc)

end Go.Proofs.Ytknjdkjakngkpaa
