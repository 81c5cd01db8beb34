/-
  THE DOCUMENT's 'Of': the number of an integer.
-/
import Derived.Test.YtaoelnfflkkeeaaGreatDoorVTrim
import Derived.Laws.AppendOwn
import Derived.Laws.OwnMore
import Derived.OwnWalk
namespace Go.Proofs.YtaoelnfflkkeeaaGreatDoor
open Go.RowKit
set_option linter.unusedVariables false

theorem dInfo : (Tryz.prog.info? 3).map (fun i => (i.zero, i.size, i.bytes)) = some (some (.int .i64 0), 1, 8) := by kernel_rfl
def dRow (l : List Int) : List Value := l.map (Value.int .i64)
/-- Digits that the call made. -/
def Own (B : Nat) (w : World) (v : Value) (l : List Int) : Prop := w.ownsRow B 3 1 v l.length (dRow l)
theorem own_shape {B : Nat} {w : World} {v : Value} {l : List Int} (h : Own B w v l) : ∃ A c, v = .slice A l.length c ∧ l.length ≤ c ∧ c ≤ maxLen ∧ DAt w A l := by
  rcases h.2 with ⟨hv, hl⟩ | ⟨g, cap, cur, hv, _, hh, hn, hm, _⟩
  · obtain rfl : l = [] := List.length_eq_zero_iff.1 hl
    exact ⟨none, 0, hv, Nat.le_refl _, by decide, DAt.nil _ _⟩
  · refine ⟨_, cap, hv, hn, hm, fun j x hx => ⟨g, 0, rfl, (Array.getElem?_eq_some_iff.1 hh).1, ?_⟩⟩
    have := World.ownsRow.cells h (g := g) (by rw [hv]; rfl) j (.int .i64 x) (by simp [dRow, hx])
    have e : (⟨g, 0, none⟩ : Addr).add j = ⟨g, 0 + j, none⟩ := by
      by_cases hj : j = 0
      · subst hj; simp [Addr.add]
      · simp [Addr.add, hj]
    rw [← e]; exact this
theorem own_shape2 {B : Nat} {w : World} {A : Option Addr} {n c : Nat} {l : List Int} (h : Own B w (.slice A n c) l) : n = l.length ∧ l.length ≤ c ∧ c ≤ maxLen ∧ DAt w A l := by
  obtain ⟨A', c', e, h1, h2, h3⟩ := own_shape h
  injection e with e1 e2 e3
  subst e1; subst e3
  exact ⟨e2, h1, h2, h3⟩
theorem Own.nil (B : Nat) (w : World) : Own B w (.slice none 0 0) [] := World.ownsRow_nil _ _ _ _
theorem Own.alloc {B : Nat} {w : World} {v : Value} {l : List Int} (h : Own B w v l) (o : Obj) : Own B (w.alloc o) v l := World.ownsRow.alloc h o
theorem own_ne {B : Nat} {w : World} {v : Value} {l : List Int} {g : Nat} {cs : Array Value} (h : Own B w v l) (hg : Bk w g 37 cs) : v.ownBlock ≠ some g := by
  rcases h.2 with ⟨rfl, _⟩ | ⟨g', cap, cur, rfl, _, hh, _⟩
  · simp [Value.ownBlock]
  · intro he
    have : g' = g := by simpa [Value.ownBlock] using he
    exact Bk.ne (t := 3) hh hg (by decide) this
theorem Own.set {B : Nat} {w : World} {v : Value} {l : List Int} (h : Own B w v l) {g : Nat} {cs : Array Value} (hg : Bk w g 37 cs) (i : Nat) (u : Value) : Own B (w.setCell ⟨g, i, none⟩ u) v l := by
  refine ⟨h.1, ?_⟩
  rcases h.2 with x | ⟨g', cap, cur, hv, hB, hh, rest⟩
  · exact .inl x
  · refine .inr ⟨g', cap, cur, hv, hB, ?_, rest⟩
    have hne : g' ≠ g := Bk.ne (t := 3) hh hg (by decide)
    exact (Below.heap_setCell w ⟨g, i, none⟩ u g' hne).trans hh
theorem Own.below {B : Nat} {w w' : World} {v : Value} {l : List Int} (h : Own B w v l) (hb : Below w.heap.size w w') : Own B w' v l := by
  refine ⟨h.1, ?_⟩
  rcases h.2 with x | ⟨g, cap, cur, hv, hg, hh, rest⟩
  · exact .inl x
  · exact .inr ⟨g, cap, cur, hv, hg, (hb.block g (Array.getElem?_eq_some_iff.1 hh).1).trans hh, rest⟩
theorem Own.drewN {B : Nat} {w : World} {v : Value} {l : List Int} (h : Own B w v l) (n : Nat) : Own B (w.drewN n) v l := h
theorem own_snoc {B : Nat} {w3 : World} {v' : Value} {out : List Int} {d : Int} (hown : w3.ownsRow B 3 1 v' (out.length + 1) (dRow out ++ [.int .i64 d])) : Own B w3 v' (out ++ [d]) := by
  unfold Own dRow
  rw [List.length_append, List.map_append]
  exact hown
theorem own_snoc_shape {B : Nat} {w3 : World} {v' : Value} {out : List Int} {d : Int} (hown : w3.ownsRow B 3 1 v' (out.length + 1) (dRow out ++ [.int .i64 d])) : ∃ A c, v' = .slice A (out.length + 1) c := by
  obtain ⟨A, c, e, _⟩ := own_shape (own_snoc hown)
  exact ⟨A, c, by rw [e]; simp⟩
def OfI (w : World) (n : Int) (g : Nat) (s0 : Value) (wr : World) : Prop :=
  ∃ (m : Int) (out : List Int) (A : Option Addr) (c : Nat), s0 = .int .i64 m ∧ (-9223372036854775808 ≤ m ∧ m ≤ 9223372036854775807) ∧ g = (digs m.natAbs).length ∧ digs n.natAbs = out ++ digs m.natAbs ∧
    Bk wr (w.heap.size + 1) 37 #[.bool (decide (n < 0)), .slice A out.length c] ∧ Own w.heap.size wr (.slice A out.length c) out ∧ Bk wr w.heap.size 37 #[.bool false, .slice none 0 0] ∧ Below w.heap.size w wr
set_option maxHeartbeats 8000000 in
theorem of_big (n : Int) (hn : -9223372036854775808 ≤ n ∧ n ≤ 9223372036854775807) (w : World) : Calls Tryz.prog 18 #[.int .i64 n] w (BgPost w n) := by
  obtain ⟨i0, hi, hz0, hz1, hz2⟩ := info_parts dInfo
  have HN := Lib.hid hn
  have HI := Lib.hid hi
  clear hn
  go_enter Tryz.func18, Tryz.ntmps18
  go_wp2
  go_loopg [0] (digs n.natAbs).length (fun g s0 wr => OfI w n g s0 wr)
  case atStart => exact ⟨n, [], none, 0, rfl, HN.out, rfl, rfl, by simpa using Bk.new (w.alloc _) 37 #[.bool (decide (n < 0)), .slice none 0 0], Own.nil _ _, Bk.alloc (Bk.new w _ _) _, ((Below.refl _ _).alloc (Nat.le_refl _) _).alloc (by simp) _⟩
  case round =>
    obtain ⟨m, out, A, c, rfl, hm, hg, hdd, hb3, hown, hb2, hbw⟩ := hrel
    have hbs := hbw.size
    have c0 := hb3.cell 0
    have c1 := hb3.cell 1
    have d0 := hb2.cell 0
    have d1 := hb2.cell 1
    have f0 := hb3.free 0
    have f1 := hb3.free 1
    have e0 := hb2.free 0
    have e1 := hb2.free 1
    simp at c0 c1 d0 d1
    have H3 := Lib.hid hb3
    have H2 := Lib.hid hb2
    have HO := Lib.hid hown
    have HD := Lib.hid hdd
    have HM := Lib.hid hm
    have HG := Lib.hid hg
    clear hb3 hb2 hown hdd hm hg
    cases gk with
    | zero =>
      have hm0 : m = 0 := by
        have := digs_nil.1 (List.length_eq_zero_iff.1 HG.out.symm)
        omega
      subst hm0
      have hdo : digs n.natAbs = out := by rw [HD.out, show (0 : Int).natAbs = 0 from rfl, digs_zero, List.append_nil]
      have HDO := Lib.hid hdo
      clear hdo
      go_wp2
      refine bodyPost_ret (v := .agg #[.bool (decide (n < 0)), .slice A out.length c]) (by simp [results, Tryz.results18, go_sem, d0, d1]) rfl ⟨_, rfl, ?_, ?_⟩
      · obtain ⟨_, h1, h2, h3⟩ := own_shape2 HO.out
        refine ⟨A, c, by rw [HDO.out], ⟨by rw [HDO.out]; exact h1, h2⟩, ?_⟩
        rw [HDO.out]
        exact (own_shape2 ((HO.out.set H2.out 0 _).set (by simpa using H2.out.set 0 _) 1 _)).2.2.2
      · exact (hbw.setCell (by simp) _).setCell (by simp) _
    | succ j =>
      have hm0 : m ≠ 0 := by
        intro e
        have := HG.out
        rw [e, show (0 : Int).natAbs = 0 from rfl, digs_zero] at this
        simp at this
      have hmb : (m != 0) = true := by simpa using hm0
      have hdm : digs m.natAbs = ((m.natAbs % 10 : Nat) : Int) :: digs (m.natAbs / 10) := digs_pos (by omega)
      have hlen : out.length + (j + 1) ≤ 20 := by
        have h1 : (digs n.natAbs).length ≤ 20 := digs_len (by have := HN.out; omega)
        have h2 := congrArg List.length HD.out
        rw [List.length_append, ← HG.out] at h2
        omega
      obtain ⟨d, hdef⟩ : ∃ d : Int, d = ((m.natAbs % 10 : Nat) : Int) := ⟨_, rfl⟩
      have hd0 : 0 ≤ d ∧ d ≤ 9 := by omega
      obtain ⟨t, ht⟩ : ∃ t, t = m.tmod 10 := ⟨_, rfl⟩
      obtain ⟨q, hq⟩ : ∃ q, q = m.tdiv 10 := ⟨_, rfl⟩
      have htd : t = d ∨ t = -d := by
        have h1 : t.natAbs = m.natAbs % 10 := by rw [ht, Int.natAbs_tmod]; rfl
        omega
      have hqn : q.natAbs = m.natAbs / 10 := by rw [hq, Int.natAbs_tdiv]; rfl
      have hqf : -9223372036854775808 ≤ q ∧ q ≤ 9223372036854775807 := by have := HM.out; omega
      have hqw : IntKind.i64.wrap q = q := IntWalk.i64_in q hqf
      have hfin : ∀ v' wx, Own w.heap.size wx v' (out ++ [d]) → Bk wx (w.heap.size + 1) 37 #[.bool (decide (n < 0)), v'] → Bk wx w.heap.size 37 #[.bool false, .slice none 0 0] → Below w.heap.size w wx → OfI w n j (.int .i64 q) wx := by
        intro v' wx ho h3 h2 hb
        obtain ⟨A', c', e, _⟩ := own_shape ho
        have hdd := HD.out
        rw [hdm] at hdd
        refine ⟨q, out ++ [d], A', c', rfl, hqf, ?_, ?_, by rw [← e]; exact h3, by rw [← e]; exact ho, h2, hb⟩
        · have := HG.out
          rw [hdm, List.length_cons] at this
          rw [hqn]; omega
        · rw [hdd, hqn, ← hdef]; simp
      have HF := Lib.hid hfin
      have ht' : m.tmod 10 = t := ht.symm
      have hq' : m.tdiv 10 = q := hq.symm
      have hne1 : (Value.slice A out.length c).ownBlock ≠ some (w.heap.size + 1) := own_ne HO.out H3.out
      have hne2 : (Value.slice A out.length c).ownBlock ≠ some w.heap.size := own_ne HO.out H2.out
      have HE1 := Lib.hid hne1
      have HE2 := Lib.hid hne2
      clear hm0 hdm hdef ht hq hqn hqf hfin hne1 hne2
      by_cases htn : t < 0
      · have htd2 : -t = d := by omega
        have htd3 : -9 ≤ t := by omega
        clear htd hd0
        go_wp2_with (at_builtin; refine wpList_append_own _ rfl _ _ 35 rfl w.heap.size 3 i0 (.int .i64 0) 1 8 Tryz.underlying35 HI.out hz0 hz1 hz2 rfl (by decide) _ _ _ rfl (World.ownsRow.alloc HO.out _) ⟨wr.heap.size, 0, none⟩ 1 1 [.int .i64 d] rfl rfl ?c1 ?c2 ?c3 ?c4 ?c5 ?_)
        try (case c1 =>
              intro j u hj
              match j, hj with
              | 0, hj => simp at hj; subst hj; simp [Addr.add])
        try (case c2 => first | rfl | (intro u hu; simp at hu; subst hu; rfl))
        try (case c3 => unfold maxLen; omega)
        try (case c4 => omega)
        try (case c5 => first | omega | (simp; omega))
        intro v' w3 hown3 hgr3 _
        obtain ⟨A', c', hv'⟩ := own_snoc_shape hown3
        have hO3 := own_snoc hown3
        have hk3 := (H3.out.alloc (.cells #[.int .i64 d] 3)).kept hgr3 HE1.out.symm
        have hk2 := (H2.out.alloc (.cells #[.int .i64 d] 3)).kept hgr3 HE2.out.symm
        have hbw3 : Below w.heap.size w w3 := (hbw.alloc hbs _).grown hgr3 (by simp; omega) (fun k hk => (World.ownsRow.lt HO.out k hk).1)
        subst hv'
        have c0' := hk3.cell 0
        have c1' := hk3.cell 1
        have f0' := hk3.free 0
        have f1' := hk3.free 1
        simp at c0' c1'
        have HFF := Lib.hid (HF.out _ _ (hO3.set hk3 1 _) (by simpa using hk3.set 1 _) (hk2.far (by simp) _) (hbw3.setCell (by simp) (.slice A' (out.length + 1) c')))
        clear hown3 hgr3 hO3 hk3 hk2
        go_wp2
        go_roundg j
        case measure => omega
        case rel => exact HFF.out
      · have htd2 : t = d := by omega
        subst htd2
        clear htd
        go_wp2_with (at_builtin; refine wpList_append_own _ rfl _ _ 35 rfl w.heap.size 3 i0 (.int .i64 0) 1 8 Tryz.underlying35 HI.out hz0 hz1 hz2 rfl (by decide) _ _ _ rfl (World.ownsRow.alloc HO.out _) ⟨wr.heap.size, 0, none⟩ 1 1 [.int .i64 t] rfl rfl ?d1 ?d2 ?d3 ?d4 ?d5 ?_)
        try (case d1 =>
              intro j u hj
              match j, hj with
              | 0, hj => simp at hj; subst hj; simp [Addr.add])
        try (case d2 => first | rfl | (intro u hu; simp at hu; subst hu; rfl))
        try (case d3 => unfold maxLen; omega)
        try (case d4 => omega)
        try (case d5 => first | omega | (simp; omega))
        intro v' w3 hown3 hgr3 _
        obtain ⟨A', c', hv'⟩ := own_snoc_shape hown3
        have hO3 := own_snoc hown3
        have hk3 := (H3.out.alloc (.cells #[.int .i64 t] 3)).kept hgr3 HE1.out.symm
        have hk2 := (H2.out.alloc (.cells #[.int .i64 t] 3)).kept hgr3 HE2.out.symm
        have hbw3 : Below w.heap.size w w3 := (hbw.alloc hbs _).grown hgr3 (by simp; omega) (fun k hk => (World.ownsRow.lt HO.out k hk).1)
        subst hv'
        have c0' := hk3.cell 0
        have c1' := hk3.cell 1
        have f0' := hk3.free 0
        have f1' := hk3.free 1
        simp at c0' c1'
        have HFF := Lib.hid (HF.out _ _ (hO3.set hk3 1 _) (by simpa using hk3.set 1 _) (hk2.far (by simp) _) (hbw3.setCell (by simp) (.slice A' (out.length + 1) c')))
        clear hown3 hgr3 hO3 hk3 hk2
        go_wp2
        go_roundg j
        case measure => omega
        case rel => exact HFF.out
end Go.Proofs.YtaoelnfflkkeeaaGreatDoor
