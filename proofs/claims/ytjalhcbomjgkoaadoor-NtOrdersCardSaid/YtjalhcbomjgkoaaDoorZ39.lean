/-
  MERGED (a claim has at most 60 files): VTrim, VOf.
-/
import Derived.Test.YtjalhcbomjgkoaaDoorZ38
import Derived.Laws.Rows
import Derived.Laws.AppendOwn
import Derived.Laws.OwnMore
import Derived.OwnWalk
/-
  THE DOCUMENT's 'trim': a number without noughts ahead.
-/
namespace Go.Proofs.YtjalhcbomjgkoaaDoor
open Go.RowKit
set_option linter.unusedVariables false

/-- A block of the call's own, known whole. -/
def Bk (w : World) (g : Nat) (t : TypeId) (cs : Array Value) : Prop := w.heap[g]? = some (.cells cs t (0, 0))
theorem Bk.lt {w : World} {g : Nat} {t : TypeId} {cs : Array Value} (h : Bk w g t cs) : g < w.heap.size := (Array.getElem?_eq_some_iff.1 h).1
theorem Bk.cell {w : World} {g : Nat} {t : TypeId} {cs : Array Value} (h : Bk w g t cs) (i : Nat) : w.cell? ⟨g, i, none⟩ = cs[i]? := cell_of_row w g i cs t (0, 0) h
theorem Bk.free {w : World} {g : Nat} {t : TypeId} {cs : Array Value} (h : Bk w g t cs) (i : Nat) : w.frozen? ⟨g, i, none⟩ = false := by
  unfold Bk at h
  simp [World.frozen?, h]
theorem Bk.new (w : World) (t : TypeId) (cs : Array Value) : Bk (w.alloc (.cells cs t)) w.heap.size t cs := heap_alloc_new w _
theorem Bk.alloc {w : World} {g : Nat} {t : TypeId} {cs : Array Value} (h : Bk w g t cs) (o : Obj) : Bk (w.alloc o) g t cs := (Below.heap_alloc w o g h.lt).trans h
theorem Bk.set {w : World} {g : Nat} {t : TypeId} {cs : Array Value} (h : Bk w g t cs) (i : Nat) (u : Value) : Bk (w.setCell ⟨g, i, none⟩ u) g t (cs.setIfInBounds i u) := by
  unfold Bk at h ⊢
  simp [World.setCell, Array.getElem?_modify, h]
theorem Bk.far {w : World} {g : Nat} {t : TypeId} {cs : Array Value} (h : Bk w g t cs) {p : Addr} (hp : g ≠ p.block) (u : Value) : Bk (w.setCell p u) g t cs := (Below.heap_setCell w p u g hp).trans h
theorem Bk.below {B : Nat} {w w' : World} {g : Nat} {t : TypeId} {cs : Array Value} (h : Bk w g t cs) (hb : Below B w w') (hg : g < B) : Bk w' g t cs := (hb.block g hg).trans h
theorem Bk.drewN {w : World} {g : Nat} {t : TypeId} {cs : Array Value} (h : Bk w g t cs) (n : Nat) : Bk (w.drewN n) g t cs := h
theorem Bk.kept {w w' : World} {g : Nat} {t : TypeId} {cs : Array Value} {row : Option Nat} (h : Bk w g t cs) (hb : w.grownBy w' row) (hg : some g ≠ row) : Bk w' g t cs := (hb.block g h.lt hg).trans h
theorem Bk.ne {w : World} {g g' : Nat} {t t' : TypeId} {cs cs' : Array Value} (h : Bk w g t cs) (h' : Bk w g' t' cs') (hne : t ≠ t') : g ≠ g' := by
  rintro rfl
  unfold Bk at h h'
  rw [h] at h'
  injection h' with h'
  injection h' with _ ht
  exact hne ht

theorem DAt.take {w : World} {A : Option Addr} {l : List Int} (h : DAt w A l) (k : Nat) : DAt w A (l.take k) := by
  intro j x hx
  refine h j x ?_
  have hj := (List.getElem?_eq_some_iff.1 hx).1
  simp at hj
  rw [List.getElem?_take_of_lt (by omega)] at hx
  exact hx
/-- A number, as the call answers it. -/
def BigV (w : World) (v : Value) (z : Int) : Prop := ∃ A c, v = .agg #[.bool (decide (z < 0)), .slice A (digs z.natAbs).length c] ∧ ((digs z.natAbs).length ≤ c ∧ c ≤ maxLen) ∧ DAt w A (digs z.natAbs)
theorem BigV.below {w w' : World} {v : Value} {z : Int} (h : BigV w v z) (hb : Below w.heap.size w w') : BigV w' v z := by
  obtain ⟨A, c, e, hc, hd⟩ := h
  exact ⟨A, c, e, hc, hd.below hb⟩
def BgPost (w : World) (z : Int) (e : Ending) (w' : World) : Prop := ∃ v, e = .returned v ∧ BigV w' v z ∧ Below w.heap.size w w'
def TrmI (w : World) (nb : Bool) (A : Option Addr) (c : Nat) (l : List Int) (k : Nat) (wr : World) : Prop :=
  k ≤ l.length ∧ val (l.take k) = val l ∧ Bk wr w.heap.size 115 #[.bool nb, .slice A k c] ∧ Bk wr (w.heap.size + 1) 115 #[.bool false, .slice none 0 0] ∧ Below w.heap.size w wr
theorem val_take_zero {l : List Int} {j : Nat} (h : l[j]? = some 0) : val (l.take (j + 1)) = val (l.take j) := by
  rw [List.take_add_one, h, val_append]
  simp [val]
theorem take_digs {l : List Int} (hd : Dig l) {k : Nat} (hk : k ≤ l.length) (hv : val (l.take k) = val l) (hz : ∀ j, k = j + 1 → l[j]? ≠ some 0) : l.take k = digs (val l).toNat := by
  rw [← hv]
  refine digs_of (hd.take k) ?_
  intro a ha
  have hl : (l.take k).length = k := by simp; omega
  have hk0 : k = a.length + 1 := by rw [← hl, ha]; simp
  refine hz a.length hk0 ?_
  have : (l.take k)[a.length]? = some 0 := by rw [ha]; simp
  rw [List.getElem?_take_of_lt (by omega)] at this
  exact this
set_option maxHeartbeats 4000000 in
theorem trim_any (nb : Bool) (l : List Int) (hd : Dig l) (hl : l.length ≤ 1000000) (A : Option Addr) (c : Nat) (hc : l.length ≤ c) (hc2 : c ≤ maxLen) (z : Int) (hz : val l = z.natAbs) (hnb : z ≠ 0 → nb = decide (z < 0)) (w : World) (hA : DAt w A l) :
    Calls Tryd.prog 103 #[.agg #[.bool nb, .slice A l.length c]] w (BgPost w z) := by
  have HA := Lib.hid hA
  have HD := Lib.hid hd
  have HZ := Lib.hid hz
  have HN := Lib.hid hnb
  clear hA hd hz hnb
  have HCM := Lib.hid hc2
  unfold maxLen at hc2
  go_enter Tryd.func103, Tryd.ntmps103
  go_wp2
  go_loopg [] l.length (fun g wr => TrmI w nb A c l g wr)
  case atStart => exact ⟨Nat.le_refl _, by rw [List.take_length], Bk.alloc (Bk.new w _ _) _, by simpa using Bk.new (w.alloc _) 115 #[.bool false, .slice none 0 0], ((Below.refl _ _).alloc (Nat.le_refl _) _).alloc (by simp) _⟩
  case round =>
    obtain ⟨hk, hv, hb1, hb2, hbw⟩ := hrel
    have c0 := hb1.cell 0
    have c1 := hb1.cell 1
    have d0 := hb2.cell 0
    have d1 := hb2.cell 1
    have f0 := hb1.free 0
    have f1 := hb1.free 1
    have e0 := hb2.free 0
    have e1 := hb2.free 1
    simp at c0 c1 d0 d1
    have HK := Lib.hid hv
    have H1 := Lib.hid hb1
    have H2 := Lib.hid hb2
    clear hv hb1 hb2
    cases gk with
    | zero =>
      have hz0 : z = 0 := by
        have h1 := HZ.out
        have h2 := HK.out
        simp [val] at h2
        omega
      have HZ0 := Lib.hid hz0
      clear hz0
      go_wp2
      refine bodyPost_ret (v := .agg #[.bool false, .slice A 0 c]) (by simp [results, Tryd.results103, go_sem, d0, d1]) rfl ⟨_, rfl, ?_, ?_⟩
      · rw [HZ0.out]
        exact ⟨A, c, by simp [digs_zero], ⟨by simp [digs_zero], HCM.out⟩, by rw [show (0 : Int).natAbs = 0 from rfl, digs_zero]; exact DAt.nil _ _⟩
      · exact ((hbw.setCell (by simp) _).setCell (by simp) _).setCell (by simp) _
    | succ j =>
      obtain ⟨x, hx⟩ : ∃ x, l[j]? = some x := ⟨_, List.getElem?_eq_getElem (by omega)⟩
      obtain ⟨ga, oa, rfl, hga, hca⟩ := HA.out j x hx
      have hcell : wr.cell? ⟨ga, oa + j, none⟩ = some (.int .i64 x) := (hbw.cell (p := ⟨ga, oa + j, none⟩) hga).trans hca
      have hj1 : (((j + 1 : Nat) : Int) - 1) = (j : Int) := by omega
      have hj2 : (j : Int) + 1 - 1 = (j : Int) := by omega
      have hj0 : (0 : Int) < ((j + 1 : Nat) : Int) := by omega
      have HX := Lib.hid hx
      clear hx hca
      by_cases hx0 : x = 0
      · have hb0 : (x == 0) = true := by simpa using hx0
        subst hx0
        go_wp2
        go_roundg j
        case measure => omega
        case rel =>
          refine ⟨by omega, by rw [← val_take_zero HX.out]; exact HK.out, by simpa using H1.out.set 1 _, H2.out.far (by simp) _, hbw.setCell (by simp) _⟩
      · have hb0 : (x == 0) = false := by simpa using hx0
        have hl1 : (l.take (j + 1)).length = j + 1 := by simp; omega
        have hdg : digs z.natAbs = l.take (j + 1) := by
          have := take_digs HD.out hk HK.out (fun i e => by
            have : i = j := by omega
            subst this
            rw [HX.out]; simpa using hx0)
          rw [this]
          have := HZ.out
          rw [show (val l).toNat = z.natAbs by omega]
        have hz0 : z ≠ 0 := by
          intro e
          rw [e] at hdg
          rw [show (0 : Int).natAbs = 0 from rfl, digs_zero] at hdg
          rw [← hdg] at hl1
          simp at hl1
        have hnb := HN.out hz0
        have HDG := Lib.hid hdg
        have HNB := Lib.hid hnb
        have HL1 := Lib.hid hl1
        clear hx0 hdg hz0 hnb hl1
        go_wp2
        refine bodyPost_ret (v := .agg #[.bool nb, .slice (some ⟨ga, oa, none⟩) (j + 1) c]) (by simp [results, Tryd.results103, go_sem, d0, d1]) rfl ⟨_, rfl, ?_, ?_⟩
        · refine ⟨some ⟨ga, oa, none⟩, c, by rw [HNB.out, HDG.out, HL1.out], ⟨by rw [HDG.out, HL1.out]; omega, HCM.out⟩, ?_⟩
          rw [HDG.out]
          have hbw2 : Below w.heap.size w ((wr.setCell ⟨w.heap.size + 1, 0, none⟩ (.bool nb)).setCell ⟨w.heap.size + 1, 1, none⟩ (.slice (some ⟨ga, oa, none⟩) (j + 1) c)) := (hbw.setCell (by simp) _).setCell (by simp) _
          exact (HA.out.take (j + 1)).below hbw2
        · exact (hbw.setCell (by simp) _).setCell (by simp) _
end Go.Proofs.YtjalhcbomjgkoaaDoor

/-
  THE DOCUMENT's 'Of': the number of an integer.
-/
namespace Go.Proofs.YtjalhcbomjgkoaaDoor
open Go.RowKit
set_option linter.unusedVariables false

theorem dInfo : (Tryd.prog.info? 3).map (fun i => (i.zero, i.size, i.bytes)) = some (some (.int .i64 0), 1, 8) := by kernel_rfl
def dRow (l : List Int) : List Value := l.map (Value.int .i64)
/-- Digits that the call made. -/
def Own (B : Nat) (w : World) (v : Value) (l : List Int) : Prop := w.ownsRow B 3 1 v l.length (dRow l)
theorem own_shape {B : Nat} {w : World} {v : Value} {l : List Int} (h : Own B w v l) : ∃ A c, v = .slice A l.length c ∧ l.length ≤ c ∧ c ≤ maxLen ∧ DAt w A l := by
  rcases h.2 with ⟨hv, hl⟩ | ⟨g, cap, cur, hv, _, hh, hn, hm, _⟩
  · obtain rfl : l = [] := List.length_eq_zero_iff.1 hl
    exact ⟨none, 0, hv, Nat.le_refl _, by decide, DAt.nil _ _⟩
  · refine ⟨_, cap, hv, hn, hm, fun j x hx => ⟨g, 0, rfl, (Array.getElem?_eq_some_iff.1 hh).1, ?_⟩⟩
    have := World.ownsRow.cells h (g := g) (by rw [hv]; rfl) j (.int .i64 x) (by simp [dRow, hx])
    have e : (⟨g, 0, none⟩ : Addr).add j = ⟨g, 0 + j, none⟩ := by
      by_cases hj : j = 0
      · subst hj; simp [Addr.add]
      · simp [Addr.add, hj]
    rw [← e]; exact this
theorem own_shape2 {B : Nat} {w : World} {A : Option Addr} {n c : Nat} {l : List Int} (h : Own B w (.slice A n c) l) : n = l.length ∧ l.length ≤ c ∧ c ≤ maxLen ∧ DAt w A l := by
  obtain ⟨A', c', e, h1, h2, h3⟩ := own_shape h
  injection e with e1 e2 e3
  subst e1; subst e3
  exact ⟨e2, h1, h2, h3⟩
theorem Own.nil (B : Nat) (w : World) : Own B w (.slice none 0 0) [] := World.ownsRow_nil _ _ _ _
theorem Own.alloc {B : Nat} {w : World} {v : Value} {l : List Int} (h : Own B w v l) (o : Obj) : Own B (w.alloc o) v l := World.ownsRow.alloc h o
theorem own_ne {B : Nat} {w : World} {v : Value} {l : List Int} {g : Nat} {cs : Array Value} (h : Own B w v l) (hg : Bk w g 115 cs) : v.ownBlock ≠ some g := by
  rcases h.2 with ⟨rfl, _⟩ | ⟨g', cap, cur, rfl, _, hh, _⟩
  · simp [Value.ownBlock]
  · intro he
    have : g' = g := by simpa [Value.ownBlock] using he
    exact Bk.ne (t := 3) hh hg (by decide) this
theorem Own.set {B : Nat} {w : World} {v : Value} {l : List Int} (h : Own B w v l) {g : Nat} {cs : Array Value} (hg : Bk w g 115 cs) (i : Nat) (u : Value) : Own B (w.setCell ⟨g, i, none⟩ u) v l := by
  refine ⟨h.1, ?_⟩
  rcases h.2 with x | ⟨g', cap, cur, hv, hB, hh, rest⟩
  · exact .inl x
  · refine .inr ⟨g', cap, cur, hv, hB, ?_, rest⟩
    have hne : g' ≠ g := Bk.ne (t := 3) hh hg (by decide)
    exact (Below.heap_setCell w ⟨g, i, none⟩ u g' hne).trans hh
theorem Own.below {B : Nat} {w w' : World} {v : Value} {l : List Int} (h : Own B w v l) (hb : Below w.heap.size w w') : Own B w' v l := by
  refine ⟨h.1, ?_⟩
  rcases h.2 with x | ⟨g, cap, cur, hv, hg, hh, rest⟩
  · exact .inl x
  · exact .inr ⟨g, cap, cur, hv, hg, (hb.block g (Array.getElem?_eq_some_iff.1 hh).1).trans hh, rest⟩
theorem Own.drewN {B : Nat} {w : World} {v : Value} {l : List Int} (h : Own B w v l) (n : Nat) : Own B (w.drewN n) v l := h
theorem own_snoc {B : Nat} {w3 : World} {v' : Value} {out : List Int} {d : Int} (hown : w3.ownsRow B 3 1 v' (out.length + 1) (dRow out ++ [.int .i64 d])) : Own B w3 v' (out ++ [d]) := by
  unfold Own dRow
  rw [List.length_append, List.map_append]
  exact hown
theorem own_snoc_shape {B : Nat} {w3 : World} {v' : Value} {out : List Int} {d : Int} (hown : w3.ownsRow B 3 1 v' (out.length + 1) (dRow out ++ [.int .i64 d])) : ∃ A c, v' = .slice A (out.length + 1) c := by
  obtain ⟨A, c, e, _⟩ := own_shape (own_snoc hown)
  exact ⟨A, c, by rw [e]; simp⟩
def OfI (w : World) (n : Int) (g : Nat) (s0 : Value) (wr : World) : Prop :=
  ∃ (m : Int) (out : List Int) (A : Option Addr) (c : Nat), s0 = .int .i64 m ∧ (-9223372036854775808 ≤ m ∧ m ≤ 9223372036854775807) ∧ g = (digs m.natAbs).length ∧ digs n.natAbs = out ++ digs m.natAbs ∧
    Bk wr (w.heap.size + 1) 115 #[.bool (decide (n < 0)), .slice A out.length c] ∧ Own w.heap.size wr (.slice A out.length c) out ∧ Bk wr w.heap.size 115 #[.bool false, .slice none 0 0] ∧ Below w.heap.size w wr
set_option maxHeartbeats 8000000 in
theorem of_big (n : Int) (hn : -9223372036854775808 ≤ n ∧ n ≤ 9223372036854775807) (w : World) : Calls Tryd.prog 114 #[.int .i64 n] w (BgPost w n) := by
  obtain ⟨i0, hi, hz0, hz1, hz2⟩ := info_parts dInfo
  have HN := Lib.hid hn
  have HI := Lib.hid hi
  clear hn
  go_enter Tryd.func114, Tryd.ntmps114
  go_wp2
  go_loopg [0] (digs n.natAbs).length (fun g s0 wr => OfI w n g s0 wr)
  case atStart => exact ⟨n, [], none, 0, rfl, HN.out, rfl, rfl, by simpa using Bk.new (w.alloc _) 115 #[.bool (decide (n < 0)), .slice none 0 0], Own.nil _ _, Bk.alloc (Bk.new w _ _) _, ((Below.refl _ _).alloc (Nat.le_refl _) _).alloc (by simp) _⟩
  case round =>
    obtain ⟨m, out, A, c, rfl, hm, hg, hdd, hb3, hown, hb2, hbw⟩ := hrel
    have hbs := hbw.size
    have c0 := hb3.cell 0
    have c1 := hb3.cell 1
    have d0 := hb2.cell 0
    have d1 := hb2.cell 1
    have f0 := hb3.free 0
    have f1 := hb3.free 1
    have e0 := hb2.free 0
    have e1 := hb2.free 1
    simp at c0 c1 d0 d1
    have H3 := Lib.hid hb3
    have H2 := Lib.hid hb2
    have HO := Lib.hid hown
    have HD := Lib.hid hdd
    have HM := Lib.hid hm
    have HG := Lib.hid hg
    clear hb3 hb2 hown hdd hm hg
    cases gk with
    | zero =>
      have hm0 : m = 0 := by
        have := digs_nil.1 (List.length_eq_zero_iff.1 HG.out.symm)
        omega
      subst hm0
      have hdo : digs n.natAbs = out := by rw [HD.out, show (0 : Int).natAbs = 0 from rfl, digs_zero, List.append_nil]
      have HDO := Lib.hid hdo
      clear hdo
      go_wp2
      refine bodyPost_ret (v := .agg #[.bool (decide (n < 0)), .slice A out.length c]) (by simp [results, Tryd.results114, go_sem, d0, d1]) rfl ⟨_, rfl, ?_, ?_⟩
      · obtain ⟨_, h1, h2, h3⟩ := own_shape2 HO.out
        refine ⟨A, c, by rw [HDO.out], ⟨by rw [HDO.out]; exact h1, h2⟩, ?_⟩
        rw [HDO.out]
        exact (own_shape2 ((HO.out.set H2.out 0 _).set (by simpa using H2.out.set 0 _) 1 _)).2.2.2
      · exact (hbw.setCell (by simp) _).setCell (by simp) _
    | succ j =>
      have hm0 : m ≠ 0 := by
        intro e
        have := HG.out
        rw [e, show (0 : Int).natAbs = 0 from rfl, digs_zero] at this
        simp at this
      have hmb : (m != 0) = true := by simpa using hm0
      have hdm : digs m.natAbs = ((m.natAbs % 10 : Nat) : Int) :: digs (m.natAbs / 10) := digs_pos (by omega)
      have hlen : out.length + (j + 1) ≤ 20 := by
        have h1 : (digs n.natAbs).length ≤ 20 := digs_len (by have := HN.out; omega)
        have h2 := congrArg List.length HD.out
        rw [List.length_append, ← HG.out] at h2
        omega
      obtain ⟨d, hdef⟩ : ∃ d : Int, d = ((m.natAbs % 10 : Nat) : Int) := ⟨_, rfl⟩
      have hd0 : 0 ≤ d ∧ d ≤ 9 := by omega
      obtain ⟨t, ht⟩ : ∃ t, t = m.tmod 10 := ⟨_, rfl⟩
      obtain ⟨q, hq⟩ : ∃ q, q = m.tdiv 10 := ⟨_, rfl⟩
      have htd : t = d ∨ t = -d := by
        have h1 : t.natAbs = m.natAbs % 10 := by rw [ht, Int.natAbs_tmod]; rfl
        omega
      have hqn : q.natAbs = m.natAbs / 10 := by rw [hq, Int.natAbs_tdiv]; rfl
      have hqf : -9223372036854775808 ≤ q ∧ q ≤ 9223372036854775807 := by have := HM.out; omega
      have hqw : IntKind.i64.wrap q = q := IntWalk.i64_in q hqf
      have hfin : ∀ v' wx, Own w.heap.size wx v' (out ++ [d]) → Bk wx (w.heap.size + 1) 115 #[.bool (decide (n < 0)), v'] → Bk wx w.heap.size 115 #[.bool false, .slice none 0 0] → Below w.heap.size w wx → OfI w n j (.int .i64 q) wx := by
        intro v' wx ho h3 h2 hb
        obtain ⟨A', c', e, _⟩ := own_shape ho
        have hdd := HD.out
        rw [hdm] at hdd
        refine ⟨q, out ++ [d], A', c', rfl, hqf, ?_, ?_, by rw [← e]; exact h3, by rw [← e]; exact ho, h2, hb⟩
        · have := HG.out
          rw [hdm, List.length_cons] at this
          rw [hqn]; omega
        · rw [hdd, hqn, ← hdef]; simp
      have HF := Lib.hid hfin
      have ht' : m.tmod 10 = t := ht.symm
      have hq' : m.tdiv 10 = q := hq.symm
      have hne1 : (Value.slice A out.length c).ownBlock ≠ some (w.heap.size + 1) := own_ne HO.out H3.out
      have hne2 : (Value.slice A out.length c).ownBlock ≠ some w.heap.size := own_ne HO.out H2.out
      have HE1 := Lib.hid hne1
      have HE2 := Lib.hid hne2
      clear hm0 hdm hdef ht hq hqn hqf hfin hne1 hne2
      by_cases htn : t < 0
      · have htd2 : -t = d := by omega
        have htd3 : -9 ≤ t := by omega
        clear htd hd0
        go_wp2_with (at_builtin; refine wpList_append_own _ rfl _ _ 24 rfl w.heap.size 3 i0 (.int .i64 0) 1 8 Tryd.underlying24 HI.out hz0 hz1 hz2 rfl (by decide) _ _ _ rfl (World.ownsRow.alloc HO.out _) ⟨wr.heap.size, 0, none⟩ 1 1 [.int .i64 d] rfl rfl ?c1 ?c2 ?c3 ?c4 ?c5 ?_)
        try (case c1 =>
              intro j u hj
              match j, hj with
              | 0, hj => simp at hj; subst hj; simp [Addr.add])
        try (case c2 => first | rfl | (intro u hu; simp at hu; subst hu; rfl))
        try (case c3 => unfold maxLen; omega)
        try (case c4 => omega)
        try (case c5 => first | omega | (simp; omega))
        intro v' w3 hown3 hgr3 _
        obtain ⟨A', c', hv'⟩ := own_snoc_shape hown3
        have hO3 := own_snoc hown3
        have hk3 := (H3.out.alloc (.cells #[.int .i64 d] 3)).kept hgr3 HE1.out.symm
        have hk2 := (H2.out.alloc (.cells #[.int .i64 d] 3)).kept hgr3 HE2.out.symm
        have hbw3 : Below w.heap.size w w3 := (hbw.alloc hbs _).grown hgr3 (by simp; omega) (fun k hk => (World.ownsRow.lt HO.out k hk).1)
        subst hv'
        have c0' := hk3.cell 0
        have c1' := hk3.cell 1
        have f0' := hk3.free 0
        have f1' := hk3.free 1
        simp at c0' c1'
        have HFF := Lib.hid (HF.out _ _ (hO3.set hk3 1 _) (by simpa using hk3.set 1 _) (hk2.far (by simp) _) (hbw3.setCell (by simp) (.slice A' (out.length + 1) c')))
        clear hown3 hgr3 hO3 hk3 hk2
        go_wp2
        go_roundg j
        case measure => omega
        case rel => exact HFF.out
      · have htd2 : t = d := by omega
        subst htd2
        clear htd
        go_wp2_with (at_builtin; refine wpList_append_own _ rfl _ _ 24 rfl w.heap.size 3 i0 (.int .i64 0) 1 8 Tryd.underlying24 HI.out hz0 hz1 hz2 rfl (by decide) _ _ _ rfl (World.ownsRow.alloc HO.out _) ⟨wr.heap.size, 0, none⟩ 1 1 [.int .i64 t] rfl rfl ?d1 ?d2 ?d3 ?d4 ?d5 ?_)
        try (case d1 =>
              intro j u hj
              match j, hj with
              | 0, hj => simp at hj; subst hj; simp [Addr.add])
        try (case d2 => first | rfl | (intro u hu; simp at hu; subst hu; rfl))
        try (case d3 => unfold maxLen; omega)
        try (case d4 => omega)
        try (case d5 => first | omega | (simp; omega))
        intro v' w3 hown3 hgr3 _
        obtain ⟨A', c', hv'⟩ := own_snoc_shape hown3
        have hO3 := own_snoc hown3
        have hk3 := (H3.out.alloc (.cells #[.int .i64 t] 3)).kept hgr3 HE1.out.symm
        have hk2 := (H2.out.alloc (.cells #[.int .i64 t] 3)).kept hgr3 HE2.out.symm
        have hbw3 : Below w.heap.size w w3 := (hbw.alloc hbs _).grown hgr3 (by simp; omega) (fun k hk => (World.ownsRow.lt HO.out k hk).1)
        subst hv'
        have c0' := hk3.cell 0
        have c1' := hk3.cell 1
        have f0' := hk3.free 0
        have f1' := hk3.free 1
        simp at c0' c1'
        have HFF := Lib.hid (HF.out _ _ (hO3.set hk3 1 _) (by simpa using hk3.set 1 _) (hk2.far (by simp) _) (hbw3.setCell (by simp) (.slice A' (out.length + 1) c')))
        clear hown3 hgr3 hO3 hk3 hk2
        go_wp2
        go_roundg j
        case measure => omega
        case rel => exact HFF.out
end Go.Proofs.YtjalhcbomjgkoaaDoor
