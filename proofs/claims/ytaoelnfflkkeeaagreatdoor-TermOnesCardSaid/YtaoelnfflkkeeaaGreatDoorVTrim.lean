/-
  THE DOCUMENT's 'trim': a number without noughts ahead.
-/
import Derived.Test.YtaoelnfflkkeeaaGreatDoorVSizes
import Derived.Laws.Rows
namespace Go.Proofs.YtaoelnfflkkeeaaGreatDoor
open Go.RowKit
set_option linter.unusedVariables false

/-- A block of the call's own, known whole. -/
def Bk (w : World) (g : Nat) (t : TypeId) (cs : Array Value) : Prop := w.heap[g]? = some (.cells cs t (0, 0))
theorem Bk.lt {w : World} {g : Nat} {t : TypeId} {cs : Array Value} (h : Bk w g t cs) : g < w.heap.size := (Array.getElem?_eq_some_iff.1 h).1
theorem Bk.cell {w : World} {g : Nat} {t : TypeId} {cs : Array Value} (h : Bk w g t cs) (i : Nat) : w.cell? ⟨g, i, none⟩ = cs[i]? := cell_of_row w g i cs t (0, 0) h
theorem Bk.free {w : World} {g : Nat} {t : TypeId} {cs : Array Value} (h : Bk w g t cs) (i : Nat) : w.frozen? ⟨g, i, none⟩ = false := by
  unfold Bk at h
  simp [World.frozen?, h]
theorem Bk.new (w : World) (t : TypeId) (cs : Array Value) : Bk (w.alloc (.cells cs t)) w.heap.size t cs := heap_alloc_new w _
theorem Bk.alloc {w : World} {g : Nat} {t : TypeId} {cs : Array Value} (h : Bk w g t cs) (o : Obj) : Bk (w.alloc o) g t cs := (Below.heap_alloc w o g h.lt).trans h
theorem Bk.set {w : World} {g : Nat} {t : TypeId} {cs : Array Value} (h : Bk w g t cs) (i : Nat) (u : Value) : Bk (w.setCell ⟨g, i, none⟩ u) g t (cs.setIfInBounds i u) := by
  unfold Bk at h ⊢
  simp [World.setCell, Array.getElem?_modify, h]
theorem Bk.far {w : World} {g : Nat} {t : TypeId} {cs : Array Value} (h : Bk w g t cs) {p : Addr} (hp : g ≠ p.block) (u : Value) : Bk (w.setCell p u) g t cs := (Below.heap_setCell w p u g hp).trans h
theorem Bk.below {B : Nat} {w w' : World} {g : Nat} {t : TypeId} {cs : Array Value} (h : Bk w g t cs) (hb : Below B w w') (hg : g < B) : Bk w' g t cs := (hb.block g hg).trans h
theorem Bk.drewN {w : World} {g : Nat} {t : TypeId} {cs : Array Value} (h : Bk w g t cs) (n : Nat) : Bk (w.drewN n) g t cs := h
theorem Bk.kept {w w' : World} {g : Nat} {t : TypeId} {cs : Array Value} {row : Option Nat} (h : Bk w g t cs) (hb : w.grownBy w' row) (hg : some g ≠ row) : Bk w' g t cs := (hb.block g h.lt hg).trans h
theorem Bk.ne {w : World} {g g' : Nat} {t t' : TypeId} {cs cs' : Array Value} (h : Bk w g t cs) (h' : Bk w g' t' cs') (hne : t ≠ t') : g ≠ g' := by
  rintro rfl
  unfold Bk at h h'
  rw [h] at h'
  injection h' with h'
  injection h' with _ ht
  exact hne ht

theorem DAt.take {w : World} {A : Option Addr} {l : List Int} (h : DAt w A l) (k : Nat) : DAt w A (l.take k) := by
  intro j x hx
  refine h j x ?_
  have hj := (List.getElem?_eq_some_iff.1 hx).1
  simp at hj
  rw [List.getElem?_take_of_lt (by omega)] at hx
  exact hx
/-- A number, as the call answers it. -/
def BigV (w : World) (v : Value) (z : Int) : Prop := ∃ A c, v = .agg #[.bool (decide (z < 0)), .slice A (digs z.natAbs).length c] ∧ ((digs z.natAbs).length ≤ c ∧ c ≤ maxLen) ∧ DAt w A (digs z.natAbs)
theorem BigV.below {w w' : World} {v : Value} {z : Int} (h : BigV w v z) (hb : Below w.heap.size w w') : BigV w' v z := by
  obtain ⟨A, c, e, hc, hd⟩ := h
  exact ⟨A, c, e, hc, hd.below hb⟩
def BgPost (w : World) (z : Int) (e : Ending) (w' : World) : Prop := ∃ v, e = .returned v ∧ BigV w' v z ∧ Below w.heap.size w w'
def TrmI (w : World) (nb : Bool) (A : Option Addr) (c : Nat) (l : List Int) (k : Nat) (wr : World) : Prop :=
  k ≤ l.length ∧ val (l.take k) = val l ∧ Bk wr w.heap.size 37 #[.bool nb, .slice A k c] ∧ Bk wr (w.heap.size + 1) 37 #[.bool false, .slice none 0 0] ∧ Below w.heap.size w wr
theorem val_take_zero {l : List Int} {j : Nat} (h : l[j]? = some 0) : val (l.take (j + 1)) = val (l.take j) := by
  rw [List.take_add_one, h, val_append]
  simp [val]
theorem take_digs {l : List Int} (hd : Dig l) {k : Nat} (hk : k ≤ l.length) (hv : val (l.take k) = val l) (hz : ∀ j, k = j + 1 → l[j]? ≠ some 0) : l.take k = digs (val l).toNat := by
  rw [← hv]
  refine digs_of (hd.take k) ?_
  intro a ha
  have hl : (l.take k).length = k := by simp; omega
  have hk0 : k = a.length + 1 := by rw [← hl, ha]; simp
  refine hz a.length hk0 ?_
  have : (l.take k)[a.length]? = some 0 := by rw [ha]; simp
  rw [List.getElem?_take_of_lt (by omega)] at this
  exact this
set_option maxHeartbeats 4000000 in
theorem trim_any (nb : Bool) (l : List Int) (hd : Dig l) (hl : l.length ≤ 1000000) (A : Option Addr) (c : Nat) (hc : l.length ≤ c) (hc2 : c ≤ maxLen) (z : Int) (hz : val l = z.natAbs) (hnb : z ≠ 0 → nb = decide (z < 0)) (w : World) (hA : DAt w A l) :
    Calls Tryz.prog 39 #[.agg #[.bool nb, .slice A l.length c]] w (BgPost w z) := by
  have HA := Lib.hid hA
  have HD := Lib.hid hd
  have HZ := Lib.hid hz
  have HN := Lib.hid hnb
  clear hA hd hz hnb
  have HCM := Lib.hid hc2
  unfold maxLen at hc2
  go_enter Tryz.func39, Tryz.ntmps39
  go_wp2
  go_loopg [] l.length (fun g wr => TrmI w nb A c l g wr)
  case atStart => exact ⟨Nat.le_refl _, by rw [List.take_length], Bk.alloc (Bk.new w _ _) _, by simpa using Bk.new (w.alloc _) 37 #[.bool false, .slice none 0 0], ((Below.refl _ _).alloc (Nat.le_refl _) _).alloc (by simp) _⟩
  case round =>
    obtain ⟨hk, hv, hb1, hb2, hbw⟩ := hrel
    have c0 := hb1.cell 0
    have c1 := hb1.cell 1
    have d0 := hb2.cell 0
    have d1 := hb2.cell 1
    have f0 := hb1.free 0
    have f1 := hb1.free 1
    have e0 := hb2.free 0
    have e1 := hb2.free 1
    simp at c0 c1 d0 d1
    have HK := Lib.hid hv
    have H1 := Lib.hid hb1
    have H2 := Lib.hid hb2
    clear hv hb1 hb2
    cases gk with
    | zero =>
      have hz0 : z = 0 := by
        have h1 := HZ.out
        have h2 := HK.out
        simp [val] at h2
        omega
      have HZ0 := Lib.hid hz0
      clear hz0
      go_wp2
      refine bodyPost_ret (v := .agg #[.bool false, .slice A 0 c]) (by simp [results, Tryz.results39, go_sem, d0, d1]) rfl ⟨_, rfl, ?_, ?_⟩
      · rw [HZ0.out]
        exact ⟨A, c, by simp [digs_zero], ⟨by simp [digs_zero], HCM.out⟩, by rw [show (0 : Int).natAbs = 0 from rfl, digs_zero]; exact DAt.nil _ _⟩
      · exact ((hbw.setCell (by simp) _).setCell (by simp) _).setCell (by simp) _
    | succ j =>
      obtain ⟨x, hx⟩ : ∃ x, l[j]? = some x := ⟨_, List.getElem?_eq_getElem (by omega)⟩
      obtain ⟨ga, oa, rfl, hga, hca⟩ := HA.out j x hx
      have hcell : wr.cell? ⟨ga, oa + j, none⟩ = some (.int .i64 x) := (hbw.cell (p := ⟨ga, oa + j, none⟩) hga).trans hca
      have hj1 : (((j + 1 : Nat) : Int) - 1) = (j : Int) := by omega
      have hj2 : (j : Int) + 1 - 1 = (j : Int) := by omega
      have hj0 : (0 : Int) < ((j + 1 : Nat) : Int) := by omega
      have HX := Lib.hid hx
      clear hx hca
      by_cases hx0 : x = 0
      · have hb0 : (x == 0) = true := by simpa using hx0
        subst hx0
        go_wp2
        go_roundg j
        case measure => omega
        case rel =>
          refine ⟨by omega, by rw [← val_take_zero HX.out]; exact HK.out, by simpa using H1.out.set 1 _, H2.out.far (by simp) _, hbw.setCell (by simp) _⟩
      · have hb0 : (x == 0) = false := by simpa using hx0
        have hl1 : (l.take (j + 1)).length = j + 1 := by simp; omega
        have hdg : digs z.natAbs = l.take (j + 1) := by
          have := take_digs HD.out hk HK.out (fun i e => by
            have : i = j := by omega
            subst this
            rw [HX.out]; simpa using hx0)
          rw [this]
          have := HZ.out
          rw [show (val l).toNat = z.natAbs by omega]
        have hz0 : z ≠ 0 := by
          intro e
          rw [e] at hdg
          rw [show (0 : Int).natAbs = 0 from rfl, digs_zero] at hdg
          rw [← hdg] at hl1
          simp at hl1
        have hnb := HN.out hz0
        have HDG := Lib.hid hdg
        have HNB := Lib.hid hnb
        have HL1 := Lib.hid hl1
        clear hx0 hdg hz0 hnb hl1
        go_wp2
        refine bodyPost_ret (v := .agg #[.bool nb, .slice (some ⟨ga, oa, none⟩) (j + 1) c]) (by simp [results, Tryz.results39, go_sem, d0, d1]) rfl ⟨_, rfl, ?_, ?_⟩
        · refine ⟨some ⟨ga, oa, none⟩, c, by rw [HNB.out, HDG.out, HL1.out], ⟨by rw [HDG.out, HL1.out]; omega, HCM.out⟩, ?_⟩
          rw [HDG.out]
          have hbw2 : Below w.heap.size w ((wr.setCell ⟨w.heap.size + 1, 0, none⟩ (.bool nb)).setCell ⟨w.heap.size + 1, 1, none⟩ (.slice (some ⟨ga, oa, none⟩) (j + 1) c)) := (hbw.setCell (by simp) _).setCell (by simp) _
          exact (HA.out.take (j + 1)).below hbw2
        · exact (hbw.setCell (by simp) _).setCell (by simp) _
end Go.Proofs.YtaoelnfflkkeeaaGreatDoor
