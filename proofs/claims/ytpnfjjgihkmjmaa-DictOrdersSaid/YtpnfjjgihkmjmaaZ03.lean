/-
  MERGED (a claim has at most 60 files): DAsk, DPut.
-/
import Derived.Test.YtpnfjjgihkmjmaaZ02
import Derived.Laws.Rows
import Derived.Maps.AppendAt
/-
  A DICTIONARY's CALLS: Len, has, Term.
-/
namespace Go.Proofs.Ytpnfjjgihkmjmaa
open Go.RowKit
set_option linter.unusedVariables false
set_option linter.unusedSimpArgs false
set_option maxRecDepth 100000

section
variable {B d m : Nat} {room : Int} {v : Value} {L : List Tm}
theorem dlen_any {W : World} (h : Dc B d m room v L W) (hl : L.length ≤ 100000) : Calls Try.prog 31 #[.pointer (some ⟨d, 0, none⟩)] W fun e w' => e = .returned (.int .i64 L.length) ∧ w' = W := by
  obtain ⟨A, c, rfl⟩ := h.shape
  obtain ⟨c0, c1, c2⟩ := h.cells
  clear h
  go_enter Try.func31, Try.ntmps31
  go_wp2
  go_ret
  exact ⟨rfl, rfl⟩
def hasB (L : List Tm) (n : Int) : Bool := decide (0 ≤ n) && decide (n < L.length)
theorem dhas_any {W : World} (h : Dc B d m room v L W) (hl : L.length ≤ 100000) (n : Int) : Calls Try.prog 38 #[.pointer (some ⟨d, 0, none⟩), .int .i64 n] W fun e w' => e = .returned (.bool (hasB L n)) ∧ w' = W := by
  have cL := dlen_any h hl
  unfold hasB
  by_cases h0 : 0 ≤ n
  · have e1 : decide (0 ≤ n) = true := decide_eq_true h0
    rw [e1]
    clear h
    go_enter Try.func38, Try.ntmps38
    go_wp2_with (go_at_call 31; (with_reducible refine cL.mono ?_); rintro e w1 ⟨rfl, rfl⟩)
    go_ret
    exact ⟨rfl, rfl⟩
  · have e1 : decide (0 ≤ n) = false := decide_eq_false h0
    rw [e1]
    clear h cL
    go_enter Try.func38, Try.ntmps38
    go_wp2
    go_ret
    exact ⟨rfl, rfl⟩
theorem hasB_iff {n : Int} : hasB L n = true ↔ 0 ≤ n ∧ n < L.length := by unfold hasB; simp
theorem dterm_none {W : World} (h : Dc B d m room v L W) (hl : L.length ≤ 100000) (n : Int) (hn : hasB L n = false) : Calls Try.prog 17 #[.pointer (some ⟨d, 0, none⟩), .int .i64 n] W fun e w' => e = .returned (.tuple #[.nilIface, .int .i64 4]) ∧ w' = W := by
  have cH := dhas_any h hl n
  rw [hn] at cH
  clear h hn
  go_enter Try.func17, Try.ntmps17
  go_wp2_with (go_at_call 38; (with_reducible refine cH.mono ?_); rintro e w1 ⟨rfl, rfl⟩)
  go_ret2
  exact ⟨rfl, rfl⟩
theorem dterm_some {W : World} (h : Dc B d m room v L W) (hl : L.length ≤ 100000) (i : Nat) (t : Tm) (hi : L[i]? = some t) : Calls Try.prog 17 #[.pointer (some ⟨d, 0, none⟩), .int .i64 i] W fun e w' => e = .returned (.tuple #[t.val, .int .i64 0]) ∧ w' = W := by
  have hil := (List.getElem?_eq_some_iff.1 hi).1
  have cH := dhas_any h hl i
  rw [show hasB L i = true from hasB_iff.2 ⟨by omega, by omega⟩] at cH
  obtain ⟨g, c, rfl, hc⟩ := h.term hi
  obtain ⟨c0, c1, c2⟩ := h.cells
  have k1 : (0 : Int) ≤ (i : Int) := by omega
  have k2 : (i : Int) < (L.length : Int) := by omega
  obtain ⟨tv, htv⟩ : ∃ x, x = t.val := ⟨_, rfl⟩
  rw [← htv] at hc ⊢
  clear h htv hi hil
  go_enter Try.func17, Try.ntmps17
  go_wp2_with (go_at_call 38; (with_reducible refine cH.mono ?_); rintro e w1 ⟨rfl, rfl⟩)
  go_ret2
  exact ⟨rfl, rfl⟩
end
end Go.Proofs.Ytpnfjjgihkmjmaa

/-
  A DICTIONARY's CALLS: putGood, Put, Find.
-/
namespace Go.Proofs.Ytpnfjjgihkmjmaa
open Go.RowKit
set_option linter.unusedVariables false
set_option linter.unusedSimpArgs false
set_option maxRecDepth 100000

theorem val_iface (t : Tm) (h : t.kind < 3) : ∃ ty x, t.val = .iface ty x := by
  cases t with
  | blank s => exact ⟨_, _, rfl⟩
  | iri s => exact ⟨_, _, rfl⟩
  | lit a b c => exact ⟨_, _, rfl⟩
  | odd n => exact absurd h (by simp [Tm.kind])
  | none => exact absurd h (by simp [Tm.kind])
/-- A good term put: the terms behind, its number, the error. -/
def putG (room : Int) (L : List Tm) (t : Tm) : List Tm × Int × Int :=
  match nm t L with
  | some j => (L, j, 0)
  | none => if room ≤ L.length then (L, 0, 6) else (L ++ [t], L.length, 0)
theorem d_free {w : World} {g : Nat} {t : TypeId} {cs : Array Value} (h : Fb w g t cs) (i : Nat) : w.frozen? ⟨g, i, none⟩ = false := Lib.frozen_of_heap h i
section
variable {B d m : Nat} {room : Int} {v : Value} {L : List Tm}
theorem Dc.look {W : World} (h : Dc B d m room v L W) (t : Tm) (ht : t.kind < 3) :
    (Instr.lookup 86 (.map (some m)) t.val true).run Try.prog W = .ok (.tuple #[.int .i64 (match nm t L with | some j => (j : Int) | none => 0), .bool (nm t L).isSome]) W := by
  have := h.mp.look h.ks.zip t ht
  rw [posV_zip] at this
  cases hn : nm t L with
  | none => rw [hn] at this; exact this
  | some j => rw [hn] at this; simpa using this
/-- Stored in the map, appended to the list, and that stored. -/
theorem Dc.put_end {W W1 W2 W5 : World} {t : Tm} {n cap g : Nat} {news : List Value} (h : Dc B d m room v L W) (ht : t.kind < 3) (hn0 : nm t L = none) {o : Obj} (hW1 : W1 = putBlock W m o) (hmp : Mp W1 m (L.zipIdx ++ [(t, L.length)]))
    (hb : Below W1.heap.size W1 W2) (hn : n = L.length + 1) (hnews : news = [t.val]) (hown : W5.ownsRow B 41 1 (.slice (some ⟨g, 0, none⟩) n cap) n (L.map Tm.val ++ news)) (hg : W2.grownBy W5 v.ownBlock) (hloc : v.ownBlock = some g ∨ g = W2.heap.size) :
    Dc B d m room (.slice (some ⟨g, 0, none⟩) n cap) (L ++ [t]) (W5.setCell ⟨d, 1, none⟩ (.slice (some ⟨g, 0, none⟩) n cap)) ∧ Tn d m v (.slice (some ⟨g, 0, none⟩) n cap) W (W5.setCell ⟨d, 1, none⟩ (.slice (some ⟨g, 0, none⟩) n cap)) := by
  subst hn hnews
  have hsz : W1.heap.size = W.heap.size := by rw [hW1]; simp [putBlock]
  have hk : ∀ k, k ≠ m → W1.heap[k]? = W.heap[k]? := fun k hk => by rw [hW1]; exact putBlock_far hk
  have hdm := h.d_m
  have hdl := h.st.lt
  have hml := h.mp.lt
  have hrd := h.row_d
  have hrm := h.row_m
  have b25 := hg.size
  have b12 := hb.size
  have d1 : W5.heap[d]? = W.heap[d]? := (hg.block d (by omega) (fun e => hrd e.symm)).trans ((hb.block d (by omega)).trans (hk d hdm))
  have m1 : W5.heap[m]? = W1.heap[m]? := (hg.block m (by omega) (fun e => hrm e.symm)).trans (hb.block m (by omega))
  have hdz : W5.heap[d]? = some (.cells #[.int .i64 room, v, .map (some m)] 89 (0, 0)) := d1.trans h.st
  have hgd : g ≠ d := fun e => by
    rcases hloc with x | x
    · exact hrd (by rw [x, e])
    · omega
  have hs5 : (W5.setCell ⟨d, 1, none⟩ (.slice (some ⟨g, 0, none⟩) (L.length + 1) cap)).heap.size = W5.heap.size := by simp [World.setCell]
  refine ⟨⟨?_, ?_, ?_, h.gd, h.gm, h.ks.snoc ht, List.nodup_append.2 ⟨h.nd, by simp, fun a ha b hb e => nm_fresh hn0 ht (by simp at hb; subst hb; subst e; exact ha)⟩⟩, ⟨?_, ?_, ?_, ?_, ?_, ?_⟩⟩
  · exact heap_setCell_same W5 d 1 _ _ _ hdz
  · have := hown.kept (d_grown_set W5 d 1 (.slice (some ⟨g, 0, none⟩) (L.length + 1) cap)) (.inr fun e => hgd (Option.some.inj e))
    rw [List.length_append, List.map_append]
    exact this
  · refine (show Mp W5 m _ from ?_).of (Below.heap_setCell _ _ _ _ (Ne.symm hdm))
    rw [List.zipIdx_append]
    simpa using hmp.of m1
  · exact hg.os.trans (hb.os.trans (by rw [hW1]; rfl))
  · exact hg.tape.trans (hb.tape.trans (by rw [hW1]; rfl))
  · exact hg.output.trans (hb.output.trans (by rw [hW1]; rfl))
  · rw [hs5]; omega
  · intro k e
    have e : some g = some k := e
    rcases hloc with x | x
    · exact .inl (by rw [x, e])
    · have := Option.some.inj e; right; omega
  · intro k hk1 hkd hkm hkv
    exact (Below.heap_setCell _ _ _ _ hkd).trans ((hg.block k (by omega) (fun e => hkv e.symm)).trans ((hb.block k (by omega)).trans (hk k hkm)))
/-- putGood. -/
def PutPost (B d m : Nat) (room : Int) (v : Value) (W : World) (r : List Tm × Int × Int) (e : Ending) (w' : World) : Prop :=
  ∃ v', e = .returned (.tuple #[.int .i64 r.2.1, .int .i64 r.2.2]) ∧ Dc B d m room v' r.1 w' ∧ Tn d m v v' W w'
set_option maxHeartbeats 4000000 in
theorem dputGood_any {W : World} (h : Dc B d m room v L W) (hB : B ≤ W.heap.size) (hl : L.length ≤ 100000) (t : Tm) (ht : t.kind < 3) :
    Calls Try.prog 37 #[.pointer (some ⟨d, 0, none⟩), t.val] W (PutPost B d m room v W (putG room L t)) := by
  obtain ⟨A, c, rfl⟩ := h.shape
  have hlk := h.look t ht
  have cL := dlen_any h hl
  obtain ⟨c0, c1, c2⟩ := h.cells
  obtain ⟨ty, x, hv⟩ := val_iface t ht
  unfold putG
  cases hn : nm t L with
  | some j =>
    rw [hn] at hlk
    rw [hv] at hlk ⊢
    have hj : (0 : Int) ≤ (j : Int) := by omega
    dsimp only [Option.isSome] at hlk
    have HD := Lib.hid h
    clear h cL hn hv hl hB
    go_enter Try.func37, Try.ntmps37
    go_wp2
    go_ret2
    exact ⟨_, rfl, HD.out, Tn.refl _⟩
  | none =>
    rw [hn] at hlk
    dsimp only [Option.isSome] at hlk
    have hnz : posV t L.zipIdx = none := by rw [posV_zip, hn]; rfl
    obtain ⟨o, hup, hmp⟩ := h.mp.put h.ks.zip t ht hnz L.length
    obtain ⟨W1, hW1⟩ : ∃ W1, W1 = putBlock W m o := ⟨_, rfl⟩
    rw [← hW1] at hup hmp
    have d1 : Fb W1 d 89 #[.int .i64 room, .slice A L.length c, .map (some m)] := by
      unfold Fb
      rw [hW1, putBlock_far h.d_m]
      exact h.st
    have r1 : W1.ownsRow B 41 1 (.slice A L.length c) L.length (L.map Tm.val) := h.row.kept (w' := W1) (row := some m) ⟨by rw [hW1]; rfl, by rw [hW1]; rfl, by rw [hW1]; rfl, by rw [hW1]; simp [putBlock], fun k _ hk => by rw [hW1]; exact putBlock_far (fun e => hk (by rw [e]))⟩ (.inr h.row_m)
    have s1 : W1.heap.size = W.heap.size := by rw [hW1]; simp [putBlock]
    have hend := fun (W2 W5 : World) (n cap g : Nat) (news : List Value) => h.put_end (W2 := W2) (W5 := W5) (n := n) (cap := cap) (g := g) (news := news) ht hn hW1 hmp
    obtain ⟨i0, hi0, hi1, hi2, hi3⟩ := info_parts termInfo
    rw [hv] at hlk hup hend ⊢
    have e0 := d1.cell 0
    have e1 := d1.cell 1
    have e2 := d1.cell 2
    have hrd := h.row_d
    have FZ := Lib.hid (show ∀ w6, (W1.alloc (.cells #[.iface ty x] 41)).grownBy w6 (Value.ownBlock (.slice A L.length c)) → w6.frozen? ⟨d, 1, none⟩ = false from fun w6 hg => by
      rw [hg.frozen_far _ (by have := d1.lt; simp; omega) (fun e => hrd e.symm)]
      exact d_free (d1.alloc _) 1)
    have FC := Lib.hid (show ∀ w6, (W1.alloc (.cells #[.iface ty x] 41)).grownBy w6 (Value.ownBlock (.slice A L.length c)) → w6.cell? ⟨d, 1, none⟩ = some (.slice A L.length c) from fun w6 hg => by
      rw [hg.cell_far _ (by have := d1.lt; simp; omega) (fun e => hrd e.symm)]
      exact (d1.alloc _).cell 1)
    have HD := Lib.hid h
    have HE := Lib.hid hend
    have HR := Lib.hid r1
    have HB := Lib.hid (show B ≤ W1.heap.size by omega)
    have HL := Lib.hid hl
    have hlz : (0 : Int) ≤ (L.length : Int) := by omega
    clear hn hnz hmp hend r1 hv h hB hW1 s1 hrd
    by_cases hr : room ≤ L.length
    · rw [if_pos hr]
      clear hup e0 e1 e2 d1 HE HR hl
      go_enter Try.func37, Try.ntmps37
      go_wp2_with (go_at_call 31; (with_reducible refine cL.mono ?_); rintro e w1 ⟨rfl, rfl⟩)
      go_ret2
      exact ⟨_, rfl, HD.out, Tn.refl _⟩
    · rw [if_neg hr]
      clear hl
      go_enter Try.func37, Try.ntmps37
      go_wp2_with (first
        | (go_at_call 31; (with_reducible refine cL.mono ?_); rintro e w1 ⟨rfl, rfl⟩)
        | (at_builtin; refine wpList_append_lies _ rfl _ _ 87 rfl B 41 i0 .nilIface 1 16 Try.underlying87 hi0 hi1 hi2 hi3 rfl (by decide) _ _ _ rfl (HR.out.alloc _) ⟨W1.heap.size, 0, none⟩ 1 1 [.iface ty x] rfl rfl (cell_one_new _ _ _) (fun u hu => by simp at hu; subst hu; rfl) (by decide) (by have := HL.out; unfold maxLen; omega) (by have := HL.out; omega) (by have := HB.out; simp; omega) _ rfl ?_; intro g5 c7 w6 hown hgrow hloc hg5; have hdf : w6.frozen? ⟨d, 1, none⟩ = false := FZ.out w6 hgrow; have q1 := FC.out w6 hgrow))
      go_ret2
      obtain ⟨r1, r2⟩ := HE.out (W1.alloc (.cells #[.iface ty x] 41)) w6 _ c7 g5 _ ((Below.refl _ _).alloc (Nat.le_refl _) _) rfl rfl hown hgrow hloc
      exact ⟨_, rfl, r1, r2⟩
theorem putG_len {t : Tm} : L.length ≤ (putG room L t).1.length ∧ (putG room L t).1.length ≤ L.length + 1 := by
  unfold putG
  cases nm t L with
  | some j => exact ⟨Nat.le_refl _, Nat.le_succ _⟩
  | none =>
    dsimp only
    split
    · exact ⟨Nat.le_refl _, Nat.le_succ _⟩
    · simp
end
end Go.Proofs.Ytpnfjjgihkmjmaa
