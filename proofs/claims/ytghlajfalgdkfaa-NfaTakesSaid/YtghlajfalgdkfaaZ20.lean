/-
  MERGED (a claim has at most 60 files): NgPi, NgRf, NgRk, NgTrP, NgTrL.
-/
import Derived.Test.YtghlajfalgdkfaaZ19
import Derived.Laws.MakeOwn
import Derived.Laws.OwnMore
/-
  A path in memory, and between which blocks it lies; a row of paths of one's own is one.
-/
namespace Go.Proofs.Ytghlajfalgdkfaa
open Go.RowKit
set_option linter.unusedVariables false
set_option linter.unusedSimpArgs false
set_option maxRecDepth 100000

def RowPi (lo hi : Nat) (W : World) (s : Value) (ps : List Pa) : Prop := (ps = [] ∧ ∃ A c, s = .slice A 0 c) ∨ ∃ g c cs, s = .slice (some ⟨g, 0, none⟩) ps.length c ∧ lo ≤ g ∧ g < hi ∧ Fb W g 28 cs ∧ ∀ (j : Nat) (p : Pa), ps[j]? = some p → cs[j * 3]? = some (.int .i64 p.kd) ∧ cs[j * 3 + 1]? = some (.int .i64 p.n) ∧ cs[j * 3 + 2]? = some p.s
mutual
/-- A path, where it lies, all its rows in blocks from lo on, below hi. -/
def Pi (lo hi : Nat) (W : World) : PT → Pa → Prop
  | .mk k n ts, p => p.kd = k ∧ p.n = n ∧ ∃ ps, RowPi lo hi W p.s ps ∧ Pis lo hi W ts ps
def Pis (lo hi : Nat) (W : World) : List PT → List Pa → Prop
  | [], ps => ps = []
  | t :: ts, ps => ∃ p ps', ps = p :: ps' ∧ Pi lo hi W t p ∧ Pis lo hi W ts ps'
end
theorem RowPi.row {lo hi : Nat} {W : World} {s : Value} {ps : List Pa} (h : RowPi lo hi W s ps) : RowP W s ps := by
  rcases h with h | ⟨g, c, cs, h1, _, _, h2, h3⟩
  · exact .inl h
  · exact .inr ⟨g, c, cs, h1, h2, h3⟩
theorem RowPi.keep {lo hi lo' hi' : Nat} {W W' : World} (hl : lo' ≤ lo) (hh : hi ≤ hi') (hk : ∀ g cs, lo ≤ g → g < hi → Fb W g 28 cs → Fb W' g 28 cs) {s : Value} {ps : List Pa} (h : RowPi lo hi W s ps) : RowPi lo' hi' W' s ps := by
  rcases h with h | ⟨g, c, cs, h1, h4, h5, h2, h3⟩
  · exact .inl h
  · exact .inr ⟨g, c, cs, h1, Nat.le_trans hl h4, Nat.lt_of_lt_of_le h5 hh, hk g cs h4 h5 h2, h3⟩
theorem Pis.of {lo hi : Nat} {W : World} : ∀ {ts : List PT} {ps : List Pa}, Pis lo hi W ts ps → ts.length = ps.length ∧ ∀ (j : Nat) (t : PT) (p : Pa), ts[j]? = some t → ps[j]? = some p → Pi lo hi W t p
  | [], ps, h => by
    unfold Pis at h
    subst h
    exact ⟨rfl, fun j t p h => by simp at h⟩
  | t :: ts, ps, h => by
    unfold Pis at h
    obtain ⟨p, ps', rfl, h1, h2⟩ := h
    obtain ⟨h3, h4⟩ := Pis.of h2
    refine ⟨by simp [h3], fun j t' p' hj hp => ?_⟩
    cases j with
    | zero => simp at hj hp; subst hj hp; exact h1
    | succ j => exact h4 j t' p' (by simpa using hj) (by simpa using hp)
theorem Pis.mk {lo hi : Nat} {W : World} : ∀ {ts : List PT} {ps : List Pa}, ts.length = ps.length → (∀ (j : Nat) (t : PT) (p : Pa), ts[j]? = some t → ps[j]? = some p → Pi lo hi W t p) → Pis lo hi W ts ps
  | [], ps, h, _ => by
    unfold Pis
    exact List.length_eq_zero_iff.1 h.symm
  | t :: ts, [], h, _ => by simp at h
  | t :: ts, p :: ps, h, hj => by
    unfold Pis
    exact ⟨p, ps, rfl, hj 0 t p rfl rfl, Pis.mk (by simpa using h) fun j t' p' h1 h2 => hj (j + 1) t' p' (by simpa using h1) (by simpa using h2)⟩
theorem Pi.keep {lo hi lo' hi' : Nat} {W W' : World} (hl : lo' ≤ lo) (hh : hi ≤ hi') (hk : ∀ g cs, lo ≤ g → g < hi → Fb W g 28 cs → Fb W' g 28 cs) : ∀ (t : PT) (p : Pa), Pi lo hi W t p → Pi lo' hi' W' t p := by
  refine PT.ind fun k n ts ih p h => ?_
  unfold Pi at h ⊢
  obtain ⟨h1, h2, ps, h3, h4⟩ := h
  obtain ⟨e, h5⟩ := Pis.of h4
  exact ⟨h1, h2, ps, h3.keep hl hh hk, Pis.mk e fun j t' p' hj hp => ih t' (List.mem_of_getElem? hj) p' (h5 j t' p' hj hp)⟩
theorem Pi.pth {lo hi : Nat} {W : World} : ∀ (t : PT) (p : Pa), Pi lo hi W t p → Pth W t p := by
  refine PT.ind fun k n ts ih p h => ?_
  unfold Pi at h
  unfold Pth
  obtain ⟨h1, h2, ps, h3, h4⟩ := h
  obtain ⟨e, h5⟩ := Pis.of h4
  exact ⟨h1, h2, ps, h3.row, Pths.mk e fun j t' p' hj hp => ih t' (List.mem_of_getElem? hj) p' (h5 j t' p' hj hp)⟩
/-- A row of paths of one's own. -/
def PpR (B : Nat) (W : World) (v : Value) (ps : List Pa) : Prop := W.ownsRow B 28 3 v ps.length (ps.flatMap pac)
theorem flat_dropN : ∀ (L : List Pa) (j : Nat), (L.drop j).flatMap pac = (L.flatMap pac).drop (j * 3)
  | [], j => by simp
  | x :: L, 0 => by simp
  | x :: L, j + 1 => by
    rw [List.drop_succ_cons, flat_dropN L j, List.flatMap_cons]
    rw [show (j + 1) * 3 = (pac x).length + j * 3 by rw [pac_len]; omega, ← List.drop_drop]
    simp
theorem flat_atN {L : List Pa} {j t : Nat} {x : Pa} (hj : L[j]? = some x) (ht : t < 3) : (L.flatMap pac)[j * 3 + t]? = (pac x)[t]? := by
  rw [← List.getElem?_drop, ← flat_dropN]
  obtain ⟨hlt, rfl⟩ := List.getElem?_eq_some_iff.1 hj
  rw [List.drop_eq_getElem_cons hlt, List.flatMap_cons, List.getElem?_append_left (by rw [pac_len]; exact ht)]
theorem PpR.pi {B : Nat} {W : World} {v : Value} {ps : List Pa} (h : PpR B W v ps) : RowPi B W.heap.size W v ps := by
  rcases id h.2 with ⟨hv, hl⟩ | ⟨g, cap, cur, hv, hB, hg, _⟩
  · exact .inl ⟨List.length_eq_zero_iff.1 hl, none, 0, hv⟩
  · have hF : Fb W g 28 cur := hg
    subst hv
    have key : ∀ (j t : Nat) (p : Pa) u, t < 3 → ps[j]? = some p → (pac p)[t]? = some u → cur[j * 3 + t]? = some u := fun j t p u ht hj hu => by
      have := h.cells (g := g) rfl (j * 3 + t) u ((flat_atN hj ht).trans hu)
      rw [at_add, Nat.zero_add, hF.cell] at this
      exact this
    exact .inr ⟨g, cap, cur, rfl, hB, hF.lt, hF, fun j p hj => ⟨key j 0 p _ (by decide) hj rfl, key j 1 p _ (by decide) hj rfl, key j 2 p _ (by decide) hj rfl⟩⟩
/-- Nodes in rows of their own, as given ones. -/
theorem NdO.cells {B : Nat} {W : World} {v : Value} {ns : List Nd} (h : NdO B W v ns) : ∃ A c, v = .slice A ns.length c ∧ ∀ (j : Nat) (d : Nd), ns[j]? = some d → ∃ (g : Nat) (A' : Option Addr) (c' : Nat), A = some ⟨g, 0, none⟩ ∧ W.cell? ⟨g, j * 3, none⟩ = some (.int .i64 d.k) ∧ W.cell? ⟨g, j * 3 + 1, none⟩ = some (.int .i64 d.n) ∧ W.cell? ⟨g, j * 3 + 2, none⟩ = some (.slice A' d.ds.length c') ∧ Byt W A' d.ds := by
  obtain ⟨ps, h1, h2, h3⟩ := h
  rcases id h1.2 with ⟨hv, hl⟩ | ⟨g, cap, cur, hv, hB, hg, _⟩
  · refine ⟨none, 0, by rw [hv, ← h2, hl], fun j d hj => ?_⟩
    have := (List.getElem?_eq_some_iff.1 hj).1
    omega
  · subst hv
    refine ⟨some ⟨g, 0, none⟩, cap, by rw [h2], fun j d hj => ?_⟩
    have hlt : j < ps.length := by have := (List.getElem?_eq_some_iff.1 hj).1; omega
    obtain ⟨p, hp⟩ : ∃ p, ps[j]? = some p := ⟨_, List.getElem?_eq_getElem hlt⟩
    obtain ⟨e1, e2, hb⟩ := h3 j p d hp hj
    have key : ∀ (t : Nat) u, t < 3 → (pac p)[t]? = some u → W.cell? ⟨g, j * 3 + t, none⟩ = some u := fun t u ht hu => by
      have := h1.cells (g := g) rfl (j * 3 + t) u ((flat_atN hp ht).trans hu)
      rwa [at_add, Nat.zero_add] at this
    obtain ⟨A', c', es, _⟩ := row_shape hb
    refine ⟨g, A', c', rfl, by rw [← e1]; exact key 0 _ (by decide) rfl, by rw [← e2]; exact key 1 _ (by decide) rfl, by rw [← es]; exact key 2 _ (by decide) rfl, fun i x hx => ?_⟩
    rcases id hb.2 with ⟨_, hl⟩ | ⟨g', cap', cur', hv', hB', hg', _⟩
    · have := (List.getElem?_eq_some_iff.1 hx).1
      omega
    · rw [hv'] at es hb
      have ea := (Value.slice.inj es).1
      subst ea
      have := hb.cells (g := g') rfl i (.int .u8 x) (by rw [List.getElem?_map, hx]; rfl)
      rw [at_add] at this
      exact ⟨g', 0, rfl, (Array.getElem?_eq_some_iff.1 hg').1, this⟩
end Go.Proofs.Ytghlajfalgdkfaa

/-
  The reference's list in memory; how many paths are in one of its paths.
-/
namespace Go.Proofs.Ytghlajfalgdkfaa
open Go.RowKit
set_option linter.unusedVariables false
set_option linter.unusedSimpArgs false
set_option maxRecDepth 100000

/-- The reference's list: at each place a tree, whose parts are trees of the list. -/
def Rf (W : World) (g len : Nat) (T : List PT) : Prop := T.length = len ∧ ∀ (i : Nat) (k n : Int) (ts : List PT), T[i]? = some (.mk k n ts) → ∃ (A' : Option Addr) (c' : Nat), W.cell? ⟨g, i * 3, none⟩ = some (.int .i64 k) ∧ W.cell? ⟨g, i * 3 + 1, none⟩ = some (.int .i64 n) ∧ W.cell? ⟨g, i * 3 + 2, none⟩ = some (.slice A' ts.length c') ∧ ∀ (j : Nat) (t : PT), ts[j]? = some t → ∃ (g' q : Nat), A' = some ⟨g', 0, none⟩ ∧ W.cell? ⟨g', j, none⟩ = some (.int .i64 (q : Int)) ∧ T[q]? = some t
theorem Rf.below {W W' : World} {g len : Nat} {T : List PT} (h : Rf W g len T) (hb : Below W.heap.size W W') : Rf W' g len T := ⟨h.1, fun i k n ts hi => by
  obtain ⟨A', c', h1, h2, h3, h4⟩ := h.2 i k n ts hi
  refine ⟨A', c', cell_below h1 hb, cell_below h2 hb, cell_below h3 hb, fun j t hj => ?_⟩
  obtain ⟨g', q, h5, h6, h7⟩ := h4 j t hj
  exact ⟨g', q, h5, cell_below h6 hb, h7⟩⟩
theorem sz_mem : ∀ {ts : List PT} {t : PT}, t ∈ ts → sz t ≤ szs ts
  | s :: ts, t, h => by
    rw [szs]
    rcases List.mem_cons.1 h with rfl | h
    · omega
    · have := sz_mem h
      omega
def RzR (W : World) (ts : List PT) (gk : Nat) (s5 s13 : Value) (wr : World) : Prop := ∃ j : Nat, j + gk = ts.length ∧ s5 = .int .i64 ((1 + szs (ts.take j) : Nat) : Int) ∧ s13 = .int .i64 (j : Int) ∧ wr = W
set_option maxHeartbeats 16000000 in
theorem rsize_gen {W : World} {g len c : Nat} {T : List PT} (hR : Rf W g len T) (hlen : len ≤ 1000) : ∀ t : PT, sz t ≤ 1000 → ∀ at_ : Nat, T[at_]? = some t →
    Calls Try.prog 33 #[.slice (some ⟨g, 0, none⟩) len c, .int .i64 (at_ : Int)] W fun e w' => e = .returned (.int .i64 (sz t : Int)) ∧ w' = W := by
  refine PT.ind fun k n ts ih hs at_ hat => ?_
  obtain ⟨A', c', x0, x1, x2, hp⟩ := hR.2 at_ k n ts hat
  have hal : at_ < len := by have := (List.getElem?_eq_some_iff.1 hat).1; have := hR.1; omega
  rw [sz] at hs ⊢
  have HP := Lib.hid hp
  have HIH := Lib.hid (fun (t : PT) (ht : t ∈ ts) (q : Nat) (hq : T[q]? = some t) => ih t ht (by have := sz_mem ht; omega) q hq)
  obtain ⟨m, hm⟩ : ∃ m, m = ts.length := ⟨_, rfl⟩
  rw [← hm] at x2
  have HM := Lib.hid hm
  have HT := Lib.hid hR.1
  have HS := Lib.hid hs
  have a0 : (0 : Int) ≤ (at_ : Int) := by omega
  have a1 : (at_ : Int) < (len : Int) := by omega
  have l1 : (len : Int) ≤ 1000 := by omega
  have m0 : (0 : Int) ≤ (m : Int) := by omega
  have m1 : (m : Int) ≤ 1000 := by have := szs_len ts; omega
  clear hp ih hs hal hat hm hR hlen x0 x1
  go_enter Try.func33, Try.ntmps33
  go_wp2
  go_loopg [5, 13] ts.length (fun gk s5 s13 wr => RzR W ts gk s5 s13 wr)
  case atStart => exact ⟨0, by omega, rfl, rfl, rfl⟩
  case round =>
    obtain ⟨j, hj, rfl, rfl, rfl⟩ := hrel
    have hmm := HM.out
    by_cases hlt : j < ts.length
    · obtain ⟨t, ht⟩ : ∃ t, ts[j]? = some t := ⟨_, List.getElem?_eq_getElem hlt⟩
      obtain ⟨g', q, hA, y0, hq⟩ := HP.out j t ht
      subst hA
      have htm := List.mem_of_getElem? ht
      have cS := HIH.out t htm q hq
      have hs1 := szs_take ts j t ht
      have hs2 := szs_take_le ts (j + 1)
      have hss := HS.out
      have j0 : (0 : Int) ≤ (j : Int) := by omega
      have j1 : (j : Int) < (m : Int) := by omega
      obtain ⟨a, ha⟩ : ∃ a : Nat, a = 1 + szs (ts.take j) := ⟨_, rfl⟩
      obtain ⟨b, hb⟩ : ∃ b : Nat, b = sz t := ⟨_, rfl⟩
      rw [← ha]
      rw [← hb] at cS
      have s0 : (0 : Int) ≤ (a : Int) := by omega
      have s1 : (a : Int) ≤ 1000 := by omega
      have s2 : (0 : Int) ≤ (b : Int) := by omega
      have s3 : (b : Int) ≤ 1000 := by omega
      have HE := Lib.hid (show ((1 + szs (ts.take (j + 1)) : Nat) : Int) = (a : Int) + (b : Int) by omega)
      have HJ := Lib.hid (And.intro hj hlt)
      clear hj hlt ht hq htm hs1 hs2 hss ha hb hmm
      go_wp2_with (go_at_call 33; (with_reducible refine cS.mono ?_); rintro e w5 ⟨rfl, rfl⟩)
      go_roundg (ts.length - (j + 1))
      case measure => have := HJ.out; omega
      case rel => exact ⟨j + 1, by have := HJ.out; omega, by rw [HE.out], by rw [Int.natCast_add]; rfl, rfl⟩
    · have hje : j = ts.length := by omega
      have j1 : ¬ ((j : Int) < (m : Int)) := by omega
      rw [hje, List.take_length]
      have j2 : ¬ ((ts.length : Int) < (m : Int)) := by omega
      clear hj hlt hje hmm j1
      go_wp2
      go_ret
      exact ⟨rfl, rfl⟩
end Go.Proofs.Ytghlajfalgdkfaa

/-
  The reference's list in memory: its rows' room.
-/
namespace Go.Proofs.Ytghlajfalgdkfaa
open Go.RowKit
set_option linter.unusedVariables false
def RfC (W : World) (g : Nat) (T : List PT) : Prop := ∀ (i : Nat) (k n : Int) (ts : List PT), T[i]? = some (.mk k n ts) → ∃ (A' : Option Addr) (c' : Nat), W.cell? ⟨g, i * 3 + 2, none⟩ = some (.slice A' ts.length c') ∧ ts.length ≤ c' ∧ c' ≤ maxLen
theorem RfC.below {W W' : World} {g : Nat} {T : List PT} (h : RfC W g T) (hb : Below W.heap.size W W') : RfC W' g T := fun i k n ts hi => by
  obtain ⟨A', c', h1, h2⟩ := h i k n ts hi
  exact ⟨A', c', cell_below h1 hb, h2⟩
end Go.Proofs.Ytghlajfalgdkfaa

/-
  Tree: nodes as it is given them, and its three arrays, filled from behind.
-/
namespace Go.Proofs.Ytghlajfalgdkfaa
open Go.RowKit
set_option linter.unusedVariables false
set_option linter.unusedSimpArgs false
set_option maxRecDepth 100000

/-- Nodes as Tree is given them. -/
def Nq (W : World) (A : Option Addr) (ns : List Nd) : Prop := ∀ (j : Nat) (d : Nd), ns[j]? = some d → ∃ (g o : Nat) (A' : Option Addr) (c' : Nat), A = some ⟨g, o, none⟩ ∧ g < W.heap.size ∧ W.cell? ⟨g, o + j * 3, none⟩ = some (.int .i64 d.k) ∧ W.cell? ⟨g, o + j * 3 + 1, none⟩ = some (.int .i64 d.n) ∧ W.cell? ⟨g, o + j * 3 + 2, none⟩ = some (.slice A' d.ds.length c') ∧ Byt W A' d.ds ∧ d.ds.length ≤ maxLen ∧ ∀ x ∈ d.ds, 0 ≤ x ∧ x < 256
theorem Byt.below {W W' : World} {A : Option Addr} {l : List Int} (h : Byt W A l) (hb : Below W.heap.size W W') : Byt W' A l := fun j x hx => by
  obtain ⟨g, o, h1, h2, h3⟩ := h j x hx
  exact ⟨g, o, h1, Nat.lt_of_lt_of_le h2 hb.size, cell_below h3 hb⟩
theorem Nq.below {W W' : World} {A : Option Addr} {ns : List Nd} (h : Nq W A ns) (hb : Below W.heap.size W W') : Nq W' A ns := fun j d hj => by
  obtain ⟨g, o, A', c', h1, h2, h3, h4, h5, h6, h7, h8⟩ := h j d hj
  exact ⟨g, o, A', c', h1, Nat.lt_of_lt_of_le h2 hb.size, cell_below h3 hb, cell_below h4 hb, cell_below h5 hb, h6.below hb, h7, h8⟩
theorem NdI.nq {W : World} {A : Option Addr} {len : Nat} (h : NdI W A len) : ∃ ns : List Nd, ns.length = len ∧ Nq W A ns := by
  have key : ∀ k, k ≤ len → ∃ ns : List Nd, ns.length = k ∧ Nq W A ns := fun k => by
    induction k with
    | zero => exact fun _ => ⟨[], rfl, fun j d h => by simp at h⟩
    | succ k ih =>
      intro hk
      obtain ⟨ns, hl, hq⟩ := ih (by omega)
      obtain ⟨g, o, kd, nn, A', m', c', l', h1, h2, h3, h4, h5, h6, h7, h8, h9, _⟩ := h k (by omega)
      subst h6
      refine ⟨ns ++ [⟨kd, nn, l'⟩], by simp [hl], fun j d hj => ?_⟩
      rcases Nat.lt_or_ge j ns.length with h | h
      · rw [List.getElem?_append_left h] at hj
        exact hq j d hj
      · rw [List.getElem?_append_right h] at hj
        have h0 : j - ns.length = 0 := by
          have := (List.getElem?_eq_some_iff.1 hj).1
          simp at this; omega
        rw [h0] at hj
        simp at hj
        subst hj
        have hjk : j = k := by omega
        subst hjk
        exact ⟨g, o, A', c', h1, h2, h3, h4, h5, h8, h7, h9⟩
  exact key len (Nat.le_refl _)
theorem NdO.nq {B L : Nat} {W : World} {v : Value} {ns : List Nd} (h : NdO B W v ns) (hL : L ≤ 8) (hF : ∀ (j : Nat) (d : Nd), ns[j]? = some d → Fm L j d) : ∃ A c, v = .slice A ns.length c ∧ Nq W A ns := by
  obtain ⟨A, c, e, hc⟩ := h.cells
  refine ⟨A, c, e, fun j d hj => ?_⟩
  obtain ⟨g, A', c', h1, h2, h3, h4, h5⟩ := hc j d hj
  have hf := hF j d hj
  refine ⟨g, 0, A', c', h1, World.block_lt_of_cell? W _ h2, ?_, ?_, ?_, h5, by have := hf.m; unfold maxLen; omega, fun x hx => by have := hf.d x hx; omega⟩
  · rw [Nat.zero_add]; exact h2
  · rw [Nat.zero_add]; exact h3
  · rw [Nat.zero_add]; exact h4
theorem trees_drop : ∀ (ns : List Nd) (i : Nat), (trees ns).drop i = trees (ns.drop i)
  | [], i => by simp [trees]
  | x :: ns, 0 => rfl
  | x :: ns, i + 1 => by rw [trees, List.drop_succ_cons, List.drop_succ_cons, trees_drop ns i]
theorem trees_at : ∀ {ns : List Nd} {i : Nat} {d : Nd}, ns[i]? = some d → (trees ns)[i]? = some (.mk d.k d.n (pick ((trees ns).drop (i + 1)) d.ds 0 1))
  | [], i, d, h => by simp at h
  | x :: ns, 0, d, h => by
    simp at h
    subst h
    rw [trees]
    rfl
  | x :: ns, i + 1, d, h => by
    rw [trees, List.getElem?_cons_succ, List.drop_succ_cons]
    exact trees_at (by simpa using h)
theorem szs_snoc : ∀ (ts : List PT) (t : PT), szs (ts ++ [t]) = szs ts + sz t
  | [], t => by simp only [List.nil_append, szs]; omega
  | s :: ts, t => by rw [List.cons_append, szs, szs, szs_snoc ts t]; omega
/-- How far the parts are picked. -/
structure PkR (Ts : List PT) (ds : List Int) (j : Nat) (pl : List PT) : Prop where
  l : pl.length = j
  j3 : j ≤ 3
  e : pick Ts ds 0 1 = pl ++ pick Ts (ds.drop j) j (1 + szs pl)
  s : 1 + szs pl ≤ 300
  m : ∀ t ∈ pl, t ∈ Ts
theorem PkR.start (Ts : List PT) (ds : List Int) : PkR Ts ds 0 [] := ⟨rfl, by omega, by simp [szs], by simp [szs], by simp⟩
theorem PkR.stop {Ts : List PT} {ds : List Int} {j : Nat} {pl : List PT} (h : PkR Ts ds j pl) (hs : ds.length ≤ j ∨ j = 3 ∨ ∃ x, ds[j]? = some x ∧ (Ts[(x % 8).toNat]? = none ∨ ∃ t, Ts[(x % 8).toNat]? = some t ∧ 300 < 1 + szs pl + sz t)) : pick Ts ds 0 1 = pl := by
  rw [h.e]
  have : pick Ts (ds.drop j) j (1 + szs pl) = [] := by
    rcases hs with hs | hs | ⟨x, hx, hs⟩
    · rw [List.drop_eq_nil_of_le hs, pick]
    · cases ds.drop j with
      | nil => rw [pick]
      | cons y ys => rw [pick, if_pos hs]
    · obtain ⟨hlt, rfl⟩ := List.getElem?_eq_some_iff.1 hx
      rw [List.drop_eq_getElem_cons hlt, pick]
      by_cases h3 : j = 3
      · rw [if_pos h3]
      · rw [if_neg h3]
        rcases hs with hs | ⟨t, ht, hs⟩
        · rw [hs]
        · rw [ht]
          dsimp only
          rw [if_pos hs]
  rw [this, List.append_nil]
theorem PkR.go {Ts : List PT} {ds : List Int} {j : Nat} {pl : List PT} (h : PkR Ts ds j pl) {x : Int} {t : PT} (hx : ds[j]? = some x) (h3 : j ≠ 3) (ht : Ts[(x % 8).toNat]? = some t) (hs : 1 + szs pl + sz t ≤ 300) : PkR Ts ds (j + 1) (pl ++ [t]) := by
  refine ⟨by simp [h.l], by have := h.j3; omega, ?_, by rw [szs_snoc]; omega, fun s hs => ?_⟩
  · rw [h.e]
    obtain ⟨hlt, rfl⟩ := List.getElem?_eq_some_iff.1 hx
    rw [List.drop_eq_getElem_cons hlt, pick, if_neg h3, ht]
    dsimp only
    rw [if_neg (by omega), szs_snoc, List.append_assoc, Nat.add_assoc]
    rfl
  · rcases List.mem_append.1 hs with hs | hs
    · exact h.m s hs
    · rw [List.mem_singleton.1 hs]; exact List.mem_of_getElem? ht
def RwI (lo hi : Nat) (W : World) (v : Value) (ts T : List PT) : Prop := ∃ (A : Option Addr) (c : Nat), v = .slice A ts.length c ∧ (ts.length ≤ c ∧ c ≤ maxLen) ∧ ∀ (j : Nat) (t : PT), ts[j]? = some t → ∃ (g q : Nat), A = some ⟨g, 0, none⟩ ∧ lo ≤ g ∧ g < hi ∧ W.cell? ⟨g, j, none⟩ = some (.int .i64 (q : Int)) ∧ T[q]? = some t
theorem RwI.on {lo hi hi' : Nat} {W W' : World} {v : Value} {ts T : List PT} (h : RwI lo hi W v ts T) (hb : ∀ g, lo ≤ g → g < hi → W'.heap[g]? = W.heap[g]?) (hh : hi ≤ hi') : RwI lo hi' W' v ts T := by
  obtain ⟨A, c, h1, h0, h2⟩ := h
  refine ⟨A, c, h1, h0, fun j t hj => ?_⟩
  obtain ⟨g, q, a1, a2, a3, a4, a5⟩ := h2 j t hj
  exact ⟨g, q, a1, a2, Nat.lt_of_lt_of_le a3 hh, (World.cell?_of_block (hb g a2 a3)).trans a4, a5⟩
theorem Pi.on {lo hi hi' : Nat} {W W' : World} {t : PT} {p : Pa} (h : Pi lo hi W t p) (hb : ∀ g, lo ≤ g → g < hi → W'.heap[g]? = W.heap[g]?) (hh : hi ≤ hi') : Pi lo hi' W' t p := Pi.keep (Nat.le_refl _) hh (fun g cs h1 h2 hf => (hb g h1 h2).trans hf) t p h
/-- The three arrays, filled from a place on; rows of what stands there in blocks behind them, below S. -/
structure Ar (W : World) (g4 L S : Nat) (T : List PT) (a : Nat) : Prop where
  z : g4 + 3 ≤ S ∧ S ≤ W.heap.size
  b4 : ∃ cs, Fb W g4 62 cs ∧ cs.size = L * 3
  b5 : ∃ cs, Fb W (g4 + 1) 28 cs ∧ cs.size = L * 3
  b6 : ∃ cs, Fb W (g4 + 2) 3 cs ∧ cs.size = L
  r : ∀ (i : Nat) (k n : Int) (ts : List PT), a ≤ i → T[i]? = some (.mk k n ts) → ∃ v, W.cell? ⟨g4, i * 3, none⟩ = some (.int .i64 k) ∧ W.cell? ⟨g4, i * 3 + 1, none⟩ = some (.int .i64 n) ∧ W.cell? ⟨g4, i * 3 + 2, none⟩ = some v ∧ RwI (g4 + 3) S W v ts T
  p : ∀ (i : Nat) (t : PT), a ≤ i → T[i]? = some t → ∃ p : Pa, W.cell? ⟨g4 + 1, i * 3, none⟩ = some (.int .i64 p.kd) ∧ W.cell? ⟨g4 + 1, i * 3 + 1, none⟩ = some (.int .i64 p.n) ∧ W.cell? ⟨g4 + 1, i * 3 + 2, none⟩ = some p.s ∧ Pi (g4 + 3) S W t p
  s : ∀ (i : Nat) (t : PT), a ≤ i → T[i]? = some t → W.cell? ⟨g4 + 2, i, none⟩ = some (.int .i64 (sz t : Int))
theorem Ar.on {W W' : World} {g4 L S a : Nat} {T : List PT} (h : Ar W g4 L S T a) (hb : Below S W W') : Ar W' g4 L S T a := by
  obtain ⟨⟨z1, z2⟩, ⟨c4, b4, s4⟩, ⟨c5, b5, s5⟩, ⟨c6, b6, s6⟩, hr, hp, hs⟩ := h
  have hk : ∀ g, g4 + 3 ≤ g → g < S → W'.heap[g]? = W.heap[g]? := fun g _ h => hb.block g h
  have hc : ∀ (g q : Nat) (u : Value), g < S → W.cell? ⟨g, q, none⟩ = some u → W'.cell? ⟨g, q, none⟩ = some u := fun g q u hg hu => (World.cell?_of_block (hb.block g hg)).trans hu
  refine ⟨⟨z1, Nat.le_trans z2 hb.size⟩, ⟨c4, (hb.block _ (by omega)).trans b4, s4⟩, ⟨c5, (hb.block _ (by omega)).trans b5, s5⟩, ⟨c6, (hb.block _ (by omega)).trans b6, s6⟩, fun i k n ts hi ht => ?_, fun i t hi ht => ?_, fun i t hi ht => hc _ _ _ (by omega) (hs i t hi ht)⟩
  · obtain ⟨v, x1, x2, x3, x4⟩ := hr i k n ts hi ht
    exact ⟨v, hc _ _ _ (by omega) x1, hc _ _ _ (by omega) x2, hc _ _ _ (by omega) x3, x4.on hk (Nat.le_refl _)⟩
  · obtain ⟨p, x1, x2, x3, x4⟩ := hp i t hi ht
    exact ⟨p, hc _ _ _ (by omega) x1, hc _ _ _ (by omega) x2, hc _ _ _ (by omega) x3, x4.on hk (Nat.le_refl _)⟩
theorem Ar.more {W : World} {g4 L S S' a : Nat} {T : List PT} (h : Ar W g4 L S T a) (h1 : S ≤ S') (h2 : S' ≤ W.heap.size) : Ar W g4 L S' T a :=
  ⟨⟨Nat.le_trans h.z.1 h1, h2⟩, h.b4, h.b5, h.b6, fun i k n ts hi ht => by
    obtain ⟨v, x1, x2, x3, x4⟩ := h.r i k n ts hi ht
    exact ⟨v, x1, x2, x3, x4.on (fun _ _ _ => rfl) h1⟩, fun i t hi ht => by
    obtain ⟨p, x1, x2, x3, x4⟩ := h.p i t hi ht
    exact ⟨p, x1, x2, x3, x4.on (fun _ _ _ => rfl) h1⟩, h.s⟩
theorem cell_set_ne {W : World} {g t : Nat} {cs : Array Value} (hf : Fb W g t cs) {q q' b' : Nat} (u : Value) (h : g ≠ b' ∨ q ≠ q') : (W.setCell ⟨b', q', none⟩ u).cell? ⟨g, q, none⟩ = W.cell? ⟨g, q, none⟩ := by
  by_cases hg : g = b'
  · subst hg
    rw [(hf.set q' u).cell, hf.cell, Array.getElem?_setIfInBounds_ne (fun e => (h.resolve_left (fun h => h rfl)) e.symm)]
  · rw [(hf.far q' u hg).cell, hf.cell]
theorem cell_set_eq {W : World} {g t : Nat} {cs : Array Value} (hf : Fb W g t cs) {q : Nat} (u : Value) (h : q < cs.size) : (W.setCell ⟨g, q, none⟩ u).cell? ⟨g, q, none⟩ = some u := by
  rw [(hf.set q u).cell]
  simp [h]
theorem Ar.set {W : World} {g4 L S a : Nat} {T : List PT} (h : Ar W g4 L S T a) {b q : Nat} (u : Value) (hq : b = g4 ∧ q < a * 3 ∨ b = g4 + 1 ∧ q < a * 3 ∨ b = g4 + 2 ∧ q < a) : Ar (W.setCell ⟨b, q, none⟩ u) g4 L S T a := by
  obtain ⟨⟨z1, z2⟩, ⟨c4, b4, s4⟩, ⟨c5, b5, s5⟩, ⟨c6, b6, s6⟩, hr, hp, hs⟩ := h
  have hk : ∀ g, g4 + 3 ≤ g → g < S → (W.setCell ⟨b, q, none⟩ u).heap[g]? = W.heap[g]? := fun g h1 h2 => Below.heap_setCell _ _ _ _ (show g ≠ b by omega)
  have f : ∀ {g t : Nat} {cs : Array Value}, Fb W g t cs → ∃ cs', Fb (W.setCell ⟨b, q, none⟩ u) g t cs' ∧ cs'.size = cs.size := fun {g t cs} hf => by
    by_cases hg : g = b
    · subst hg; exact ⟨_, hf.set q u, by simp⟩
    · exact ⟨_, hf.far q u hg, rfl⟩
  obtain ⟨d4, e4, t4⟩ := f b4
  obtain ⟨d5, e5, t5⟩ := f b5
  obtain ⟨d6, e6, t6⟩ := f b6
  refine ⟨⟨z1, by rw [World.size_setCell]; exact z2⟩, ⟨d4, e4, t4.trans s4⟩, ⟨d5, e5, t5.trans s5⟩, ⟨d6, e6, t6.trans s6⟩, fun i k n ts hi ht => ?_, fun i t hi ht => ?_, fun i t hi ht => (cell_set_ne b6 u (by omega)).trans (hs i t hi ht)⟩
  · obtain ⟨v, x1, x2, x3, x4⟩ := hr i k n ts hi ht
    exact ⟨v, (cell_set_ne b4 u (by omega)).trans x1, (cell_set_ne b4 u (by omega)).trans x2, (cell_set_ne b4 u (by omega)).trans x3, x4.on hk (Nat.le_refl _)⟩
  · obtain ⟨p, x1, x2, x3, x4⟩ := hp i t hi ht
    exact ⟨p, (cell_set_ne b5 u (by omega)).trans x1, (cell_set_ne b5 u (by omega)).trans x2, (cell_set_ne b5 u (by omega)).trans x3, x4.on hk (Nat.le_refl _)⟩
/-- The node that is being filled. -/
structure Cu (W : World) (g4 i : Nat) (k n : Int) (v4 v5 : Value) (s : Nat) : Prop where
  a0 : W.cell? ⟨g4, i * 3, none⟩ = some (.int .i64 k)
  a1 : W.cell? ⟨g4, i * 3 + 1, none⟩ = some (.int .i64 n)
  a2 : W.cell? ⟨g4, i * 3 + 2, none⟩ = some v4
  p0 : W.cell? ⟨g4 + 1, i * 3, none⟩ = some (.int .i64 k)
  p1 : W.cell? ⟨g4 + 1, i * 3 + 1, none⟩ = some (.int .i64 n)
  p2 : W.cell? ⟨g4 + 1, i * 3 + 2, none⟩ = some v5
  s : W.cell? ⟨g4 + 2, i, none⟩ = some (.int .i64 (s : Int))
theorem Cu.on {W W' : World} {g4 i s S : Nat} {k n : Int} {v4 v5 : Value} (h : Cu W g4 i k n v4 v5 s) (hb : Below S W W') (hS : g4 + 3 ≤ S) : Cu W' g4 i k n v4 v5 s := by
  have hc : ∀ (g q : Nat) (u : Value), g < S → W.cell? ⟨g, q, none⟩ = some u → W'.cell? ⟨g, q, none⟩ = some u := fun g q u hg hu => (World.cell?_of_block (hb.block g hg)).trans hu
  exact ⟨hc _ _ _ (by omega) h.a0, hc _ _ _ (by omega) h.a1, hc _ _ _ (by omega) h.a2, hc _ _ _ (by omega) h.p0, hc _ _ _ (by omega) h.p1, hc _ _ _ (by omega) h.p2, hc _ _ _ (by omega) h.s⟩
theorem Cu.size {W : World} {g4 L S i a s : Nat} {T : List PT} {k n : Int} {v4 v5 : Value} (h : Cu W g4 i k n v4 v5 s) (hA : Ar W g4 L S T a) (hi : i < L) (s' : Nat) : Cu (W.setCell ⟨g4 + 2, i, none⟩ (.int .i64 (s' : Int))) g4 i k n v4 v5 s' := by
  obtain ⟨_, ⟨c4, b4, s4⟩, ⟨c5, b5, s5⟩, ⟨c6, b6, s6⟩, _, _, _⟩ := hA
  exact ⟨(cell_set_ne b4 _ (by omega)).trans h.a0, (cell_set_ne b4 _ (by omega)).trans h.a1, (cell_set_ne b4 _ (by omega)).trans h.a2, (cell_set_ne b5 _ (by omega)).trans h.p0, (cell_set_ne b5 _ (by omega)).trans h.p1, (cell_set_ne b5 _ (by omega)).trans h.p2, cell_set_eq b6 _ (by omega)⟩
theorem Cu.refs {W : World} {g4 L S i a s : Nat} {T : List PT} {k n : Int} {v4 v5 : Value} (h : Cu W g4 i k n v4 v5 s) (hA : Ar W g4 L S T a) (hi : i < L) (v' : Value) : Cu (W.setCell ⟨g4, i * 3 + 2, none⟩ v') g4 i k n v' v5 s := by
  obtain ⟨_, ⟨c4, b4, s4⟩, ⟨c5, b5, s5⟩, ⟨c6, b6, s6⟩, _, _, _⟩ := hA
  exact ⟨(cell_set_ne b4 _ (by omega)).trans h.a0, (cell_set_ne b4 _ (by omega)).trans h.a1, cell_set_eq b4 _ (by omega), (cell_set_ne b5 _ (by omega)).trans h.p0, (cell_set_ne b5 _ (by omega)).trans h.p1, (cell_set_ne b5 _ (by omega)).trans h.p2, (cell_set_ne b6 _ (by omega)).trans h.s⟩
theorem Cu.reals {W : World} {g4 L S i a s : Nat} {T : List PT} {k n : Int} {v4 v5 : Value} (h : Cu W g4 i k n v4 v5 s) (hA : Ar W g4 L S T a) (hi : i < L) (v' : Value) : Cu (W.setCell ⟨g4 + 1, i * 3 + 2, none⟩ v') g4 i k n v4 v' s := by
  obtain ⟨_, ⟨c4, b4, s4⟩, ⟨c5, b5, s5⟩, ⟨c6, b6, s6⟩, _, _, _⟩ := hA
  exact ⟨(cell_set_ne b4 _ (by omega)).trans h.a0, (cell_set_ne b4 _ (by omega)).trans h.a1, (cell_set_ne b4 _ (by omega)).trans h.a2, (cell_set_ne b5 _ (by omega)).trans h.p0, (cell_set_ne b5 _ (by omega)).trans h.p1, cell_set_eq b5 _ (by omega), (cell_set_ne b6 _ (by omega)).trans h.s⟩
theorem Ar.can {W : World} {g4 L S a i : Nat} {T : List PT} (h : Ar W g4 L S T a) (hi : i < L) : (∃ u, W.cell? ⟨g4, i * 3, none⟩ = some u) ∧ (∃ u, W.cell? ⟨g4, i * 3 + 1, none⟩ = some u) ∧ (∃ u, W.cell? ⟨g4, i * 3 + 2, none⟩ = some u) ∧ (∃ u, W.cell? ⟨g4 + 1, i * 3, none⟩ = some u) ∧ (∃ u, W.cell? ⟨g4 + 1, i * 3 + 1, none⟩ = some u) ∧ (∃ u, W.cell? ⟨g4 + 1, i * 3 + 2, none⟩ = some u) ∧ (∃ u, W.cell? ⟨g4 + 2, i, none⟩ = some u) := by
  obtain ⟨_, ⟨c4, b4, s4⟩, ⟨c5, b5, s5⟩, ⟨c6, b6, s6⟩, _, _, _⟩ := h
  have key : ∀ {g t : Nat} {cs : Array Value}, Fb W g t cs → ∀ q, q < cs.size → ∃ u, W.cell? ⟨g, q, none⟩ = some u := fun {g t cs} hf q hq => ⟨_, (hf.cell q).trans (Array.getElem?_eq_getElem hq)⟩
  exact ⟨key b4 _ (by omega), key b4 _ (by omega), key b4 _ (by omega), key b5 _ (by omega), key b5 _ (by omega), key b5 _ (by omega), key b6 _ (by omega)⟩
theorem Ar.free4 {W : World} {g4 L S a : Nat} {T : List PT} (h : Ar W g4 L S T a) (q : Nat) : W.frozen? ⟨g4, q, none⟩ = false := by
  obtain ⟨_, ⟨c4, b4, s4⟩, _, _, _, _, _⟩ := h
  exact b4.free q
theorem Ar.free5 {W : World} {g4 L S a : Nat} {T : List PT} (h : Ar W g4 L S T a) (q : Nat) : W.frozen? ⟨g4 + 1, q, none⟩ = false := by
  obtain ⟨_, _, ⟨c5, b5, s5⟩, _, _, _, _⟩ := h
  exact b5.free q
theorem Ar.free6 {W : World} {g4 L S a : Nat} {T : List PT} (h : Ar W g4 L S T a) (q : Nat) : W.frozen? ⟨g4 + 2, q, none⟩ = false := by
  obtain ⟨_, _, _, ⟨c6, b6, s6⟩, _, _, _⟩ := h
  exact b6.free q
/-- The next node is filled. -/
theorem Ar.next {W : World} {g4 L S S' i : Nat} {T : List PT} {k n : Int} {ts : List PT} {v4 v5 : Value} (h : Ar W g4 L S T (i + 1)) (hS : S ≤ S') (hW : S' ≤ W.heap.size) (hc : Cu W g4 i k n v4 v5 (1 + szs ts)) (hT : T[i]? = some (.mk k n ts)) (h4 : RwI (g4 + 3) S' W v4 ts T) (h5 : Pi (g4 + 3) S' W (.mk k n ts) ⟨k, n, v5⟩) : Ar W g4 L S' T i := by
  have h' := h.more hS hW
  refine ⟨h'.z, h'.b4, h'.b5, h'.b6, fun q k' n' ts' hq ht => ?_, fun q t hq ht => ?_, fun q t hq ht => ?_⟩
  all_goals rcases Nat.lt_or_ge i q with hlt | hge
  · exact h'.r q k' n' ts' hlt ht
  · have hqi : q = i := by omega
    subst hqi
    rw [hT] at ht
    injection ht with ht
    injection ht with e1 e2 e3
    subst e1 e2 e3
    exact ⟨v4, hc.a0, hc.a1, hc.a2, h4⟩
  · exact h'.p q t hlt ht
  · have hqi : q = i := by omega
    subst hqi
    rw [hT] at ht
    injection ht with ht
    subst ht
    exact ⟨_, hc.p0, hc.p1, hc.p2, h5⟩
  · exact h'.s q t hlt ht
  · have hqi : q = i := by omega
    subst hqi
    rw [hT] at ht
    injection ht with ht
    subst ht
    rw [sz]
    exact hc.s
theorem InR.rw {S lo : Nat} {W : World} {v : Value} {l : List Nat} {ts T : List PT} (h : InR S W v l) (hlo : lo ≤ S) (hl : l.length = ts.length) (hm : ∀ (j q : Nat) (t : PT), l[j]? = some q → ts[j]? = some t → T[q]? = some t) : RwI lo W.heap.size W v ts T := by
  obtain ⟨A, c, e, hcc⟩ := row_shape h
  have hcm : c ≤ maxLen := by
    rcases id h.2 with ⟨hv, _⟩ | ⟨g, cap, cur, hv, _, _, _, hcm, _⟩
    · rw [hv] at e
      rw [← (Value.slice.inj e).2.2]
      exact Nat.zero_le _
    · rw [hv] at e
      rw [← (Value.slice.inj e).2.2]
      exact hcm
  refine ⟨A, c, by rw [e, hl], ⟨by omega, hcm⟩, fun j t hj => ?_⟩
  have hjl : j < l.length := by have := (List.getElem?_eq_some_iff.1 hj).1; omega
  obtain ⟨q, hq⟩ : ∃ q, l[j]? = some q := ⟨_, List.getElem?_eq_getElem hjl⟩
  rcases id h.2 with ⟨_, h0⟩ | ⟨g, cap, cur, hv, hB, hg, _⟩
  · omega
  · rw [hv] at e
    have ea := (Value.slice.inj e).1
    subst ea
    have hc := World.ownsRow.cells h (g := g) (by rw [hv]; rfl) j (.int .i64 (q : Int)) (by rw [List.getElem?_map, hq]; rfl)
    rw [at_add, Nat.zero_add] at hc
    exact ⟨g, q, rfl, Nat.le_trans hlo hB, (Array.getElem?_eq_some_iff.1 hg).1, hc, hm j q t hq hj⟩
theorem rpathZ : (Try.prog.info? 62).map (fun i => (i.zero, i.size, i.bytes)) = some (some (.agg #[.int .i64 0, .int .i64 0, .slice none 0 0]), 3, 40) := by kernel_rfl
theorem pathZ : (Try.prog.info? 28).map (fun i => (i.zero, i.size, i.bytes)) = some (some (.agg #[.int .i64 0, .int .i64 0, .slice none 0 0]), 3, 40) := by kernel_rfl
def z3 : Array Value := #[.int .i64 0, .int .i64 0, .slice none 0 0]
theorem mkR (w : World) (n : Nat) (hn : n ≤ 1000) : (Instr.makeSlice 25 (.int .i64 (n : Int)) (.int .i64 (n : Int))).run Try.prog w = .ok (.slice (some ⟨w.heap.size, 0, none⟩) n n) (w.alloc (.cells (madeCells z3 (n * 3)) 62)) := by
  obtain ⟨i0, hi0, hi1, hi2, hi3⟩ := info_parts rpathZ
  dsimp only at hi1 hi2 hi3
  have h := run_make (P := Try.prog) w 25 62 i0 (.agg #[.int .i64 0, .int .i64 0, .slice none 0 0]) Try.underlying25 hi0 hi1 .i64 .i64 (n : Int) (n : Int) (by omega) (Int.le_refl _) (by rw [hi3]; omega) (by omega)
  rw [hi2, show (Value.agg #[.int .i64 0, .int .i64 0, .slice none 0 0]).cells = z3 from rfl] at h
  simpa using h
theorem mkP (w : World) (n : Nat) (hn : n ≤ 1000) : (Instr.makeSlice 26 (.int .i64 (n : Int)) (.int .i64 (n : Int))).run Try.prog w = .ok (.slice (some ⟨w.heap.size, 0, none⟩) n n) (w.alloc (.cells (madeCells z3 (n * 3)) 28)) := by
  obtain ⟨i0, hi0, hi1, hi2, hi3⟩ := info_parts pathZ
  dsimp only at hi1 hi2 hi3
  have h := run_make (P := Try.prog) w 26 28 i0 (.agg #[.int .i64 0, .int .i64 0, .slice none 0 0]) Try.underlying26 hi0 hi1 .i64 .i64 (n : Int) (n : Int) (by omega) (Int.le_refl _) (by rw [hi3]; omega) (by omega)
  rw [hi2, show (Value.agg #[.int .i64 0, .int .i64 0, .slice none 0 0]).cells = z3 from rfl] at h
  simpa using h
theorem mkI (w : World) (n : Nat) (hn : n ≤ 1000) : (Instr.makeSlice 51 (.int .i64 (n : Int)) (.int .i64 (n : Int))).run Try.prog w = .ok (.slice (some ⟨w.heap.size, 0, none⟩) n n) (w.alloc (.cells (madeCells #[.int .i64 0] n) 3)) := by
  obtain ⟨i0, hi0, hi1, hi2, hi3⟩ := info_parts nfInt
  dsimp only at hi1 hi2 hi3
  have h := run_make (P := Try.prog) w 51 3 i0 (.int .i64 0) Try.underlying51 hi0 hi1 .i64 .i64 (n : Int) (n : Int) (by omega) (Int.le_refl _) (by rw [hi3]; omega) (by omega)
  rw [hi2, show (Value.int .i64 0).cells = #[.int .i64 0] from rfl] at h
  simpa using h
theorem made_size (z : Array Value) (n : Nat) : (madeCells z n).size = n := by simp [madeCells]
/-- The arrays as they are made. -/
theorem Ar.made (w : World) (L : Nat) (T : List PT) (hT : T.length = L) : Ar (((w.alloc (.cells (madeCells z3 (L * 3)) 62)).alloc (.cells (madeCells z3 (L * 3)) 28)).alloc (.cells (madeCells #[.int .i64 0] L) 3)) w.heap.size L (w.heap.size + 3) T L := by
  have no : ∀ {i : Nat} {t : PT}, L ≤ i → T[i]? = some t → False := fun {i t} h h' => by
    have := (List.getElem?_eq_some_iff.1 h').1
    omega
  refine ⟨⟨Nat.le_refl _, by simp⟩, ⟨_, ((Fb.new w 62 _).alloc _).alloc _, made_size _ _⟩, ⟨_, ?_, made_size z3 (L * 3)⟩, ⟨_, ?_, made_size #[.int .i64 0] L⟩, fun i k n ts h h' => (no h h').elim, fun i t h h' => (no h h').elim, fun i t h h' => (no h h').elim⟩
  · have := Fb.new (w.alloc (.cells (madeCells z3 (L * 3)) 62)) 28 (madeCells z3 (L * 3))
    rw [World.size_alloc] at this
    exact this.alloc _
  · have := Fb.new ((w.alloc (.cells (madeCells z3 (L * 3)) 62)).alloc (.cells (madeCells z3 (L * 3)) 28)) 3 (madeCells #[.int .i64 0] L)
    rw [World.size_alloc, World.size_alloc] at this
    exact this
end Go.Proofs.Ytghlajfalgdkfaa

/-
  Tree: its loops' relations, and how each step keeps them.
-/
namespace Go.Proofs.Ytghlajfalgdkfaa
open Go.RowKit
set_option linter.unusedVariables false
set_option linter.unusedSimpArgs false
set_option maxRecDepth 100000

def tops (ns : List Nd) : List Nd := if ns = [] then [⟨0, 0, []⟩] else ns
def ToR (wc : World) (g4 : Nat) (T : List PT) (L gk : Nat) (s7 : Value) (wr : World) : Prop := ∃ a : Nat, a = gk ∧ a ≤ L ∧ (a = 0 ∧ s7 = .int .i64 (-1) ∨ ∃ i : Nat, a = i + 1 ∧ s7 = .int .i64 (i : Int)) ∧ Ar wr g4 L wr.heap.size T a ∧ Below g4 wc wr
def TiR (w4 : World) (g4 S L i : Nat) (T : List PT) (k n : Int) (ds : List Int) (m gk : Nat) (s59 : Value) (w : World) : Prop := ∃ (j : Nat) (v4 v5 : Value) (pl : List PT) (ql : List Nat) (pas : List Pa), j + gk = m ∧ s59 = .int .i64 (j : Int) ∧ PkR (T.drop (i + 1)) ds j pl ∧ Ar w g4 L S T (i + 1) ∧ Cu w g4 i k n v4 v5 (1 + szs pl) ∧ InR S w v4 ql ∧ (ql.length = pl.length ∧ ∀ (j q : Nat) (t : PT), ql[j]? = some q → pl[j]? = some t → T[q]? = some t) ∧ PpR S w v5 pas ∧ Pis (g4 + 3) S w pl pas ∧ Below g4 w4 w
theorem Pis.on {lo hi hi' : Nat} {W W' : World} {ts : List PT} {ps : List Pa} (h : Pis lo hi W ts ps) (hb : ∀ g, lo ≤ g → g < hi → W'.heap[g]? = W.heap[g]?) (hh : hi ≤ hi') : Pis lo hi' W' ts ps := by
  obtain ⟨e, h1⟩ := Pis.of h
  exact Pis.mk e fun j t p hj hp => (h1 j t p hj hp).on hb hh
theorem Pis.snoc {lo hi : Nat} {W : World} {ts : List PT} {ps : List Pa} {t : PT} {p : Pa} (h : Pis lo hi W ts ps) (hp : Pi lo hi W t p) : Pis lo hi W (ts ++ [t]) (ps ++ [p]) := by
  obtain ⟨e, h1⟩ := Pis.of h
  refine Pis.mk (by simp [e]) fun j t' p' hj hp' => ?_
  rcases Nat.lt_or_ge j ts.length with h | h
  · rw [List.getElem?_append_left h] at hj
    rw [List.getElem?_append_left (by omega)] at hp'
    exact h1 j t' p' hj hp'
  · rw [List.getElem?_append_right h] at hj
    rw [List.getElem?_append_right (by omega)] at hp'
    have hj0 : j - ts.length = 0 := by
      have := (List.getElem?_eq_some_iff.1 hj).1
      simp at this; omega
    rw [hj0] at hj
    rw [show j - ps.length = 0 by omega] at hp'
    simp at hj hp'
    subst hj hp'
    exact hp
theorem tr_end {wc w : World} {g4 L S i : Nat} {T : List PT} {ns : List Nd} {d : Nd} {v4 v5 : Value} {pl : List PT} {ql : List Nat} {pas : List Pa} (hd : ns[i]? = some d) (hT : T = trees ns) (hi : i < L) (hA : Ar w g4 L S T (i + 1)) (hc : Cu w g4 i d.k d.n v4 v5 (1 + szs pl)) (h4 : InR S w v4 ql) (hq : ql.length = pl.length ∧ ∀ (j q : Nat) (t : PT), ql[j]? = some q → pl[j]? = some t → T[q]? = some t) (h5 : PpR S w v5 pas) (hp : Pis (g4 + 3) S w pl pas) (hb : Below g4 wc w) (hpk : pick (T.drop (i + 1)) d.ds 0 1 = pl) : ToR wc g4 T L i (.int .i64 ((i : Int) - 1)) w := by
  have hTi : T[i]? = some (.mk d.k d.n pl) := by
    rw [← hpk, hT]
    exact trees_at hd
  have hz := hA.z
  refine ⟨i, rfl, Nat.le_of_lt hi, ?_, hA.next hz.2 (Nat.le_refl _) hc hTi (InR.rw h4 hz.1 hq.1 hq.2) ?_, hb⟩
  · cases i with
    | zero => exact .inl ⟨rfl, rfl⟩
    | succ i => exact .inr ⟨i, rfl, by congr 1; omega⟩
  · unfold Pi
    exact ⟨rfl, rfl, pas, (PpR.pi h5).keep hz.1 (Nat.le_refl _) (fun _ _ _ _ h => h), hp.on (fun _ _ _ => rfl) hz.2⟩
structure Mid (w4 : World) (g4 S L i N cap gA : Nat) (T : List PT) (k n : Int) (s : Nat) (v4 v5 : Value) (ql : List Nat) (pl : List PT) (pas : List Pa) (t : PT) (p : Pa) (xs : List Value) (w : World) : Prop where
  a : Ar w g4 L S T (i + 1)
  c : Cu w g4 i k n v4 v5 s
  r : InR S w v4 ql
  o : w.ownsRow S 28 3 (.slice (some ⟨gA, 0, none⟩) N cap) N xs
  q : Pis (g4 + 3) S w pl pas
  p : Pi (g4 + 3) S w t p
  b : Below g4 w4 w
section
variable {w4 w : World} {g4 S L i N cap gA : Nat} {T : List PT} {k n : Int} {s : Nat} {v4 v5 : Value} {ql : List Nat} {pl : List PT} {pas : List Pa} {t : PT} {p : Pa} {xs : List Value}
theorem Mid.cell (h : Mid w4 g4 S L i N cap gA T k n s v4 v5 ql pl pas t p xs w) (q : Nat) (u : Value) : Mid w4 g4 S L i N cap gA T k n s v4 v5 ql pl pas t p (xs.set q u) (w.setCell ⟨gA, q, none⟩ u) := by
  have hg := World.ownsRow.lt h.o gA rfl
  have hb : Below S w (w.setCell ⟨gA, q, none⟩ u) := (Below.refl _ _).setCell (show S ≤ (⟨gA, q, none⟩ : Addr).block from hg.1) _
  have hk : ∀ g, g4 + 3 ≤ g → g < S → (w.setCell ⟨gA, q, none⟩ u).heap[g]? = w.heap[g]? := fun g _ h => hb.block g h
  have hz := h.a.z.1
  refine ⟨h.a.on hb, h.c.on hb hz, ?_, (h.o.stored q u).1, h.q.on hk (Nat.le_refl _), h.p.on hk (Nat.le_refl _), h.b.trans (hb.mono (by omega))⟩
  exact row_keep h.r fun b hb' => by
    obtain ⟨cs, hc⟩ := row_type h.r hb'
    obtain ⟨cs', hc'⟩ := row_type h.o (k := gA) rfl
    exact Below.heap_setCell _ _ _ _ (hc.nt hc' (by decide))
theorem Mid.real (h : Mid w4 g4 S L i N cap gA T k n s v4 v5 ql pl pas t p xs w) (hi : i < L) (v : Value) : Mid w4 g4 S L i N cap gA T k n s v4 v ql pl pas t p xs (w.setCell ⟨g4 + 1, i * 3 + 2, none⟩ v) := by
  have hz := h.a.z
  have hk : ∀ g, g4 + 3 ≤ g → (w.setCell ⟨g4 + 1, i * 3 + 2, none⟩ v).heap[g]? = w.heap[g]? := fun g hg => Below.heap_setCell _ _ _ _ (show g ≠ g4 + 1 by omega)
  refine ⟨h.a.set v (.inr (.inl ⟨rfl, by omega⟩)), h.c.reals h.a hi v, ?_, ?_, h.q.on (fun g hg _ => hk g hg) (Nat.le_refl _), h.p.on (fun g hg _ => hk g hg) (Nat.le_refl _), h.b.setCell (show g4 ≤ (⟨g4 + 1, i * 3 + 2, none⟩ : Addr).block from Nat.le_succ _) _⟩
  · exact row_keep h.r fun b hb' => hk b (by have := (row_lt h.r b hb').1; omega)
  · exact row_keep h.o fun b hb' => hk b (by have := (row_lt h.o b hb').1; omega)
theorem last3 (l : List Pa) (z p : Pa) : (((((l ++ [z]).flatMap pac).set (l.length * 3) (.int .i64 p.kd)).set (l.length * 3 + 1) (.int .i64 p.n)).set (l.length * 3 + 2) p.s) = (l ++ [p]).flatMap pac := by
  have hl : (l.flatMap pac).length = l.length * 3 := by
    induction l with
    | nil => rfl
    | cons x l ih => rw [List.flatMap_cons, List.length_append, ih, pac_len, List.length_cons]; omega
  rw [List.flatMap_append, List.flatMap_append]
  rw [List.set_append_right _ _ (by omega), List.set_append_right _ _ (by omega), List.set_append_right _ _ (by omega), hl]
  rw [Nat.sub_self, show l.length * 3 + 1 - l.length * 3 = 1 by omega, show l.length * 3 + 2 - l.length * 3 = 2 by omega]
  rfl
/-- A part is taken: both orders of the last stores. -/
theorem ti_go {ds : List Int} {m j : Nat} {x : Int} {K : Nat} {z : Pa} (hi : i < L) (h : Mid w4 g4 S L i (j + 1) cap gA T k n (1 + szs pl + sz t) v4 v5 (ql ++ [K]) pl pas t p ((pas ++ [z]).flatMap pac) w) (hj : j < m) (hPk : PkR (T.drop (i + 1)) ds j pl) (hx : ds[j]? = some x) (h3 : j ≠ 3) (ht : (T.drop (i + 1))[(x % 8).toNat]? = some t) (hs : 1 + szs pl + sz t ≤ 300) (hq : ql.length = pl.length ∧ ∀ (j q : Nat) (t : PT), ql[j]? = some q → pl[j]? = some t → T[q]? = some t) (hK : T[K]? = some t) :
    TiR w4 g4 S L i T k n ds m (m - (j + 1)) (.int .i64 ((j : Int) + 1)) ((((w.setCell ⟨gA, j * 3, none⟩ (.int .i64 p.kd)).setCell ⟨gA, j * 3 + 1, none⟩ (.int .i64 p.n)).setCell ⟨gA, j * 3 + 2, none⟩ p.s).setCell ⟨g4 + 1, i * 3 + 2, none⟩ (.slice (some ⟨gA, 0, none⟩) (j + 1) cap))
    ∧ TiR w4 g4 S L i T k n ds m (m - (j + 1)) (.int .i64 ((j : Int) + 1)) ((((w.setCell ⟨g4 + 1, i * 3 + 2, none⟩ (.slice (some ⟨gA, 0, none⟩) (j + 1) cap)).setCell ⟨gA, j * 3, none⟩ (.int .i64 p.kd)).setCell ⟨gA, j * 3 + 1, none⟩ (.int .i64 p.n)).setCell ⟨gA, j * 3 + 2, none⟩ p.s) := by
  have hpl : pas.length = j := by
    obtain ⟨e, _⟩ := Pis.of h.q
    rw [← e, hPk.l]
  have key : ∀ w' xs', xs' = ((((pas ++ [z]).flatMap pac).set (j * 3) (.int .i64 p.kd)).set (j * 3 + 1) (.int .i64 p.n)).set (j * 3 + 2) p.s → Mid w4 g4 S L i (j + 1) cap gA T k n (1 + szs pl + sz t) v4 (.slice (some ⟨gA, 0, none⟩) (j + 1) cap) (ql ++ [K]) pl pas t p xs' w' → TiR w4 g4 S L i T k n ds m (m - (j + 1)) (.int .i64 ((j : Int) + 1)) w' := fun w' xs' hxs h' => by
    subst hxs
    refine ⟨j + 1, v4, .slice (some ⟨gA, 0, none⟩) (j + 1) cap, pl ++ [t], ql ++ [K], pas ++ [p], by omega, by rw [Int.natCast_add]; rfl, hPk.go hx h3 ht hs, h'.a, ?_, h'.r, ⟨by simp [hq.1], fun a q t' h1 h2 => ?_⟩, ?_, h'.q.snoc h'.p, h'.b⟩
    · have := h'.c
      rw [szs_snoc, ← Nat.add_assoc]
      exact this
    · rcases Nat.lt_or_ge a ql.length with hlt | hge
      · rw [List.getElem?_append_left hlt] at h1
        rw [List.getElem?_append_left (by have := hq.1; omega)] at h2
        exact hq.2 a q t' h1 h2
      · rw [List.getElem?_append_right hge] at h1
        rw [List.getElem?_append_right (by have := hq.1; omega)] at h2
        have h0 : a - ql.length = 0 := by
          have := (List.getElem?_eq_some_iff.1 h1).1
          simp at this; omega
        rw [h0] at h1
        rw [show a - pl.length = 0 by have := hq.1; omega] at h2
        simp at h1 h2
        subst h1 h2
        exact hK
    · have ho := h'.o
      subst hpl
      rw [last3] at ho
      unfold PpR
      rw [List.length_append]
      exact ho
  exact ⟨key _ _ rfl ((((h.cell _ _).cell _ _).cell _ _).real hi _), key _ _ rfl ((((h.real hi _).cell _ _).cell _ _).cell _ _)⟩
end
theorem TiR.drewN {w4 w : World} {g4 S L i m gk : Nat} {T : List PT} {k n : Int} {ds : List Int} {s59 : Value} (h : TiR w4 g4 S L i T k n ds m gk s59 w) (q : Nat) : TiR w4 g4 S L i T k n ds m gk s59 (w.drewN q) := by
  obtain ⟨j, v4, v5, pl, ql, pas, h1, h2, h3, h4, h5, h6, h7, h8, h9, h10⟩ := h
  have hb : ∀ B, Below B w (w.drewN q) := fun B => ⟨rfl, rfl, rfl, Nat.le_refl _, fun _ _ => rfl⟩
  exact ⟨j, v4, v5, pl, ql, pas, h1, h2, h3, h4.on (hb _), h5.on (hb S) h4.z.1, h6, h7, h8, h9.on (fun _ _ _ => rfl) (Nat.le_refl _), h10.trans (hb _)⟩
theorem step_app_p {ops : Array Oper} {o : Oper} {a : Act} {K : Act → World → Prop} {Q : Exit → Act → World → Prop} {E : Prop} {w w0 : World} (hgd : o.guard = none) (s x : Operand)
    (ho : o.op = .call { callee := .builtin .append, args := #[s, x], argTypes := #[26, 26] }) {S n g0 : Nat} {v : Value} {L : List Pa} (hn : L.length = n) (hs : a.eval s = v) (hx : a.eval x = .slice (some ⟨g0, 0, none⟩) 1 1) (hL : PpR S w0 v L) (hb : Below w0.heap.size w0 w) (hd : w.cell? ⟨g0, 0, none⟩ = some (.int .i64 0) ∧ w.cell? ⟨g0, 1, none⟩ = some (.int .i64 0) ∧ w.cell? ⟨g0, 2, none⟩ = some (.slice none 0 0)) (hB : S ≤ w0.heap.size) (h1 : L.length ≤ 1000)
    (h : ∀ gA cap w', PpR S w' (.slice (some ⟨gA, 0, none⟩) (n + 1) cap) (L ++ [⟨0, 0, .slice none 0 0⟩]) → Below S w0 w' → (∀ v2 q, InR S w0 v2 q → InR S w' v2 q) → K (a.put o.dst (.slice (some ⟨gA, 0, none⟩) (n + 1) cap)) w') : if Region.wanted o (yielded ops a.tmps) = true then Oper.wp Try.prog o a w K Q else E := by
  obtain ⟨iT, hT0, hT1, hT2, hT3⟩ := info_parts pathZ
  dsimp only at hT1 hT2 hT3
  have hLw : PpR S w v L := row_below hL hb
  refine step_append_lies w hgd s x 26 ho S 28 iT (.agg #[.int .i64 0, .int .i64 0, .slice none 0 0]) 3 40 Try.underlying26 hT0 hT1 hT2 hT3 rfl (by decide) v L.length _ hs hLw ⟨g0, 0, none⟩ 1 1 [.int .i64 0, .int .i64 0, .slice none 0 0] hx rfl (fun j u hj => ?_) (fun u hu => by
    simp at hu
    rcases hu with rfl | rfl <;> rfl) (by decide) (by unfold maxLen; omega) (by omega) (Nat.le_trans hB hb.size) _ rfl ?_
  · rw [at_add, Nat.zero_add]
    match j, hj with
    | 0, hj => simp at hj; subst hj; exact hd.1
    | 1, hj => simp at hj; subst hj; exact hd.2.1
    | 2, hj => simp at hj; subst hj; exact hd.2.2
    | j + 3, hj => simp at hj
  · intro g cap w' h3 h4 h5 h6
    rw [hn]
    refine h _ _ _ ?_ ((hb.mono hB).grown h4 (Nat.le_trans hB hb.size) (fun q hq => (row_lt hLw q hq).1)) fun v2 q hr => row_neT hLw h4 (row_below hr hb : InR S w v2 q) (by decide)
    unfold PpR
    rw [List.length_append, List.flatMap_append]
    rw [hn] at h3 ⊢
    exact h3
theorem Ar.up {W W' : World} {g4 L S a : Nat} {T : List PT} (h : Ar W g4 L S T a) (hs : W.heap.size ≤ W'.heap.size) (hb : ∀ g, g4 ≤ g → W'.heap[g]? = W.heap[g]?) : Ar W' g4 L S T a := by
  obtain ⟨⟨z1, z2⟩, ⟨c4, b4, s4⟩, ⟨c5, b5, s5⟩, ⟨c6, b6, s6⟩, hr, hp, hsz⟩ := h
  have hk : ∀ g, g4 + 3 ≤ g → g < S → W'.heap[g]? = W.heap[g]? := fun g h _ => hb g (by omega)
  have hc : ∀ (g q : Nat) (u : Value), g4 ≤ g → W.cell? ⟨g, q, none⟩ = some u → W'.cell? ⟨g, q, none⟩ = some u := fun g q u hg hu => (World.cell?_of_block (hb g hg)).trans hu
  refine ⟨⟨z1, Nat.le_trans z2 hs⟩, ⟨c4, (hb _ (by omega)).trans b4, s4⟩, ⟨c5, (hb _ (by omega)).trans b5, s5⟩, ⟨c6, (hb _ (by omega)).trans b6, s6⟩, fun i k n ts hi ht => ?_, fun i t hi ht => ?_, fun i t hi ht => hc _ _ _ (by omega) (hsz i t hi ht)⟩
  · obtain ⟨v, x1, x2, x3, x4⟩ := hr i k n ts hi ht
    exact ⟨v, hc _ _ _ (by omega) x1, hc _ _ _ (by omega) x2, hc _ _ _ (by omega) x3, x4.on hk (Nat.le_refl _)⟩
  · obtain ⟨p, x1, x2, x3, x4⟩ := hp i t hi ht
    exact ⟨p, hc _ _ _ (by omega) x1, hc _ _ _ (by omega) x2, hc _ _ _ (by omega) x3, x4.on hk (Nat.le_refl _)⟩
theorem Ar.rf {W : World} {g4 L S : Nat} {T : List PT} (h : Ar W g4 L S T 0) (hT : T.length = L) : Rf W g4 L T := ⟨hT, fun i k n ts hi => by
  obtain ⟨v, x1, x2, x3, A, c, e, _, x4⟩ := h.r i k n ts (Nat.zero_le _) hi
  subst e
  exact ⟨A, c, x1, x2, x3, fun j t hj => by
    obtain ⟨g, q, h1, _, _, h2, h3⟩ := x4 j t hj
    exact ⟨g, q, h1, h2, h3⟩⟩⟩
theorem Ar.rfc {W : World} {g4 L S : Nat} {T : List PT} (h : Ar W g4 L S T 0) : RfC W g4 T := fun i k n ts hi => by
  obtain ⟨v, _, _, x3, A, c, e, x4, _⟩ := h.r i k n ts (Nat.zero_le _) hi
  subst e
  exact ⟨A, c, x3, x4⟩
theorem ToR.drew {wc wr : World} {g4 L gk : Nat} {T : List PT} {s7 : Value} (h : ToR wc g4 T L gk s7 wr) : ToR wc g4 T L gk s7 wr.drew := by
  obtain ⟨a, h1, h2, h3, h4, h5⟩ := h
  exact ⟨a, h1, h2, h3, h4.up (Nat.le_refl _) (fun _ _ => rfl), h5.drew⟩
theorem ToR.drewN {wc wr : World} {g4 L gk : Nat} {T : List PT} {s7 : Value} (h : ToR wc g4 T L gk s7 wr) (q : Nat) : ToR wc g4 T L gk s7 (wr.drewN q) := by
  obtain ⟨a, h1, h2, h3, h4, h5⟩ := h
  exact ⟨a, h1, h2, h3, h4.up (Nat.le_refl _) (fun _ _ => rfl), ⟨h5.os, h5.tape, h5.output, h5.size, h5.block⟩⟩
/-- What stands while a part is taken. -/
structure Tg (w4 : World) (g4 S L i j : Nat) (T : List PT) (k n : Int) (s : Nat) (v4 v5 : Value) (ql : List Nat) (pl : List PT) (pas : List Pa) (w : World) : Prop where
  a : Ar w g4 L S T (i + 1)
  c : Cu w g4 i k n v4 v5 s
  r : InR S w v4 ql
  o : PpR S w v5 pas
  q : Pis (g4 + 3) S w pl pas
  b : Below g4 w4 w
theorem Tg.on {w4 w w' : World} {g4 S L i j s : Nat} {T : List PT} {k n : Int} {v4 v5 : Value} {ql : List Nat} {pl : List PT} {pas : List Pa} (h : Tg w4 g4 S L i j T k n s v4 v5 ql pl pas w) (hb : Below w.heap.size w w') : Tg w4 g4 S L i j T k n s v4 v5 ql pl pas w' := by
  have hz := h.a.z
  have hbS := hb.mono hz.2
  have hk : ∀ g, g4 + 3 ≤ g → g < S → w'.heap[g]? = w.heap[g]? := fun g _ h => hbS.block g h
  exact ⟨h.a.on hbS, h.c.on hbS hz.1, row_below h.r hb, row_below h.o hb, h.q.on hk (Nat.le_refl _), h.b.trans (hb.mono (by omega))⟩
theorem Tg.size {w4 w : World} {g4 S L i j s : Nat} {T : List PT} {k n : Int} {v4 v5 : Value} {ql : List Nat} {pl : List PT} {pas : List Pa} (h : Tg w4 g4 S L i j T k n s v4 v5 ql pl pas w) (hi : i < L) (s' : Nat) : Tg w4 g4 S L i j T k n s' v4 v5 ql pl pas (w.setCell ⟨g4 + 2, i, none⟩ (.int .i64 (s' : Int))) := by
  have hz := h.a.z
  have hk : ∀ g, g4 + 3 ≤ g → (w.setCell ⟨g4 + 2, i, none⟩ (.int .i64 (s' : Int))).heap[g]? = w.heap[g]? := fun g hg => Below.heap_setCell _ _ _ _ (show g ≠ g4 + 2 by omega)
  exact ⟨h.a.set _ (.inr (.inr ⟨rfl, by omega⟩)), h.c.size h.a hi s', row_keep h.r fun b hb => hk b (by have := (row_lt h.r b hb).1; omega), row_keep h.o fun b hb => hk b (by have := (row_lt h.o b hb).1; omega), h.q.on (fun g hg _ => hk g hg) (Nat.le_refl _), h.b.setCell (show g4 ≤ (⟨g4 + 2, i, none⟩ : Addr).block from by dsimp only; omega) _⟩
theorem Tg.refs {w4 w : World} {g4 S L i j s : Nat} {T : List PT} {k n : Int} {v4 v5 : Value} {pl : List PT} {pas : List Pa} (h : Ar w g4 L S T (i + 1) ∧ Cu w g4 i k n v4 v5 s ∧ PpR S w v5 pas ∧ Pis (g4 + 3) S w pl pas ∧ Below g4 w4 w) (hi : i < L) {v' : Value} {ql' : List Nat} (hr : InR S w v' ql') : Tg w4 g4 S L i j T k n s v' v5 ql' pl pas (w.setCell ⟨g4, i * 3 + 2, none⟩ v') := by
  obtain ⟨hA, hc, ho, hp, hb⟩ := h
  have hz := hA.z
  have hk : ∀ g, g4 + 3 ≤ g → (w.setCell ⟨g4, i * 3 + 2, none⟩ v').heap[g]? = w.heap[g]? := fun g hg => Below.heap_setCell _ _ _ _ (show g ≠ g4 by omega)
  exact ⟨hA.set _ (.inl ⟨rfl, by omega⟩), hc.refs hA hi v', row_keep hr fun b hb => hk b (by have := (row_lt hr b hb).1; omega), row_keep ho fun b hb => hk b (by have := (row_lt ho b hb).1; omega), hp.on (fun g hg _ => hk g hg) (Nat.le_refl _), hb.setCell (show g4 ≤ (⟨g4, i * 3 + 2, none⟩ : Addr).block from Nat.le_refl _) _⟩
/-- The facts behind the second append. -/
theorem Tg.second {w4 w w8 : World} {g4 S L i j s gA cap : Nat} {T : List PT} {k n : Int} {v4 v5 : Value} {ql : List Nat} {pl : List PT} {pas : List Pa} {t : PT} {p : Pa} {K : Nat} (h : Tg w4 g4 S L i j T k n s v4 v5 ql pl pas w) (hl : pas.length = j) (hr : PpR S w8 (.slice (some ⟨gA, 0, none⟩) (j + 1) cap) (pas ++ [⟨0, 0, .slice none 0 0⟩])) (hb : Below S w w8) (hk : ∀ v2 q, InR S w v2 q → InR S w8 v2 q) (hp : Pi (g4 + 3) S w t p)
    (h0 : w.cell? ⟨g4 + 1, K * 3, none⟩ = some (.int .i64 p.kd)) (h1 : w.cell? ⟨g4 + 1, K * 3 + 1, none⟩ = some (.int .i64 p.n)) (h2 : w.cell? ⟨g4 + 1, K * 3 + 2, none⟩ = some p.s) :
    (w8.cell? ⟨g4 + 1, K * 3, none⟩ = some (.int .i64 p.kd) ∧ w8.cell? ⟨g4 + 1, K * 3 + 1, none⟩ = some (.int .i64 p.n) ∧ w8.cell? ⟨g4 + 1, K * 3 + 2, none⟩ = some p.s)
    ∧ (w8.cell? ⟨gA, j * 3, none⟩ = some (.int .i64 0) ∧ w8.cell? ⟨gA, j * 3 + 1, none⟩ = some (.int .i64 0) ∧ w8.cell? ⟨gA, j * 3 + 2, none⟩ = some (.slice none 0 0))
    ∧ (w8.frozen? ⟨gA, j * 3, none⟩ = false ∧ w8.frozen? ⟨gA, j * 3 + 1, none⟩ = false ∧ w8.frozen? ⟨gA, j * 3 + 2, none⟩ = false)
    ∧ (w8.frozen? ⟨g4 + 1, i * 3 + 2, none⟩ = false ∧ w8.cell? ⟨g4 + 1, i * 3 + 2, none⟩ = some v5)
    ∧ (¬ gA = g4 + 1 ∧ ¬ g4 + 1 = gA)
    ∧ Mid w4 g4 S L i (j + 1) cap gA T k n s v4 v5 ql pl pas t p ((pas ++ [(⟨0, 0, .slice none 0 0⟩ : Pa)]).flatMap pac) w8 := by
  have hz := h.a.z
  have hkk : ∀ g, g4 + 3 ≤ g → g < S → w8.heap[g]? = w.heap[g]? := fun g _ h => hb.block g h
  have hc : ∀ (g q : Nat) (u : Value), g < S → w.cell? ⟨g, q, none⟩ = some u → w8.cell? ⟨g, q, none⟩ = some u := fun g q u hg hu => (World.cell?_of_block (hb.block g hg)).trans hu
  have hA := h.a.on hb
  have ho : w8.ownsRow S 28 3 (.slice (some ⟨gA, 0, none⟩) (j + 1) cap) (j + 1) ((pas ++ [(⟨0, 0, .slice none 0 0⟩ : Pa)]).flatMap pac) := by
    have := hr
    unfold PpR at this
    rw [List.length_append, hl] at this
    exact this
  have hg := World.ownsRow.lt ho gA rfl
  have hat : ∀ (q : Nat) (u : Value), q < 3 → (pac (⟨0, 0, .slice none 0 0⟩ : Pa))[q]? = some u → w8.cell? ⟨gA, j * 3 + q, none⟩ = some u := fun q u hq hu => by
    rw [ho.cellAt _ (by omega)]
    exact (flat_atN (L := pas ++ [(⟨0, 0, .slice none 0 0⟩ : Pa)]) (j := j) (x := (⟨0, 0, .slice none 0 0⟩ : Pa)) (by rw [List.getElem?_append_right (by omega), hl]; simp) hq).trans hu
  refine ⟨⟨hc _ _ _ (by omega) h0, hc _ _ _ (by omega) h1, hc _ _ _ (by omega) h2⟩, ⟨hat 0 _ (by decide) rfl, hat 1 _ (by decide) rfl, hat 2 _ (by decide) rfl⟩, ⟨ho.frozenAt _, ho.frozenAt _, ho.frozenAt _⟩, ⟨hA.free5 _, hc _ _ _ (by omega) h.c.p2⟩, ⟨by omega, by omega⟩, hA, h.c.on hb hz.1, hk _ _ h.r, ho, h.q.on hkk (Nat.le_refl _), hp.on hkk (Nat.le_refl _), h.b.trans (hb.mono (by omega))⟩
/-- append to the references' row. -/
theorem Tg.grown {w4 w w' : World} {g4 S L i j s : Nat} {T : List PT} {k n : Int} {v4 v5 : Value} {ql : List Nat} {pl : List PT} {pas : List Pa} (h : Tg w4 g4 S L i j T k n s v4 v5 ql pl pas w) (hg : w.grownBy w' v4.ownBlock) : Ar w' g4 L S T (i + 1) ∧ Cu w' g4 i k n v4 v5 s ∧ PpR S w' v5 pas ∧ Pis (g4 + 3) S w' pl pas ∧ Below g4 w4 w' := by
  have hz := h.a.z
  have hb : Below S w w' := (Below.refl _ _).grown hg hz.2 fun q hq => (row_lt h.r q hq).1
  have hk : ∀ g, g4 + 3 ≤ g → g < S → w'.heap[g]? = w.heap[g]? := fun g _ h => hb.block g h
  exact ⟨h.a.on hb, h.c.on hb hz.1, row_neT h.r hg h.o (by decide), h.q.on hk (Nat.le_refl _), h.b.trans (hb.mono (by omega))⟩
/-- The node as it is begun. -/
theorem cu_new {W1 : World} {g4 L S i : Nat} {T : List PT} (h : Ar W1 g4 L S T (i + 1)) (hi : i < L) (k n : Int) (W4 : World) (hW : W4 = (((((((W1.setCell ⟨g4 + 2, i, none⟩ (.int .i64 1)).setCell ⟨g4, i * 3, none⟩ (.int .i64 k)).setCell ⟨g4, i * 3 + 1, none⟩ (.int .i64 n)).setCell ⟨g4, i * 3 + 2, none⟩ (.slice none 0 0)).setCell ⟨g4 + 1, i * 3, none⟩ (.int .i64 k)).setCell ⟨g4 + 1, i * 3 + 1, none⟩ (.int .i64 n)).setCell ⟨g4 + 1, i * 3 + 2, none⟩ (.slice none 0 0))) :
    Ar W4 g4 L S T (i + 1) ∧ Cu W4 g4 i k n (.slice none 0 0) (.slice none 0 0) 1 ∧ W4.heap.size = W1.heap.size ∧ Below g4 W1 W4 := by
  have a1 := h.set (.int .i64 1) (.inr (.inr ⟨rfl, Nat.lt_succ_self i⟩))
  have a2 := a1.set (q := i * 3) (.int .i64 k) (.inl ⟨rfl, by omega⟩)
  have a3 := a2.set (q := i * 3 + 1) (.int .i64 n) (.inl ⟨rfl, by omega⟩)
  have a4 := a3.set (q := i * 3 + 2) (.slice none 0 0) (.inl ⟨rfl, by omega⟩)
  have a5 := a4.set (q := i * 3) (.int .i64 k) (.inr (.inl ⟨rfl, by omega⟩))
  have a6 := a5.set (q := i * 3 + 1) (.int .i64 n) (.inr (.inl ⟨rfl, by omega⟩))
  have a7 := a6.set (q := i * 3 + 2) (.slice none 0 0) (.inr (.inl ⟨rfl, by omega⟩))
  have nx : ∀ {W : World} {b q b' q' : Nat} {u v : Value}, Ar W g4 L S T (i + 1) → (b = g4 ∨ b = g4 + 1 ∨ b = g4 + 2) → (b ≠ b' ∨ q ≠ q') → W.cell? ⟨b, q, none⟩ = some v → (W.setCell ⟨b', q', none⟩ u).cell? ⟨b, q, none⟩ = some v := fun {W b q b' q' u v} hA hb hne hv => by
    obtain ⟨_, ⟨c4, b4, s4⟩, ⟨c5, b5, s5⟩, ⟨c6, b6, s6⟩, _, _, _⟩ := hA
    rcases hb with rfl | rfl | rfl
    · exact (cell_set_ne b4 u hne).trans hv
    · exact (cell_set_ne b5 u hne).trans hv
    · exact (cell_set_ne b6 u hne).trans hv
  have eq4 : ∀ {W : World} {q : Nat} (u : Value), Ar W g4 L S T (i + 1) → q < L * 3 → (W.setCell ⟨g4, q, none⟩ u).cell? ⟨g4, q, none⟩ = some u := fun {W q} u hA hq => by
    obtain ⟨_, ⟨c4, b4, s4⟩, _, _, _, _, _⟩ := hA
    exact cell_set_eq b4 u (by omega)
  have eq5 : ∀ {W : World} {q : Nat} (u : Value), Ar W g4 L S T (i + 1) → q < L * 3 → (W.setCell ⟨g4 + 1, q, none⟩ u).cell? ⟨g4 + 1, q, none⟩ = some u := fun {W q} u hA hq => by
    obtain ⟨_, _, ⟨c5, b5, s5⟩, _, _, _, _⟩ := hA
    exact cell_set_eq b5 u (by omega)
  have eq6 : ∀ {W : World} {q : Nat} (u : Value), Ar W g4 L S T (i + 1) → q < L → (W.setCell ⟨g4 + 2, q, none⟩ u).cell? ⟨g4 + 2, q, none⟩ = some u := fun {W q} u hA hq => by
    obtain ⟨_, _, _, ⟨c6, b6, s6⟩, _, _, _⟩ := hA
    exact cell_set_eq b6 u (by omega)
  subst hW
  have s6 := nx a6 (.inr (.inr rfl)) (by omega) (nx a5 (.inr (.inr rfl)) (by omega) (nx a4 (.inr (.inr rfl)) (by omega) (nx a3 (.inr (.inr rfl)) (by omega) (nx a2 (.inr (.inr rfl)) (by omega) (nx a1 (.inr (.inr rfl)) (by omega) (eq6 (.int .i64 1) h hi))))))
    (u := .slice none 0 0) (b' := g4 + 1) (q' := i * 3 + 2)
  refine ⟨a7, ⟨?_, ?_, ?_, ?_, ?_, ?_, s6⟩, by simp, ?_⟩
  · exact nx a6 (.inl rfl) (by omega) (nx a5 (.inl rfl) (by omega) (nx a4 (.inl rfl) (by omega) (nx a3 (.inl rfl) (by omega) (nx a2 (.inl rfl) (by omega) (eq4 _ a1 (by omega))))))
  · exact nx a6 (.inl rfl) (by omega) (nx a5 (.inl rfl) (by omega) (nx a4 (.inl rfl) (by omega) (nx a3 (.inl rfl) (by omega) (eq4 _ a2 (by omega)))))
  · exact nx a6 (.inl rfl) (by omega) (nx a5 (.inl rfl) (by omega) (nx a4 (.inl rfl) (by omega) (eq4 _ a3 (by omega))))
  · exact nx a6 (.inr (.inl rfl)) (by omega) (nx a5 (.inr (.inl rfl)) (by omega) (eq5 _ a4 (by omega)))
  · exact nx a6 (.inr (.inl rfl)) (by omega) (eq5 _ a5 (by omega))
  · exact eq5 _ a6 (by omega)
  · exact (((((((Below.refl g4 W1).setCell (show g4 ≤ (⟨g4 + 2, i, none⟩ : Addr).block from by dsimp only; omega) _).setCell (Nat.le_refl g4) _).setCell (Nat.le_refl g4) _).setCell (Nat.le_refl g4) _).setCell (show g4 ≤ (⟨g4 + 1, i * 3, none⟩ : Addr).block from Nat.le_succ _) _).setCell (show g4 ≤ (⟨g4 + 1, i * 3 + 1, none⟩ : Addr).block from Nat.le_succ _) _).setCell (show g4 ≤ (⟨g4 + 1, i * 3 + 2, none⟩ : Addr).block from Nat.le_succ _) _
end Go.Proofs.Ytghlajfalgdkfaa
