/-
  THE DOCUMENT's STORE: a list of keys in a row; Find.
-/
import Derived.Test.YtoiigplflmejmaaSAgE
import Derived.Deep.RegionHeld3
import Derived.IntWalk
namespace Go.Proofs.Ytoiigplflmejmaa
open Go.RowKit
set_option linter.unusedVariables false
set_option linter.unusedSimpArgs false
set_option maxRecDepth 100000

/-- The document's keys in a row. -/
def KtD (B : Nat) (W : World) (v : Value) (l : List Kt) : Prop := W.ownsRow B 31 3 v l.length (l.flatMap ktc)
theorem ktD_nil (B : Nat) (W : World) : KtD B W (.slice none 0 0) [] := World.ownsRow_nil _ _ _ _
theorem KtD.below {B : Nat} {W W' : World} {v : Value} {L : List Kt} (h : KtD B W v L) (hb : Below W.heap.size W W') : KtD B W' v L := row_below h hb
theorem KtD.mono {B B' : Nat} {W : World} {v : Value} {L : List Kt} (h : KtD B W v L) (hB : B' ≤ B) : KtD B' W v L := row_mono h hB
theorem KtD.shape {B : Nat} {W : World} {v : Value} {L : List Kt} (h : KtD B W v L) : ∃ A c, v = .slice A L.length c := by
  obtain ⟨A, c, e, _⟩ := row_shape h
  exact ⟨A, c, e⟩
theorem ktD_at {B : Nat} {W : World} {v : Value} {L : List Kt} (h : KtD B W v L) {i : Nat} {t : Kt} (hi : L[i]? = some t) :
    ∃ g cap, v = .slice (some ⟨g, 0, none⟩) L.length cap ∧ g < W.heap.size ∧ W.cell? ⟨g, i * 3, none⟩ = some (.int .i64 t.a) ∧ W.cell? ⟨g, i * 3 + 1, none⟩ = some (.int .i64 t.b) ∧ W.cell? ⟨g, i * 3 + 2, none⟩ = some (.int .i64 t.c) := by
  rcases id h.2 with ⟨hv, hl⟩ | ⟨g, cap, cur, hv, _⟩
  · have := (List.getElem?_eq_some_iff.1 hi).1
    omega
  · have key : ∀ (j : Nat) (u : Value), (ktc t)[j]? = some u → W.cell? ⟨g, i * 3 + j, none⟩ = some u := fun j u hu => by
      have hj : j < 3 := (List.getElem?_eq_some_iff.1 hu).1
      have h1 := flat_at (f := ktc) L i j t (fun y _ => ktc_len y) hi hj
      have := World.ownsRow.cells h (g := g) (by rw [hv]; rfl) (i * 3 + j) u (by rw [h1, hu])
      rwa [at_add, Nat.zero_add] at this
    exact ⟨g, cap, hv, (World.ownsRow.lt h g (by rw [hv]; rfl)).2, key 0 _ rfl, key 1 _ rfl, key 2 _ rfl⟩
/-- The first place from n on, or -1. -/
def fromD (t : Kt) : List Kt → Nat → Int
  | [], _ => -1
  | u :: l, n => if u = t then (n : Int) else fromD t l (n + 1)
theorem fromD_neg (t : Kt) : ∀ (l : List Kt) (n : Nat), t ∉ l → fromD t l n = -1
  | [], n, _ => rfl
  | u :: l, n, h => by
    show (if u = t then (n : Int) else fromD t l (n + 1)) = _
    rw [if_neg (fun (e : u = t) => h (by rw [← e]; exact .head _)), fromD_neg t l (n + 1) (fun e => h (.tail _ e))]
theorem fromD_at (t : Kt) : ∀ (l : List Kt) (n : Nat), t ∈ l → ∃ j, fromD t l n = ((n + j : Nat) : Int) ∧ l[j]? = some t ∧ t ∉ l.take j
  | [], n, h => by cases h
  | u :: l, n, h => by
    by_cases e : u = t
    · subst e
      refine ⟨0, ?_, rfl, by simp⟩
      show (if u = u then (n : Int) else _) = _
      rw [if_pos rfl]; rfl
    · have h2 : t ∈ l := by
        rcases List.mem_cons.1 h with h | h
        · exact absurd h.symm e
        · exact h
      obtain ⟨j, h3, h4, h5⟩ := fromD_at t l (n + 1) h2
      refine ⟨j + 1, ?_, h4, ?_⟩
      · show (if u = t then (n : Int) else fromD t l (n + 1)) = _
        rw [if_neg e, h3]
        congr 1; omega
      · rw [List.take_succ_cons]
        intro hm
        rcases List.mem_cons.1 hm with h6 | h6
        · exact e h6.symm
        · exact h5 h6
def findD (L : List Kt) (t : Kt) : Int := fromD t L 0
def KfI (w : World) (r : Int) (t : Kt) (L : List Kt) (gk : Nat) (s9 : Value) (wr : World) : Prop := ∃ i : Nat, i + gk = L.length ∧ s9 = .int .i64 i ∧ Hid (r = fromD t (L.drop i) i) ∧ Below w.heap.size w wr
set_option maxHeartbeats 16000000 in
theorem kfind_any {B : Nat} {W : World} {v : Value} {L : List Kt} (hL : KtD B W v L) (hl : L.length ≤ 100000) (room : Int) (t : Kt) :
    Calls Try.prog 16 #[.agg #[.int .i64 room, v], .agg #[.int .i64 t.a, .int .i64 t.b, .int .i64 t.c]] W fun e w' => e = .returned (.int .i64 (findD L t)) ∧ Below W.heap.size W w' := by
  obtain ⟨r, hr⟩ : ∃ r, r = findD L t := ⟨_, rfl⟩
  rw [← hr]
  unfold findD at hr
  have hE := fun (u : Kt) (w : World) => eqArr2 u t w
  have HE := Lib.hid hE
  have HR := Lib.hid hr
  have HDL := Lib.hid hL
  have HN := Lib.hid hl
  obtain ⟨A, c, rfl⟩ := hL.shape
  obtain ⟨ta, hta⟩ : ∃ y, y = t.a := ⟨_, rfl⟩
  obtain ⟨tb, htb⟩ : ∃ y, y = t.b := ⟨_, rfl⟩
  obtain ⟨tc, htc⟩ : ∃ y, y = t.c := ⟨_, rfl⟩
  rw [← hta, ← htb, ← htc] at HE ⊢
  obtain ⟨W2, hW2⟩ : ∃ W2, W2 = (W.alloc (.cells #[.int .i64 room, .slice A L.length c] 30)).alloc (.cells #[.int .i64 ta, .int .i64 tb, .int .i64 tc] 31) := ⟨_, rfl⟩
  have hb2 : Below W.heap.size W W2 := by rw [hW2]; exact ((Below.refl _ _).alloc (Nat.le_refl _) _).alloc (by simp) _
  have hx2 : Fb W2 W.heap.size 30 #[.int .i64 room, .slice A L.length c] := by rw [hW2]; exact (Fb.new _ _ _).alloc _
  have hx3 : Fb W2 (W.heap.size + 1) 31 #[.int .i64 ta, .int .i64 tb, .int .i64 tc] := by
    have := Fb.new (W.alloc (.cells #[.int .i64 room, .slice A L.length c] 30)) 31 #[.int .i64 ta, .int .i64 tb, .int .i64 tc]
    rw [World.size_alloc] at this
    rw [hW2]; exact this
  have HB2 := Lib.hid hb2
  have HX2 := Lib.hid hx2
  have HX3 := Lib.hid hx3
  have y1 := hx2.cell 1
  clear hr hE hL hl hta htb htc hb2 hx2 hx3
  go_enter Try.func16, Try.ntmps16
  go_wp2
  rw [← hW2]
  clear hW2
  go_loopg [9] L.length (fun gk s9 wr => KfI W2 r t L gk s9 wr)
  case atStart => exact ⟨0, by omega, rfl, Lib.hid (by rw [List.drop_zero]; exact HR.out), Below.refl _ _⟩
  case round =>
    clear HR y1
    obtain ⟨i, hig, rfl, HRi, hbw⟩ := hrel
    cases gk with
    | zero =>
      have hin : ¬ (i : Int) < (L.length : Int) := by omega
      have hr2 : r = -1 := by rw [HRi.out, List.drop_of_length_le (by omega)]; rfl
      have HBW := Lib.hid (HB2.out.trans (hbw.mono HB2.out.size))
      subst hr2
      clear hig hbw HRi
      go_wp2
      go_ret
      exact ⟨rfl, HBW.out⟩
    | succ gg =>
      have hin : (i : Int) < (L.length : Int) := by omega
      have hiz : (0 : Int) ≤ (i : Int) := by omega
      obtain ⟨u, hu⟩ : ∃ u, L[i]? = some u := ⟨_, List.getElem?_eq_getElem (by omega)⟩
      obtain ⟨gb, cb, ev, hgb, q0, q1, q2⟩ := ktD_at HDL.out hu
      injection ev with ev1 ev2 ev3
      subst ev1
      clear ev2 ev3
      have hdr : L.drop i = u :: L.drop (i + 1) := by rw [List.drop_eq_getElem?_toList_append, hu]; rfl
      have hEu := HE.out u
      have hri := HRi.out
      rw [hdr] at hri
      have hri : r = if u = t then (i : Int) else fromD t (L.drop (i + 1)) (i + 1) := hri
      have hb : ∃ b : Bool, b = decide (u = t) := ⟨_, rfl⟩
      obtain ⟨b, hb⟩ := hb
      rw [← hb] at hEu
      have hri : r = if b = true then (i : Int) else fromD t (L.drop (i + 1)) (i + 1) := by rw [hri, hb]; simp
      generalize u.a = ua at q0 hEu
      generalize u.b = ub at q1 hEu
      generalize u.c = uc at q2 hEu
      have hgW : gb < W2.heap.size := Nat.lt_of_lt_of_le hgb HB2.out.size
      have hx2 := HX2.out.below hbw
      have hx3 := HX3.out.below hbw
      have hq := HB2.out.trans (hbw.mono HB2.out.size)
      have k1 := hx2.cell 1
      have k2 := hx3.cell 0
      have k3 := hx3.cell 1
      have k4 := hx3.cell 2
      have k6 := (hq.cell (p := ⟨gb, i * 3, none⟩) hgb).trans q0
      have k7 := (hq.cell (p := ⟨gb, i * 3 + 1, none⟩) hgb).trans q1
      have k8 := (hq.cell (p := ⟨gb, i * 3 + 2, none⟩) hgb).trans q2
      have HRI := Lib.hid hri
      have HI := Lib.hid (show i + 1 + gg = L.length from by omega)
      have HI9 := Lib.hid (show i < 100000 from by have := HN.out; omega)
      clear hu q0 q1 q2 hdr hri HRi hig hgb hgW hx2 hx3 hq hb HE
      cases b with
      | false =>
        go_wp2
        go_region
        all_goals
          go_wp2
          go_roundg gg
          case measure => exact Nat.lt_succ_self gg
          case rel => exact ⟨i + 1, HI.out, by have := HI9.out; first | rfl | (rw [IntWalk.wrap64_in _ ⟨by omega, by omega⟩, Int.natCast_succ]), Lib.hid (by rw [HRI.out]; rfl), by repeat (first | assumption | refine Below.drew ?_)⟩
      | true =>
        go_wp2
        go_region
        all_goals
          go_wp2
          (try rw [Exit.noGoto_ret])
          go_ret
          exact ⟨by rw [HRI.out]; rfl, HB2.out.trans ((show Below W2.heap.size W2 _ from by repeat (first | assumption | refine Below.drew ?_)).mono HB2.out.size)⟩
end Go.Proofs.Ytoiigplflmejmaa
