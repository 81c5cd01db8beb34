/-
  MERGED (a claim has at most 60 files): DNew, DArg, DCk.
-/
import Derived.Test.YtehechbiajbobaaZ11
import Derived.Test.YtehechbiajbobaaZ15
import Derived.Maps.Own
import Derived.Test.YtehechbiajbobaaZ14
/-
  A DICTIONARY IS MADE; the laws' 'short'; their 'awake'.
-/
namespace Go.Proofs.Ytehechbiajbobaa
open Go.RowKit
set_option linter.unusedVariables false
set_option linter.unusedSimpArgs false
set_option maxRecDepth 100000

theorem dnew_ok (room : Int) (h1 : 1 ≤ room) (h2 : room ≤ 65536) (w : World) :
    Calls Try.prog 5 #[.int .i64 room] w fun e w' => ∃ d m, e = .returned (.tuple #[.pointer (some ⟨d, 0, none⟩), .int .i64 0]) ∧ Dc w.heap.size d m room (.slice none 0 0) [] w' ∧ Below w.heap.size w w' := by
  have hmm := @run_makeMap Try.prog
  have hend : Dc w.heap.size (w.heap.size + 1) w.heap.size room (.slice none 0 0) [] ((w.alloc (.map #[] 0)).alloc (.cells #[.int .i64 room, .slice none 0 0, .map (some w.heap.size)] 78)) := by
    have e1 : (w.alloc (.map #[] 0)).heap.size = w.heap.size + 1 := by simp
    refine ⟨?_, World.ownsRow_nil _ _ _ _, ⟨#[], 0, ?_, rfl⟩, by omega, Nat.le_refl _, (fun t h => by cases h), List.nodup_nil⟩
    · unfold Fb
      rw [← e1]
      exact heap_alloc_new _ _
    · exact (Below.heap_alloc _ _ _ (by simp)).trans (heap_alloc_new w _)
  have HE := Lib.hid hend
  clear hend
  go_enter Try.func5, Try.ntmps5
  go_wp2
  go_ret2
  exact ⟨_, _, rfl, HE.out, ((Below.refl _ _).alloc (Nat.le_refl _) _).alloc (by simp) _⟩
theorem dnew_bad (room : Int) (h : room < 1 ∨ 65536 < room) (w : World) :
    Calls Try.prog 5 #[.int .i64 room] w fun e w' => e = .returned (.tuple #[.pointer none, .int .i64 2]) ∧ w' = w := by
  rcases h with h | h
  · go_enter Try.func5, Try.ntmps5
    go_wp2
    go_ret2
    exact ⟨rfl, rfl⟩
  · have h1 : ¬ room < 1 := by omega
    go_enter Try.func5, Try.ntmps5
    go_wp2
    go_ret2
    exact ⟨rfl, rfl⟩
/-- A term that isn't long. -/
def shortD (a b c : ByteArray) : Bool := decide (a.size ≤ 300) && (decide (b.size ≤ 300) && decide (c.size ≤ 100))
theorem dshort_any (k : Int) (a b c : ByteArray) (w : World) : Calls Try.prog 6 #[F4 k a b c] w fun e w' => e = .returned (.bool (shortD a b c)) ∧ Below w.heap.size w w' := by
  unfold shortD
  obtain ⟨n1, hn1⟩ : ∃ n, n = a.size := ⟨_, rfl⟩
  obtain ⟨n2, hn2⟩ : ∃ n, n = b.size := ⟨_, rfl⟩
  obtain ⟨n3, hn3⟩ : ∃ n, n = c.size := ⟨_, rfl⟩
  by_cases h1 : a.size ≤ 300
  · rw [decide_eq_true h1]
    have i1 : (a.size : Int) ≤ 300 := by omega
    by_cases h2 : b.size ≤ 300
    · rw [decide_eq_true h2]
      have i2 : (b.size : Int) ≤ 300 := by omega
      by_cases h3 : c.size ≤ 100
      · rw [decide_eq_true h3]
        have i3 : (c.size : Int) ≤ 100 := by omega
        clear h1 h2 h3
        go_enter Try.func6, Try.ntmps6
        go_wp2
        go_ret
        exact ⟨rfl, (Below.refl _ _).alloc (Nat.le_refl _) _⟩
      · rw [decide_eq_false h3]
        have i3 : ¬ (c.size : Int) ≤ 100 := by omega
        clear h1 h2 h3
        go_enter Try.func6, Try.ntmps6
        go_wp2
        go_ret
        exact ⟨rfl, (Below.refl _ _).alloc (Nat.le_refl _) _⟩
    · rw [decide_eq_false h2]
      have i2 : ¬ (b.size : Int) ≤ 300 := by omega
      clear h1 h2
      go_enter Try.func6, Try.ntmps6
      go_wp2
      go_ret
      exact ⟨rfl, (Below.refl _ _).alloc (Nat.le_refl _) _⟩
  · rw [decide_eq_false h1]
    have i1 : ¬ (a.size : Int) ≤ 300 := by omega
    clear h1
    go_enter Try.func6, Try.ntmps6
    go_wp2
    go_ret
    exact ⟨rfl, (Below.refl _ _).alloc (Nat.le_refl _) _⟩
/-! ### awake -/
theorem dplain_any (s : ByteArray) (w : World) : Calls Try.prog 24 #[.string s] w fun e w' => e = .returned (.agg #[.string s, .string XS, .string mt]) ∧ Below w.heap.size w w' := by
  go_enter Try.func24, Try.ntmps24
  go_wp2
  exact bodyPost_ret (v := .agg #[.string s, .string XS, .string mt]) (by simp [results, Try.results24, go_sem]) rfl ⟨rfl, (Below.refl _ _).alloc (Nat.le_refl _) _⟩
theorem good_a : goodT (.lit ⟨#[97]⟩ XS mt) = true := by
  show litG _ _ _ = true
  unfold litG
  rw [textG_of (ascii_parts ⟨#[97]⟩ [97] (by decide) (by decide)), if_pos (by decide), iriG_of (ascii_parts XS (sigs lS) (by decide) (by decide)), ByteArray.toList_eq]
  decide
theorem good_b : goodT (.lit ⟨#[98]⟩ XS mt) = true := by
  show litG _ _ _ = true
  unfold litG
  rw [textG_of (ascii_parts ⟨#[98]⟩ [98] (by decide) (by decide)), if_pos (by decide), iriG_of (ascii_parts XS (sigs lS) (by decide) (by decide)), ByteArray.toList_eq]
  decide
theorem put_a : putP 3 [] (.lit ⟨#[97]⟩ XS mt) = ([.lit ⟨#[97]⟩ XS mt], 0, 0) := by
  unfold putP
  rw [if_pos good_a]
  rfl
theorem put_b : putP 3 [.lit ⟨#[97]⟩ XS mt] (.lit ⟨#[98]⟩ XS mt) = ([.lit ⟨#[97]⟩ XS mt, .lit ⟨#[98]⟩ XS mt], 1, 0) := by
  unfold putP
  rw [if_pos good_b]
  have hs : sameB (.lit ⟨#[98]⟩ XS mt) (.lit ⟨#[97]⟩ XS mt) = false := by
    unfold sameB same4
    simp only [Tm.kind, Tm.ta, Tm.tb, Tm.tc, ByteArray.toList_eq]
    decide
  unfold putG nm
  rw [hs]
  rfl
set_option maxHeartbeats 4000000 in
theorem dawake_ok (w : World) : Calls Try.prog 4 #[] w fun e w' => e = .returned (.bool true) ∧ Below w.heap.size w w' := by
  have cN := dnew_ok 3 (by decide) (by decide) w
  have cP1 : ∀ {B d m : Nat} {v : Value} {W : World}, Dc B d m 3 v [] W → B ≤ W.heap.size → Calls Try.prog 10 #[.pointer (some ⟨d, 0, none⟩), (Tm.lit ⟨#[97]⟩ XS mt).val] W (PutPost B d m 3 v W ([.lit ⟨#[97]⟩ XS mt], 0, 0)) := fun {B d m v W} h hB => by
    have := dput_any h hB (by simp) (.lit ⟨#[97]⟩ XS mt) ⟨by decide, by decide, by decide⟩
    rw [put_a] at this
    exact this
  have cP2 : ∀ {B d m : Nat} {v : Value} {W : World}, Dc B d m 3 v [.lit ⟨#[97]⟩ XS mt] W → B ≤ W.heap.size → Calls Try.prog 10 #[.pointer (some ⟨d, 0, none⟩), (Tm.lit ⟨#[98]⟩ XS mt).val] W (PutPost B d m 3 v W ([.lit ⟨#[97]⟩ XS mt, .lit ⟨#[98]⟩ XS mt], 1, 0)) := fun {B d m v W} h hB => by
    have := dput_any h hB (by simp) (.lit ⟨#[98]⟩ XS mt) ⟨by decide, by decide, by decide⟩
    rw [put_b] at this
    exact this
  have cL : ∀ {B d m : Nat} {v : Value} {W : World}, Dc B d m 3 v [.lit ⟨#[97]⟩ XS mt, .lit ⟨#[98]⟩ XS mt] W → Calls Try.prog 25 #[.pointer (some ⟨d, 0, none⟩)] W fun e w' => e = .returned (.int .i64 2) ∧ w' = W := fun {B d m v W} h => dlen_any h (by simp)
  have cA := dplain_any ⟨#[97]⟩
  have cB := dplain_any ⟨#[98]⟩
  simp only [Tm.val] at cP1 cP2
  go_enter Try.func4, Try.ntmps4
  go_wp2_with (first
    | (go_at_call 5; (with_reducible refine cN.mono ?_); rintro e w1 ⟨d, m, rfl, hD1, hb1⟩)
    | (go_at_call 24; (with_reducible refine (cA _).mono ?_); rintro e w2 ⟨rfl, hb2⟩; have hD2 := hD1.below hb2; have hB2 := hb1.trans (hb2.mono hb1.size))
    | (go_at_call 10; (with_reducible refine (cP1 hD2 hB2.size).mono ?_); rintro e w3 ⟨v3, rfl, hD3, hT3⟩; have hB3 := hT3.below hD2 hB2)
    | (go_at_call 24; (with_reducible refine (cB _).mono ?_); rintro e w4 ⟨rfl, hb4⟩; have hD4 := hD3.below hb4; have hB4 := hB3.trans (hb4.mono hB3.size))
    | (go_at_call 10; (with_reducible refine (cP2 hD4 hB4.size).mono ?_); rintro e w5 ⟨v5, rfl, hD5, hT5⟩; have hB5 := hT5.below hD4 hB4)
    | (go_at_call 25; (with_reducible refine (cL hD5).mono ?_); rintro e w6 ⟨rfl, rfl⟩))
  go_ret
  exact ⟨rfl, hB5⟩
end Go.Proofs.Ytehechbiajbobaa

/-
  A SLICE OF THE DOCUMENT's TERMS AS THE CALL GETS IT.
-/
namespace Go.Proofs.Ytehechbiajbobaa
open Go.ChangeShapes Go.WideShapes Go.ChangeAt Go.RowKit
set_option linter.unusedVariables false
set_option maxRecDepth 100000

section
variable {H : Type} {enc : TypeId × Value → H} {W : World}
theorem rws_opened {fuel : Nat} {v : Value} {y : DataW H × List MemPlace} (h : DataW.trod enc Try.prog W 0 (fun _ => true) true fuel 28 [v] = some y) (hlt : ∀ z ∈ y.2, z.block < W.heap.size) :
    ∃ A l cap, v = .slice A (List.length (α := Dw) l) cap ∧ l.length ≤ cap ∧ cap ≤ maxLen ∧ SlAt W A 4 (l.map Dw.cells) ∧ ∀ t ∈ l, t.ok := by
  obtain ⟨A, l, cap, hv, h1, h2, h3, h4⟩ := slice_opened Try.underlying28 cellsT_four (by decide) h hlt
  obtain ⟨ts, rfl, hok⟩ := cells_map (p := Dw.ok) (f := Dw.cells) l fun cs hc => by
    obtain ⟨fu, z, hz⟩ := h4 cs hc
    exact rw_opened hz
  rw [List.length_map] at hv h1
  exact ⟨A, ts, cap, hv, h1, h2, h3, hok⟩
end
end Go.Proofs.Ytehechbiajbobaa

/-
  TERMS PUT ONE BEHIND ANOTHER: plain; the world of a law that puts them and keeps their numbers.
-/
namespace Go.Proofs.Ytehechbiajbobaa
open Go.RowKit
set_option linter.unusedVariables false
set_option linter.unusedSimpArgs false
set_option maxRecDepth 100000

/-- The dictionary behind the first i of some terms. -/
noncomputable def dicts (room : Int) (ts : List Tm) : Nat → List Tm
  | 0 => []
  | i + 1 => match ts[i]? with
    | some t => (putP room (dicts room ts i) t).1
    | none => dicts room ts i
theorem dicts_some (room : Int) {ts : List Tm} {i : Nat} {t : Tm} (h : ts[i]? = some t) : dicts room ts (i + 1) = (putP room (dicts room ts i) t).1 := by
  show (match ts[i]? with | some t => (putP room (dicts room ts i) t).1 | none => dicts room ts i) = _
  rw [h]
theorem dicts_none (room : Int) {ts : List Tm} {i : Nat} (h : ts[i]? = none) : dicts room ts (i + 1) = dicts room ts i := by
  show (match ts[i]? with | some t => (putP room (dicts room ts i) t).1 | none => dicts room ts i) = _
  rw [h]
/-- What number the i-th gets. -/
noncomputable def num (room : Int) (ts : List Tm) (i : Nat) : Int := match ts[i]? with
  | some t => (putP room (dicts room ts i) t).2.1
  | none => 0
noncomputable def nums (room : Int) (ts : List Tm) (i : Nat) : List Int := (List.range i).map (num room ts)
theorem nums_len (room : Int) (ts : List Tm) (i : Nat) : (nums room ts i).length = i := by unfold nums; simp
theorem nums_at (room : Int) (ts : List Tm) {i n : Nat} (h : i < n) : (nums room ts n)[i]? = some (num room ts i) := by unfold nums; simp [h]
theorem nums_succ (room : Int) (ts : List Tm) (i : Nat) : nums room ts (i + 1) = nums room ts i ++ [num room ts i] := by unfold nums; rw [List.range_succ, List.map_append]; rfl
theorem dicts_len (room : Int) (ts : List Tm) : ∀ i, (dicts room ts i).length ≤ i
  | 0 => Nat.le_refl _
  | i + 1 => by
    have ih := dicts_len room ts i
    cases ht : ts[i]? with
    | some t => rw [dicts_some room ht]; exact Nat.le_trans putP_len (by omega)
    | none => rw [dicts_none room ht]; omega
theorem putG_pre (room : Int) (L : List Tm) (t : Tm) : ∃ M, (putG room L t).1 = L ++ M := by
  unfold putG
  split
  · exact ⟨[], by simp⟩
  · split
    · exact ⟨[], by simp⟩
    · exact ⟨[t], rfl⟩
theorem putP_pre (room : Int) (L : List Tm) (t : Tm) : ∃ M, (putP room L t).1 = L ++ M := by
  unfold putP
  split
  · exact putG_pre room L t
  · exact ⟨[], by simp⟩
theorem dicts_pre (room : Int) (ts : List Tm) (i : Nat) : ∀ j, ∃ M, dicts room ts (i + j) = dicts room ts i ++ M
  | 0 => ⟨[], by simp⟩
  | j + 1 => by
    obtain ⟨M, hM⟩ := dicts_pre room ts i j
    show ∃ N, dicts room ts (i + j + 1) = _
    cases ht : ts[i + j]? with
    | some t =>
      obtain ⟨N, hN⟩ := putP_pre room (dicts room ts (i + j)) t
      exact ⟨M ++ N, by rw [dicts_some room ht, hN, hM, List.append_assoc]⟩
    | none => exact ⟨M, by rw [dicts_none room ht, hM]⟩
theorem dicts_take (room : Int) (ts : List Tm) {i n : Nat} (h : i ≤ n) : (dicts room ts n).take (dicts room ts i).length = dicts room ts i := by
  obtain ⟨j, rfl⟩ : ∃ j, n = i + j := ⟨n - i, by omega⟩
  obtain ⟨M, hM⟩ := dicts_pre room ts i j
  rw [hM, List.take_left]
theorem nm_cons (t u : Tm) (l : List Tm) : nm t (u :: l) = if sameB t u = true then some 0 else (nm t l).map (· + 1) := rfl
theorem nm_app {t : Tm} : ∀ {A B : List Tm}, nm t (A ++ B) = match nm t A with | some j => some j | none => (nm t B).map (· + A.length)
  | [], B => by
    show nm t B = (nm t B).map _
    cases nm t B <;> simp
  | a :: A, B => by
    show nm t (a :: (A ++ B)) = _
    rw [nm_cons, nm_cons, nm_app]
    by_cases h : sameB t a = true
    · rw [if_pos h, if_pos h]
    · rw [if_neg h, if_neg h]
      cases nm t A with
      | some j => rfl
      | none =>
        cases nm t B with
        | none => rfl
        | some j => simp; omega
theorem nm_self {t : Tm} (h : t.kind < 3) : nm t [t] = some 0 := by rw [nm_cons, if_pos (d_refl h)]
/-- Put again behind what is left of the whole, a term has the number that it had. -/
theorem again_step (room : Int) (ts : List Tm) {i n : Nat} (hi : i < n) (hroom : (n : Int) ≤ room) {t : Tm} (ht : ts[i]? = some t) (f : Nat) :
    putP room ((dicts room ts n).take (max f (dicts room ts i).length)) t = ((dicts room ts n).take (max f (dicts room ts (i + 1)).length), num room ts i, (putP room (dicts room ts i) t).2.2) := by
  have h1 := dicts_some room ht
  have h2 : num room ts i = (putP room (dicts room ts i) t).2.1 := by unfold num; rw [ht]
  have hp := dicts_take room ts (i := i) (n := n) (by omega)
  have hp1 := dicts_take room ts (i := i + 1) (n := n) (by omega)
  have hl := dicts_len room ts i
  rw [h1] at hp1
  rw [h1, h2]
  generalize dicts room ts i = D at *
  generalize dicts room ts n = L at *
  clear h1 h2 ht
  obtain ⟨R, hR⟩ : ∃ R, L.take (max f D.length) = D ++ R := by
    refine ⟨(L.take (max f D.length)).drop D.length, ?_⟩
    have e : (L.take (max f D.length)).take D.length = D := by rw [List.take_take, Nat.min_eq_left (by omega), hp]
    rw [← List.take_append_drop D.length (L.take (max f D.length)), e]
    simp
  unfold putP at hp1 ⊢
  by_cases hg : goodT t = true
  · rw [if_pos hg] at hp1 ⊢
    rw [if_pos hg]
    have hk := d_good_kind hg
    unfold putG at hp1 ⊢
    cases hn : nm t D with
    | some j =>
      have hq : nm t (L.take (max f D.length)) = some j := by rw [hR, nm_app, hn]
      rw [hq]
    | none =>
      rw [hn] at hp1
      have hr : ¬ room ≤ (D.length : Int) := by omega
      dsimp only at hp1 ⊢
      simp only [if_neg hr] at hp1 ⊢
      have hlen : (D ++ [t]).length = D.length + 1 := by simp
      rw [hlen] at hp1 ⊢
      by_cases hf : f ≤ D.length
      · rw [Nat.max_eq_right hf, hp, hn, Nat.max_eq_right (by omega), hp1]
        dsimp only
        rw [if_neg hr]
      · have hDL : D.length + 1 ≤ L.length := by have := congrArg List.length hp1; rw [List.length_take, hlen] at this; omega
        have e2 : L.take (max f D.length) = (D ++ [t]) ++ (L.take f).drop (D.length + 1) := by
          rw [Nat.max_eq_left (by omega)]
          have : (L.take f).take (D.length + 1) = D ++ [t] := by rw [List.take_take, Nat.min_eq_left (by omega), hp1]
          rw [← this, List.take_append_drop]
        have hq : nm t (L.take (max f D.length)) = some D.length := by
          rw [e2, nm_app, nm_app, hn, nm_self hk]
          simp
        rw [hq]
        dsimp only
        rw [Nat.max_eq_left (by omega), Nat.max_eq_left (by omega)]
  · rw [if_neg hg] at hp1 ⊢
    rw [if_neg hg]
/-! ### The world -/
def dRow (N : List Int) : List Value := N.map (Value.int .i64)
structure Ck (W0 : World) (d m : Nat) (room : Int) (v : Value) (L : List Tm) (vw : Value) (N : List Int) (W : World) : Prop where
  b : Below W0.heap.size W0 W
  dc : Dc W0.heap.size d m room v L W
  was : W.ownsRow W0.heap.size 3 1 vw N.length (dRow N)
theorem int_ne_dict : 3 ≠ 78 := by decide
theorem int_ne_term : 3 ≠ 41 := by decide
theorem t_ne_dict : 32 ≠ 78 := by decide
theorem t_ne_term : 32 ≠ 41 := by decide
theorem t_ne_int : 32 ≠ 3 := by decide
section
variable {W0 : World} {d m : Nat} {room : Int} {v : Value} {L : List Tm} {vw : Value} {N : List Int}
theorem row_below {W W' : World} {B : Nat} {ty : TypeId} {z n : Nat} {u : Value} {xs : List Value} (hr : W.ownsRow B ty z u n xs) (hb : Below W.heap.size W W') : W'.ownsRow B ty z u n xs := by
  refine ⟨hr.1, ?_⟩
  rcases id hr.2 with hn | ⟨g, cap, cur, hv, hge, hg, rest⟩
  · exact .inl hn
  · exact .inr ⟨g, cap, cur, hv, hge, (hb.block g (Array.getElem?_eq_some_iff.1 hg).1).trans hg, rest⟩
theorem Ck.below {W W' : World} (h : Ck W0 d m room v L vw N W) (hb : Below W.heap.size W W') : Ck W0 d m room v L vw N W' := ⟨h.b.trans (hb.mono h.b.size), h.dc.below hb, row_below h.was hb⟩
theorem Ck.turn {W W' : World} {v' : Value} {L' : List Tm} (h : Ck W0 d m room v L vw N W) (hd : Dc W0.heap.size d m room v' L' W') (ht : Tn d m v v' W W') : Ck W0 d m room v' L' vw N W' := ⟨ht.below h.dc h.b, hd, ht.row h.dc h.was int_ne_dict int_ne_term⟩
theorem Ck.app {W W' : World} {vw' : Value} {n : Nat} {x : Int} {news : List Value} (h : Ck W0 d m room v L vw N W) (hn : n = N.length + 1) (hw : news = [.int .i64 x]) (hown : W'.ownsRow W0.heap.size 3 1 vw' n (dRow N ++ news)) (hg : W.grownBy W' vw.ownBlock) : Ck W0 d m room v L vw' (N ++ [x]) W' := by
  subst hn hw
  refine ⟨h.b.grown hg h.b.size (fun j hj => (World.ownsRow.lt h.was j hj).1), h.dc.grown h.was hg int_ne_dict int_ne_term, ?_⟩
  unfold dRow at *
  rw [List.map_append, List.length_append]
  exact hown
theorem Ck.shape {W : World} (h : Ck W0 d m room v L vw N W) : ∃ A c, vw = .slice A N.length c := by
  rcases id h.was.2 with ⟨hv, hl⟩ | ⟨g, cap, cur, hv, _⟩
  · exact ⟨none, 0, by rw [hv, hl]⟩
  · exact ⟨_, cap, hv⟩
theorem Ck.at {W : World} (h : Ck W0 d m room v L vw N W) {i : Nat} {x : Int} (hi : N[i]? = some x) : ∃ g cap, vw = .slice (some ⟨g, 0, none⟩) N.length cap ∧ W.cell? ⟨g, i, none⟩ = some (.int .i64 x) := by
  rcases id h.was.2 with ⟨hv, hl⟩ | ⟨g, cap, cur, hv, _⟩
  · have := (List.getElem?_eq_some_iff.1 hi).1
    omega
  · refine ⟨g, cap, hv, ?_⟩
    have := World.ownsRow.cells h.was (g := g) (by rw [hv]; rfl) i (.int .i64 x) (by unfold dRow; rw [List.getElem?_map, hi]; rfl)
    by_cases h0 : i = 0
    · subst h0; simpa [Addr.add] using this
    · simpa [Addr.add, h0] using this
theorem Ck.row {W : World} (h : Ck W0 d m room v L vw N W) {n : Nat} (hn : N.length = n) : W.ownsRow W0.heap.size 3 1 vw n (dRow N) := by
  rw [← hn]; exact h.was
theorem Ck.cell {W : World} {g n c : Nat} (h : Ck W0 d m room v L (.slice (some ⟨g, 0, none⟩) n c) N W) {i : Nat} {x : Int} (hi : N[i]? = some x) : W.cell? ⟨g, i, none⟩ = some (.int .i64 x) := by
  obtain ⟨g', c', e, hc⟩ := h.at hi
  injection e with e
  injection e with e
  injection e with e
  subst e
  exact hc
/-- The same beside the box of a term. -/
structure Cb (W0 : World) (d m : Nat) (room : Int) (v : Value) (L : List Tm) (vw : Value) (N : List Int) (g : Nat) (k : Int) (a b c : ByteArray) (W : World) : Prop where
  ck : Ck W0 d m room v L vw N W
  box : Fb W g 32 #[.int .i64 k, .string a, .string b, .string c]
variable {g : Nat} {k : Int} {a b c : ByteArray}
theorem Cb.below {W W' : World} (h : Cb W0 d m room v L vw N g k a b c W) (hb : Below W.heap.size W W') : Cb W0 d m room v L vw N g k a b c W' := ⟨h.ck.below hb, h.box.below hb⟩
theorem Cb.mk' {W : World} (h : Ck W0 d m room v L vw N W) (k : Int) (a b c : ByteArray) : Cb W0 d m room v L vw N W.heap.size k a b c (W.alloc (.cells #[.int .i64 k, .string a, .string b, .string c] 32)) := ⟨h.below ((Below.refl _ _).alloc (Nat.le_refl _) _), Fb.new _ _ _⟩
theorem Cb.turn {W W' : World} {v' : Value} {L' : List Tm} (h : Cb W0 d m room v L vw N g k a b c W) (hd : Dc W0.heap.size d m room v' L' W') (ht : Tn d m v v' W W') : Cb W0 d m room v' L' vw N g k a b c W' := ⟨h.ck.turn hd ht, ht.fb h.ck.dc h.box t_ne_dict t_ne_term⟩
theorem cb_of {W : World} {f : Nat} {args : Array Value} {y : Value} (h : Cb W0 d m room v L vw N g k a b c W) (kk : Calls Try.prog f args W fun e w' => e = .returned y ∧ Below W.heap.size W w') :
    Calls Try.prog f args W fun e w' => e = .returned y ∧ Cb W0 d m room v L vw N g k a b c w' := kk.mono fun _ _ ⟨x, z⟩ => ⟨x, h.below z⟩
theorem Cb.cells {W : World} (h : Cb W0 d m room v L vw N g k a b c W) : W.cell? ⟨g, 0, none⟩ = some (.int .i64 k) ∧ W.cell? ⟨g, 1, none⟩ = some (.string a) ∧ W.cell? ⟨g, 2, none⟩ = some (.string b) ∧ W.cell? ⟨g, 3, none⟩ = some (.string c) := ⟨h.box.cell 0, h.box.cell 1, h.box.cell 2, h.box.cell 3⟩
end
/-- The terms that the law makes of what comes. -/
def plL (l : List Dw) : List Tm := l.map fun r => pl3 r.k r.a r.b r.c
theorem plL_at {l : List Dw} {i : Nat} {r : Dw} (h : l[i]? = some r) : (plL l)[i]? = some (pl3 r.k r.a r.b r.c) := by unfold plL; rw [List.getElem?_map, h]; rfl
theorem short_few {r : Dw} (h : shortD r.a r.b r.c = true) : (pl3 r.k r.a r.b r.c).few := by
  unfold shortD at h
  simp only [Bool.and_eq_true, decide_eq_true_eq] at h
  obtain ⟨h1, h2, h3⟩ := pl3_small r.k r.a r.b r.c
  exact ⟨by omega, by omega, by omega⟩
theorem sl_at4 {W : World} {A : Option Addr} {l : List Dw} (h : SlAt W A 4 (l.map Dw.cells)) {i : Nat} {r : Dw} (hi : l[i]? = some r) : ∃ g o, A = some ⟨g, o, none⟩ ∧ W.cell? ⟨g, o + i * 4, none⟩ = some (.int .i64 r.k) ∧ W.cell? ⟨g, o + i * 4 + 1, none⟩ = some (.string r.a) ∧ W.cell? ⟨g, o + i * 4 + 2, none⟩ = some (.string r.b) ∧ W.cell? ⟨g, o + i * 4 + 3, none⟩ = some (.string r.c) := by
  obtain ⟨g, o, e, _, hc⟩ := h i r.cells (by rw [List.getElem?_map, hi]; rfl)
  exact ⟨g, o, e, hc 0 _ rfl, hc 1 _ rfl, hc 2 _ rfl, hc 3 _ rfl⟩
end Go.Proofs.Ytehechbiajbobaa
