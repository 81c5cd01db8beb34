/-
  MERGED (a claim has at most 60 files): DCk, NIs.
-/
import Derived.Test.YtpnfjjgihkmjmaaZ32
import Derived.Test.YtpnfjjgihkmjmaaZ23
import Derived.Test.YtpnfjjgihkmjmaaZ27
/-
  TERMS PUT ONE BEHIND ANOTHER: plain; the world of a law that puts them and keeps their numbers.
-/
namespace Go.Proofs.Ytpnfjjgihkmjmaa
open Go.RowKit
set_option linter.unusedVariables false
set_option linter.unusedSimpArgs false
set_option maxRecDepth 100000

/-- The dictionary behind the first i of some terms. -/
noncomputable def dicts (room : Int) (ts : List Tm) : Nat → List Tm
  | 0 => []
  | i + 1 => match ts[i]? with
    | some t => (putP room (dicts room ts i) t).1
    | none => dicts room ts i
theorem dicts_some (room : Int) {ts : List Tm} {i : Nat} {t : Tm} (h : ts[i]? = some t) : dicts room ts (i + 1) = (putP room (dicts room ts i) t).1 := by
  show (match ts[i]? with | some t => (putP room (dicts room ts i) t).1 | none => dicts room ts i) = _
  rw [h]
theorem dicts_none (room : Int) {ts : List Tm} {i : Nat} (h : ts[i]? = none) : dicts room ts (i + 1) = dicts room ts i := by
  show (match ts[i]? with | some t => (putP room (dicts room ts i) t).1 | none => dicts room ts i) = _
  rw [h]
/-- What number the i-th gets. -/
noncomputable def num (room : Int) (ts : List Tm) (i : Nat) : Int := match ts[i]? with
  | some t => (putP room (dicts room ts i) t).2.1
  | none => 0
noncomputable def nums (room : Int) (ts : List Tm) (i : Nat) : List Int := (List.range i).map (num room ts)
theorem nums_len (room : Int) (ts : List Tm) (i : Nat) : (nums room ts i).length = i := by unfold nums; simp
theorem nums_at (room : Int) (ts : List Tm) {i n : Nat} (h : i < n) : (nums room ts n)[i]? = some (num room ts i) := by unfold nums; simp [h]
theorem nums_succ (room : Int) (ts : List Tm) (i : Nat) : nums room ts (i + 1) = nums room ts i ++ [num room ts i] := by unfold nums; rw [List.range_succ, List.map_append]; rfl
theorem dicts_len (room : Int) (ts : List Tm) : ∀ i, (dicts room ts i).length ≤ i
  | 0 => Nat.le_refl _
  | i + 1 => by
    have ih := dicts_len room ts i
    cases ht : ts[i]? with
    | some t => rw [dicts_some room ht]; exact Nat.le_trans putP_len (by omega)
    | none => rw [dicts_none room ht]; omega
theorem putG_pre (room : Int) (L : List Tm) (t : Tm) : ∃ M, (putG room L t).1 = L ++ M := by
  unfold putG
  split
  · exact ⟨[], by simp⟩
  · split
    · exact ⟨[], by simp⟩
    · exact ⟨[t], rfl⟩
theorem putP_pre (room : Int) (L : List Tm) (t : Tm) : ∃ M, (putP room L t).1 = L ++ M := by
  unfold putP
  split
  · exact putG_pre room L t
  · exact ⟨[], by simp⟩
theorem dicts_pre (room : Int) (ts : List Tm) (i : Nat) : ∀ j, ∃ M, dicts room ts (i + j) = dicts room ts i ++ M
  | 0 => ⟨[], by simp⟩
  | j + 1 => by
    obtain ⟨M, hM⟩ := dicts_pre room ts i j
    show ∃ N, dicts room ts (i + j + 1) = _
    cases ht : ts[i + j]? with
    | some t =>
      obtain ⟨N, hN⟩ := putP_pre room (dicts room ts (i + j)) t
      exact ⟨M ++ N, by rw [dicts_some room ht, hN, hM, List.append_assoc]⟩
    | none => exact ⟨M, by rw [dicts_none room ht, hM]⟩
theorem dicts_take (room : Int) (ts : List Tm) {i n : Nat} (h : i ≤ n) : (dicts room ts n).take (dicts room ts i).length = dicts room ts i := by
  obtain ⟨j, rfl⟩ : ∃ j, n = i + j := ⟨n - i, by omega⟩
  obtain ⟨M, hM⟩ := dicts_pre room ts i j
  rw [hM, List.take_left]
theorem nm_cons (t u : Tm) (l : List Tm) : nm t (u :: l) = if sameB t u = true then some 0 else (nm t l).map (· + 1) := rfl
theorem nm_app {t : Tm} : ∀ {A B : List Tm}, nm t (A ++ B) = match nm t A with | some j => some j | none => (nm t B).map (· + A.length)
  | [], B => by
    show nm t B = (nm t B).map _
    cases nm t B <;> simp
  | a :: A, B => by
    show nm t (a :: (A ++ B)) = _
    rw [nm_cons, nm_cons, nm_app]
    by_cases h : sameB t a = true
    · rw [if_pos h, if_pos h]
    · rw [if_neg h, if_neg h]
      cases nm t A with
      | some j => rfl
      | none =>
        cases nm t B with
        | none => rfl
        | some j => simp; omega
theorem nm_self {t : Tm} (h : t.kind < 3) : nm t [t] = some 0 := by rw [nm_cons, if_pos (d_refl h)]
/-- Put again behind what is left of the whole, a term has the number that it had. -/
theorem again_step (room : Int) (ts : List Tm) {i n : Nat} (hi : i < n) (hroom : (n : Int) ≤ room) {t : Tm} (ht : ts[i]? = some t) (f : Nat) :
    putP room ((dicts room ts n).take (max f (dicts room ts i).length)) t = ((dicts room ts n).take (max f (dicts room ts (i + 1)).length), num room ts i, (putP room (dicts room ts i) t).2.2) := by
  have h1 := dicts_some room ht
  have h2 : num room ts i = (putP room (dicts room ts i) t).2.1 := by unfold num; rw [ht]
  have hp := dicts_take room ts (i := i) (n := n) (by omega)
  have hp1 := dicts_take room ts (i := i + 1) (n := n) (by omega)
  have hl := dicts_len room ts i
  rw [h1] at hp1
  rw [h1, h2]
  generalize dicts room ts i = D at *
  generalize dicts room ts n = L at *
  clear h1 h2 ht
  obtain ⟨R, hR⟩ : ∃ R, L.take (max f D.length) = D ++ R := by
    refine ⟨(L.take (max f D.length)).drop D.length, ?_⟩
    have e : (L.take (max f D.length)).take D.length = D := by rw [List.take_take, Nat.min_eq_left (by omega), hp]
    rw [← List.take_append_drop D.length (L.take (max f D.length)), e]
    simp
  unfold putP at hp1 ⊢
  by_cases hg : goodT t = true
  · rw [if_pos hg] at hp1 ⊢
    rw [if_pos hg]
    have hk := d_good_kind hg
    unfold putG at hp1 ⊢
    cases hn : nm t D with
    | some j =>
      have hq : nm t (L.take (max f D.length)) = some j := by rw [hR, nm_app, hn]
      rw [hq]
    | none =>
      rw [hn] at hp1
      have hr : ¬ room ≤ (D.length : Int) := by omega
      dsimp only at hp1 ⊢
      simp only [if_neg hr] at hp1 ⊢
      have hlen : (D ++ [t]).length = D.length + 1 := by simp
      rw [hlen] at hp1 ⊢
      by_cases hf : f ≤ D.length
      · rw [Nat.max_eq_right hf, hp, hn, Nat.max_eq_right (by omega), hp1]
        dsimp only
        rw [if_neg hr]
      · have hDL : D.length + 1 ≤ L.length := by have := congrArg List.length hp1; rw [List.length_take, hlen] at this; omega
        have e2 : L.take (max f D.length) = (D ++ [t]) ++ (L.take f).drop (D.length + 1) := by
          rw [Nat.max_eq_left (by omega)]
          have : (L.take f).take (D.length + 1) = D ++ [t] := by rw [List.take_take, Nat.min_eq_left (by omega), hp1]
          rw [← this, List.take_append_drop]
        have hq : nm t (L.take (max f D.length)) = some D.length := by
          rw [e2, nm_app, nm_app, hn, nm_self hk]
          simp
        rw [hq]
        dsimp only
        rw [Nat.max_eq_left (by omega), Nat.max_eq_left (by omega)]
  · rw [if_neg hg] at hp1 ⊢
    rw [if_neg hg]
/-! ### The world -/
def dRow (N : List Int) : List Value := N.map (Value.int .i64)
structure Ck (W0 : World) (d m : Nat) (room : Int) (v : Value) (L : List Tm) (vw : Value) (N : List Int) (W : World) : Prop where
  b : Below W0.heap.size W0 W
  dc : Dc W0.heap.size d m room v L W
  was : W.ownsRow W0.heap.size 3 1 vw N.length (dRow N)
theorem int_ne_dict : 3 ≠ 89 := by decide
theorem int_ne_term : 3 ≠ 41 := by decide
theorem t_ne_dict : 32 ≠ 89 := by decide
theorem t_ne_term : 32 ≠ 41 := by decide
theorem t_ne_int : 32 ≠ 3 := by decide
section
variable {W0 : World} {d m : Nat} {room : Int} {v : Value} {L : List Tm} {vw : Value} {N : List Int}
theorem row_below {W W' : World} {B : Nat} {ty : TypeId} {z n : Nat} {u : Value} {xs : List Value} (hr : W.ownsRow B ty z u n xs) (hb : Below W.heap.size W W') : W'.ownsRow B ty z u n xs := by
  refine ⟨hr.1, ?_⟩
  rcases id hr.2 with hn | ⟨g, cap, cur, hv, hge, hg, rest⟩
  · exact .inl hn
  · exact .inr ⟨g, cap, cur, hv, hge, (hb.block g (Array.getElem?_eq_some_iff.1 hg).1).trans hg, rest⟩
theorem Ck.below {W W' : World} (h : Ck W0 d m room v L vw N W) (hb : Below W.heap.size W W') : Ck W0 d m room v L vw N W' := ⟨h.b.trans (hb.mono h.b.size), h.dc.below hb, row_below h.was hb⟩
theorem Ck.turn {W W' : World} {v' : Value} {L' : List Tm} (h : Ck W0 d m room v L vw N W) (hd : Dc W0.heap.size d m room v' L' W') (ht : Tn d m v v' W W') : Ck W0 d m room v' L' vw N W' := ⟨ht.below h.dc h.b, hd, ht.row h.dc h.was int_ne_dict int_ne_term⟩
theorem Ck.app {W W' : World} {vw' : Value} {n : Nat} {x : Int} {news : List Value} (h : Ck W0 d m room v L vw N W) (hn : n = N.length + 1) (hw : news = [.int .i64 x]) (hown : W'.ownsRow W0.heap.size 3 1 vw' n (dRow N ++ news)) (hg : W.grownBy W' vw.ownBlock) : Ck W0 d m room v L vw' (N ++ [x]) W' := by
  subst hn hw
  refine ⟨h.b.grown hg h.b.size (fun j hj => (World.ownsRow.lt h.was j hj).1), h.dc.grown h.was hg int_ne_dict int_ne_term, ?_⟩
  unfold dRow at *
  rw [List.map_append, List.length_append]
  exact hown
theorem Ck.shape {W : World} (h : Ck W0 d m room v L vw N W) : ∃ A c, vw = .slice A N.length c := by
  rcases id h.was.2 with ⟨hv, hl⟩ | ⟨g, cap, cur, hv, _⟩
  · exact ⟨none, 0, by rw [hv, hl]⟩
  · exact ⟨_, cap, hv⟩
theorem Ck.at {W : World} (h : Ck W0 d m room v L vw N W) {i : Nat} {x : Int} (hi : N[i]? = some x) : ∃ g cap, vw = .slice (some ⟨g, 0, none⟩) N.length cap ∧ W.cell? ⟨g, i, none⟩ = some (.int .i64 x) := by
  rcases id h.was.2 with ⟨hv, hl⟩ | ⟨g, cap, cur, hv, _⟩
  · have := (List.getElem?_eq_some_iff.1 hi).1
    omega
  · refine ⟨g, cap, hv, ?_⟩
    have := World.ownsRow.cells h.was (g := g) (by rw [hv]; rfl) i (.int .i64 x) (by unfold dRow; rw [List.getElem?_map, hi]; rfl)
    by_cases h0 : i = 0
    · subst h0; simpa [Addr.add] using this
    · simpa [Addr.add, h0] using this
theorem Ck.row {W : World} (h : Ck W0 d m room v L vw N W) {n : Nat} (hn : N.length = n) : W.ownsRow W0.heap.size 3 1 vw n (dRow N) := by
  rw [← hn]; exact h.was
theorem Ck.cell {W : World} {g n c : Nat} (h : Ck W0 d m room v L (.slice (some ⟨g, 0, none⟩) n c) N W) {i : Nat} {x : Int} (hi : N[i]? = some x) : W.cell? ⟨g, i, none⟩ = some (.int .i64 x) := by
  obtain ⟨g', c', e, hc⟩ := h.at hi
  injection e with e
  injection e with e
  injection e with e
  subst e
  exact hc
/-- The same beside the box of a term. -/
structure Cb (W0 : World) (d m : Nat) (room : Int) (v : Value) (L : List Tm) (vw : Value) (N : List Int) (g : Nat) (k : Int) (a b c : ByteArray) (W : World) : Prop where
  ck : Ck W0 d m room v L vw N W
  box : Fb W g 32 #[.int .i64 k, .string a, .string b, .string c]
variable {g : Nat} {k : Int} {a b c : ByteArray}
theorem Cb.below {W W' : World} (h : Cb W0 d m room v L vw N g k a b c W) (hb : Below W.heap.size W W') : Cb W0 d m room v L vw N g k a b c W' := ⟨h.ck.below hb, h.box.below hb⟩
theorem Cb.mk' {W : World} (h : Ck W0 d m room v L vw N W) (k : Int) (a b c : ByteArray) : Cb W0 d m room v L vw N W.heap.size k a b c (W.alloc (.cells #[.int .i64 k, .string a, .string b, .string c] 32)) := ⟨h.below ((Below.refl _ _).alloc (Nat.le_refl _) _), Fb.new _ _ _⟩
theorem Cb.turn {W W' : World} {v' : Value} {L' : List Tm} (h : Cb W0 d m room v L vw N g k a b c W) (hd : Dc W0.heap.size d m room v' L' W') (ht : Tn d m v v' W W') : Cb W0 d m room v' L' vw N g k a b c W' := ⟨h.ck.turn hd ht, ht.fb h.ck.dc h.box t_ne_dict t_ne_term⟩
theorem cb_of {W : World} {f : Nat} {args : Array Value} {y : Value} (h : Cb W0 d m room v L vw N g k a b c W) (kk : Calls Try.prog f args W fun e w' => e = .returned y ∧ Below W.heap.size W w') :
    Calls Try.prog f args W fun e w' => e = .returned y ∧ Cb W0 d m room v L vw N g k a b c w' := kk.mono fun _ _ ⟨x, z⟩ => ⟨x, h.below z⟩
theorem Cb.cells {W : World} (h : Cb W0 d m room v L vw N g k a b c W) : W.cell? ⟨g, 0, none⟩ = some (.int .i64 k) ∧ W.cell? ⟨g, 1, none⟩ = some (.string a) ∧ W.cell? ⟨g, 2, none⟩ = some (.string b) ∧ W.cell? ⟨g, 3, none⟩ = some (.string c) := ⟨h.box.cell 0, h.box.cell 1, h.box.cell 2, h.box.cell 3⟩
end
/-- The terms that the law makes of what comes. -/
def plL (l : List Dw) : List Tm := l.map fun r => pl3 r.k r.a r.b r.c
theorem plL_at {l : List Dw} {i : Nat} {r : Dw} (h : l[i]? = some r) : (plL l)[i]? = some (pl3 r.k r.a r.b r.c) := by unfold plL; rw [List.getElem?_map, h]; rfl
theorem short_few {r : Dw} (h : shortD r.a r.b r.c = true) : (pl3 r.k r.a r.b r.c).few := by
  unfold shortD at h
  simp only [Bool.and_eq_true, decide_eq_true_eq] at h
  obtain ⟨h1, h2, h3⟩ := pl3_small r.k r.a r.b r.c
  exact ⟨by omega, by omega, by omega⟩
theorem sl_at4 {W : World} {A : Option Addr} {l : List Dw} (h : SlAt W A 4 (l.map Dw.cells)) {i : Nat} {r : Dw} (hi : l[i]? = some r) : ∃ g o, A = some ⟨g, o, none⟩ ∧ W.cell? ⟨g, o + i * 4, none⟩ = some (.int .i64 r.k) ∧ W.cell? ⟨g, o + i * 4 + 1, none⟩ = some (.string r.a) ∧ W.cell? ⟨g, o + i * 4 + 2, none⟩ = some (.string r.b) ∧ W.cell? ⟨g, o + i * 4 + 3, none⟩ = some (.string r.c) := by
  obtain ⟨g, o, e, _, hc⟩ := h i r.cells (by rw [List.getElem?_map, hi]; rfl)
  exact ⟨g, o, e, hc 0 _ rfl, hc 1 _ rfl, hc 2 _ rfl, hc 3 _ rfl⟩
end Go.Proofs.Ytpnfjjgihkmjmaa

/-
  TRIPLES AGAINST THE DOCUMENT's (becklaw04.Is), where they are the same.
-/
namespace Go.Proofs.Ytpnfjjgihkmjmaa
open Go.RowKit
set_option linter.unusedVariables false
set_option linter.unusedSimpArgs false

theorem dtV_at {B : Nat} {W : World} {v : Value} {L : List (List Tm)} (h : DtV B W v L) (h3 : ∀ ts ∈ L, ts.length = 3) {i : Nat} {ts : List Tm} (hi : L[i]? = some ts) :
    ∃ g cap, v = .slice (some ⟨g, 0, none⟩) L.length cap ∧ g < W.heap.size ∧ ∀ (d : Nat) (u : Value), (ts.flatMap c4)[d]? = some u → W.cell? ⟨g, i * 12 + d, none⟩ = some u := by
  rcases id h.2 with ⟨hv, hl⟩ | ⟨g, cap, cur, hv, _⟩
  · have := (List.getElem?_eq_some_iff.1 hi).1
    omega
  · have h12 : ∀ y ∈ L, (y.flatMap c4).length = 12 := fun y hy => by
      have := h3 y hy
      match y, this with
      | [a, b, c], _ => rfl
    refine ⟨g, cap, hv, (World.ownsRow.lt h g (by rw [hv]; rfl)).2, fun d u hu => ?_⟩
    have hd : d < 12 := by have := (List.getElem?_eq_some_iff.1 hu).1; rw [h12 ts (List.mem_of_getElem? hi)] at this; exact this
    have h1 := flat_at (f := fun ts : List Tm => ts.flatMap c4) L i d _ h12 hi hd
    have := World.ownsRow.cells h (g := g) (by rw [hv]; rfl) (i * 12 + d) u (by rw [← hu]; exact h1)
    rwa [at_add, Nat.zero_add] at this
theorem neqT4s (k : Int) (a b c : ByteArray) (w : World) : (binOp .neq 32 (F4 k a b c) (F4 k a b c)).run Try.prog w = .ok (.bool false) w := by
  go_simp
def IsI (w : World) (n : Nat) (g : Nat) (s13 : Value) (wr : World) : Prop := ∃ i : Nat, i + g = n ∧ s13 = .int .i64 i ∧ Below w.heap.size w wr
set_option maxRecDepth 100000 in
set_option maxHeartbeats 8000000 in
theorem nis_same (L : List (List Tm)) (h3 : ∀ ts ∈ L, ts.length = 3 ∧ ∀ t ∈ ts, t.kind < 3) (hn : L.length ≤ 1000000) {B B' : Nat} {va vb : Value} (w : World) (hA : TrsV B w va L) (hD : DtV B' w vb L) :
    Calls Try.prog 24 #[va, vb] w fun e w' => e = .returned (.bool true) ∧ Below w.heap.size w w' := by
  obtain ⟨A, cp, rfl⟩ := hA.shape
  obtain ⟨A2, cp2, rfl⟩ := hD.shape
  have HA := Lib.hid hA
  have HD := Lib.hid hD
  have H3 := Lib.hid h3
  have HN := Lib.hid hn
  have hln : ((L.length : Int) != (L.length : Int)) = false := by simp
  clear hA hD h3 hn
  go_enter Try.func24, Try.ntmps24
  go_wp2
  go_loopg [13] L.length (fun g s13 wr => IsI w L.length g s13 wr)
  case atStart => exact ⟨0, by omega, rfl, Below.refl _ _⟩
  case round =>
    obtain ⟨i, hig, rfl, hB⟩ := hrel
    cases gk with
    | zero =>
      have hin : ¬ (i : Int) < (L.length : Int) := by omega
      clear hig
      go_wp2
      go_ret
      exact ⟨rfl, hB⟩
    | succ g =>
      have hin : (i : Int) < (L.length : Int) := by omega
      have hi0 : (0 : Int) ≤ (i : Int) := by omega
      obtain ⟨ts, hts⟩ : ∃ ts, L[i]? = some ts := ⟨_, List.getElem?_eq_getElem (by omega)⟩
      have h3 := H3.out ts (List.mem_of_getElem? hts)
      obtain ⟨x0, x1, x2, rfl⟩ : ∃ a b c, ts = [a, b, c] := by
        match ts, h3.1 with
        | [a, b, c], _ => exact ⟨a, b, c, rfl⟩
      obtain ⟨ga, ca, ea, hga, p0, p1, p2⟩ := trsV_at HA.out (fun ts h => (H3.out ts h).1) hts
      obtain ⟨gb, cb, eb, hgb, hq⟩ := dtV_at HD.out (fun ts h => (H3.out ts h).1) hts
      injection ea with ea1 ea2 ea3
      injection eb with eb1 eb2 eb3
      subst ea1 ea3 eb1 eb3
      have kk0 := h3.2 x0 (by simp)
      have kk1 := h3.2 x1 (by simp)
      have kk2 := h3.2 x2 (by simp)
      obtain ⟨t0, v0, e0⟩ := iface_of kk0
      obtain ⟨t1, v1, e1⟩ := iface_of kk1
      obtain ⟨t2, v2, e2⟩ := iface_of kk2
      have c0 := lref_any x0
      have c1 := lref_any x1
      have c2 := lref_any x2
      rw [e0] at p0 c0
      rw [e1] at p1 c1
      rw [e2] at p2 c2
      obtain ⟨k0, hk0⟩ : ∃ y, y = x0.kind := ⟨_, rfl⟩
      obtain ⟨a0, ha0⟩ : ∃ y, y = x0.ta := ⟨_, rfl⟩
      obtain ⟨b0, hb0⟩ : ∃ y, y = x0.tb := ⟨_, rfl⟩
      obtain ⟨d0, hd0⟩ : ∃ y, y = x0.tc := ⟨_, rfl⟩
      obtain ⟨k1, hk1⟩ : ∃ y, y = x1.kind := ⟨_, rfl⟩
      obtain ⟨a1, ha1⟩ : ∃ y, y = x1.ta := ⟨_, rfl⟩
      obtain ⟨b1, hb1⟩ : ∃ y, y = x1.tb := ⟨_, rfl⟩
      obtain ⟨d1, hd1⟩ : ∃ y, y = x1.tc := ⟨_, rfl⟩
      obtain ⟨k2, hk2⟩ : ∃ y, y = x2.kind := ⟨_, rfl⟩
      obtain ⟨a2, ha2⟩ : ∃ y, y = x2.ta := ⟨_, rfl⟩
      obtain ⟨b2, hb2⟩ : ∃ y, y = x2.tb := ⟨_, rfl⟩
      obtain ⟨d2, hd2⟩ : ∃ y, y = x2.tc := ⟨_, rfl⟩
      rw [← hk0, ← ha0, ← hb0, ← hd0] at c0
      rw [← hk1, ← ha1, ← hb1, ← hd1] at c1
      rw [← hk2, ← ha2, ← hb2, ← hd2] at c2
      have q0 : w.cell? ⟨gb, i * 12, none⟩ = some (.int .i64 k0) := by rw [hk0]; exact hq 0 _ rfl
      have q1 : w.cell? ⟨gb, i * 12 + 1, none⟩ = some (.string a0) := by rw [ha0]; exact hq 1 _ rfl
      have q2 : w.cell? ⟨gb, i * 12 + 2, none⟩ = some (.string b0) := by rw [hb0]; exact hq 2 _ rfl
      have q3 : w.cell? ⟨gb, i * 12 + 3, none⟩ = some (.string d0) := by rw [hd0]; exact hq 3 _ rfl
      have q4 : w.cell? ⟨gb, i * 12 + 4, none⟩ = some (.int .i64 k1) := by rw [hk1]; exact hq 4 _ rfl
      have q5 : w.cell? ⟨gb, i * 12 + 5, none⟩ = some (.string a1) := by rw [ha1]; exact hq 5 _ rfl
      have q6 : w.cell? ⟨gb, i * 12 + 6, none⟩ = some (.string b1) := by rw [hb1]; exact hq 6 _ rfl
      have q7 : w.cell? ⟨gb, i * 12 + 7, none⟩ = some (.string d1) := by rw [hd1]; exact hq 7 _ rfl
      have q8 : w.cell? ⟨gb, i * 12 + 8, none⟩ = some (.int .i64 k2) := by rw [hk2]; exact hq 8 _ rfl
      have q9 : w.cell? ⟨gb, i * 12 + 9, none⟩ = some (.string a2) := by rw [ha2]; exact hq 9 _ rfl
      have q10 : w.cell? ⟨gb, i * 12 + 10, none⟩ = some (.string b2) := by rw [hb2]; exact hq 10 _ rfl
      have q11 : w.cell? ⟨gb, i * 12 + 11, none⟩ = some (.string d2) := by rw [hd2]; exact hq 11 _ rfl
      have K : ∀ W, Below w.heap.size w W → W.cell? ⟨ga, i * 3, none⟩ = some (.iface t0 v0) ∧ W.cell? ⟨ga, i * 3 + 1, none⟩ = some (.iface t1 v1) ∧ W.cell? ⟨ga, i * 3 + 2, none⟩ = some (.iface t2 v2) ∧ W.cell? ⟨gb, i * 12, none⟩ = some (.int .i64 k0) ∧ W.cell? ⟨gb, i * 12 + 1, none⟩ = some (.string a0) ∧ W.cell? ⟨gb, i * 12 + 2, none⟩ = some (.string b0) ∧ W.cell? ⟨gb, i * 12 + 3, none⟩ = some (.string d0) ∧ W.cell? ⟨gb, i * 12 + 4, none⟩ = some (.int .i64 k1) ∧ W.cell? ⟨gb, i * 12 + 5, none⟩ = some (.string a1) ∧ W.cell? ⟨gb, i * 12 + 6, none⟩ = some (.string b1) ∧ W.cell? ⟨gb, i * 12 + 7, none⟩ = some (.string d1) ∧ W.cell? ⟨gb, i * 12 + 8, none⟩ = some (.int .i64 k2) ∧ W.cell? ⟨gb, i * 12 + 9, none⟩ = some (.string a2) ∧ W.cell? ⟨gb, i * 12 + 10, none⟩ = some (.string b2) ∧ W.cell? ⟨gb, i * 12 + 11, none⟩ = some (.string d2) := fun W hb =>
        ⟨(hb.cell (p := ⟨ga, i * 3, none⟩) hga).trans p0, (hb.cell (p := ⟨ga, i * 3 + 1, none⟩) hga).trans p1, (hb.cell (p := ⟨ga, i * 3 + 2, none⟩) hga).trans p2, (hb.cell (p := ⟨gb, i * 12, none⟩) hgb).trans q0, (hb.cell (p := ⟨gb, i * 12 + 1, none⟩) hgb).trans q1, (hb.cell (p := ⟨gb, i * 12 + 2, none⟩) hgb).trans q2, (hb.cell (p := ⟨gb, i * 12 + 3, none⟩) hgb).trans q3, (hb.cell (p := ⟨gb, i * 12 + 4, none⟩) hgb).trans q4, (hb.cell (p := ⟨gb, i * 12 + 5, none⟩) hgb).trans q5, (hb.cell (p := ⟨gb, i * 12 + 6, none⟩) hgb).trans q6, (hb.cell (p := ⟨gb, i * 12 + 7, none⟩) hgb).trans q7, (hb.cell (p := ⟨gb, i * 12 + 8, none⟩) hgb).trans q8, (hb.cell (p := ⟨gb, i * 12 + 9, none⟩) hgb).trans q9, (hb.cell (p := ⟨gb, i * 12 + 10, none⟩) hgb).trans q10, (hb.cell (p := ⟨gb, i * 12 + 11, none⟩) hgb).trans q11⟩
      have n0 := neqT4s k0 a0 b0 d0
      have n1 := neqT4s k1 a1 b1 d1
      have n2 := neqT4s k2 a2 b2 d2
      have C0 : ∀ {W : World}, Below w.heap.size w W → Calls Try.prog 18 #[.iface t0 v0] W fun e w' => e = .returned (F4 k0 a0 b0 d0) ∧ Below w.heap.size w w' := fun {W} hb => (c0 W).mono fun _ _ ⟨x, y⟩ => ⟨x, hb.trans (y.mono hb.size)⟩
      have C1 : ∀ {W : World}, Below w.heap.size w W → Calls Try.prog 18 #[.iface t1 v1] W fun e w' => e = .returned (F4 k1 a1 b1 d1) ∧ Below w.heap.size w w' := fun {W} hb => (c1 W).mono fun _ _ ⟨x, y⟩ => ⟨x, hb.trans (y.mono hb.size)⟩
      have C2 : ∀ {W : World}, Below w.heap.size w W → Calls Try.prog 18 #[.iface t2 v2] W fun e w' => e = .returned (F4 k2 a2 b2 d2) ∧ Below w.heap.size w w' := fun {W} hb => (c2 W).mono fun _ _ ⟨x, y⟩ => ⟨x, hb.trans (y.mono hb.size)⟩
      have HIG := Lib.hid hig
      clear hig p0 p1 p2 q0 q1 q2 q3 q4 q5 q6 q7 q8 q9 q10 q11 hq c0 c1 c2 e0 e1 e2 kk0 kk1 kk2 hts h3 hk0 ha0 hb0 hd0 hk1 ha1 hb1 hd1 hk2 ha2 hb2 hd2 hga hgb ea2 eb2
      go_wp2
      go_region_held3 (fun W => W.cell? ⟨ga, i * 3, none⟩ = some (.iface t0 v0) ∧ W.cell? ⟨ga, i * 3 + 1, none⟩ = some (.iface t1 v1) ∧ W.cell? ⟨ga, i * 3 + 2, none⟩ = some (.iface t2 v2) ∧ W.cell? ⟨gb, i * 12, none⟩ = some (.int .i64 k0) ∧ W.cell? ⟨gb, i * 12 + 1, none⟩ = some (.string a0) ∧ W.cell? ⟨gb, i * 12 + 2, none⟩ = some (.string b0) ∧ W.cell? ⟨gb, i * 12 + 3, none⟩ = some (.string d0) ∧ W.cell? ⟨gb, i * 12 + 4, none⟩ = some (.int .i64 k1) ∧ W.cell? ⟨gb, i * 12 + 5, none⟩ = some (.string a1) ∧ W.cell? ⟨gb, i * 12 + 6, none⟩ = some (.string b1) ∧ W.cell? ⟨gb, i * 12 + 7, none⟩ = some (.string d1) ∧ W.cell? ⟨gb, i * 12 + 8, none⟩ = some (.int .i64 k2) ∧ W.cell? ⟨gb, i * 12 + 9, none⟩ = some (.string a2) ∧ W.cell? ⟨gb, i * 12 + 10, none⟩ = some (.string b2) ∧ W.cell? ⟨gb, i * 12 + 11, none⟩ = some (.string d2))
        (first | exact K _ (by assumption) | exact K _ (Below.drew (by assumption)))
        (first
          | (go_at_call 18; (with_reducible refine (C0 (by first | assumption | exact Below.drew (by assumption))).mono ?_); rintro e wa ⟨rfl, hBa⟩)
          | (go_at_call 18; (with_reducible refine (C1 (by first | assumption | exact Below.drew (by assumption))).mono ?_); rintro e wb ⟨rfl, hBb⟩)
          | (go_at_call 18; (with_reducible refine (C2 (by first | assumption | exact Below.drew (by assumption))).mono ?_); rintro e wc ⟨rfl, hBc⟩))
      all_goals
        go_wp2
        go_roundg g
        case measure => exact Nat.lt_succ_self g
        case rel => exact ⟨i + 1, by have := HIG.out; omega, by have h9 : i < 1000000 := (by have := HIG.out; have := HN.out; omega); first | rfl | (rw [IntWalk.wrap64_in _ ⟨by omega, by omega⟩, Int.natCast_succ]), by assumption⟩
end Go.Proofs.Ytpnfjjgihkmjmaa
