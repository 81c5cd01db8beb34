/-
  MERGED (a claim has at most 60 files): DCutsW.
-/
import Derived.Test.YtpnfjjgihkmjmaaZ24
import Derived.Test.YtpnfjjgihkmjmaaZ25
import Derived.IntWalk
import Derived.Maps.AppendAt
/-
  DictCuts's walk.
-/
namespace Go.Proofs.Ytpnfjjgihkmjmaa
open Go.RowKit
set_option linter.unusedVariables false
set_option linter.unusedSimpArgs false
set_option maxRecDepth 100000

theorem dintInfo : (Try.prog.info? 3).map (fun i => (i.zero, i.size, i.bytes)) = some (some (.int .i64 0), 1, 8) := by kernel_rfl
/-- The first pass, i terms behind it. -/
def C1 (W0 : World) (d m : Nat) (ts : List Tm) (n : Nat) (g : Nat) (s7 s33 : Value) (wr : World) : Prop :=
  ∃ (i : Nat) (v : Value) (A : Option Addr) (c : Nat), i + g = n ∧ s33 = .int .i64 i ∧ s7 = .slice A i c ∧ Ck W0 d m 50 v (dicts 50 ts i) (.slice A i c) (nums 50 ts i) wr
/-- The second one. -/
def C2 (W0 : World) (d m : Nat) (ts : List Tm) (L : List Tm) (n f : Nat) (A : Option Addr) (c : Nat) (g : Nat) (s7 s33 : Value) (wr : World) : Prop :=
  ∃ (i : Nat) (v : Value), i + g = n ∧ s33 = .int .i64 i ∧ s7 = .slice A n c ∧ Ck W0 d m 50 v (L.take (max f (dicts 50 ts i).length)) (.slice A n c) (nums 50 ts n) wr
/-- Round by round of the passes. -/
def C0 (W0 : World) (d m : Nat) (ts : List Tm) (L : List Tm) (n f : Nat) (g : Nat) (s7 s8 : Value) (wr : World) : Prop :=
  (g = 2 ∧ s8 = .int .i64 0 ∧ s7 = .slice none 0 0 ∧ ∃ v, Ck W0 d m 50 v [] (.slice none 0 0) [] wr) ∨
  (g = 1 ∧ s8 = .int .i64 1 ∧ ∃ A c v, s7 = .slice A n c ∧ Ck W0 d m 50 v (L.take f) (.slice A n c) (nums 50 ts n) wr) ∨
  (g = 0 ∧ s8 = .int .i64 2 ∧ Below W0.heap.size W0 wr)
theorem c1_step {W0 : World} {d m n : Nat} {ts : List Tm} {i g : Nat} {t : Tm} (hig : i + (g + 1) = n) (ht : ts[i]? = some t) {v : Value} {A : Option Addr} {c : Nat} {s33 : Value} {W : World} (hs : s33 = .int .i64 ((i + 1 : Nat) : Int))
    (h : Ck W0 d m 50 v (putP 50 (dicts 50 ts i) t).1 (.slice A (i + 1) c) (nums 50 ts i ++ [(putP 50 (dicts 50 ts i) t).2.1]) W) : C1 W0 d m ts n g (.slice A (i + 1) c) s33 W := by
  refine ⟨i + 1, v, A, c, by omega, hs, rfl, ?_⟩
  rw [dicts_some 50 ht, nums_succ]
  have e : num 50 ts i = (putP 50 (dicts 50 ts i) t).2.1 := by unfold num; rw [ht]
  rw [e]
  exact h
set_option maxHeartbeats 32000000 in
theorem dcuts_walk (l : List Dw) (hl : ∀ t ∈ l, t.ok) (A : Option Addr) (cap : Nat) (hc : l.length ≤ cap) (hm : cap ≤ maxLen) (at_ : Int) (h0 : -9223372036854775808 ≤ at_) (h1 : at_ ≤ 9223372036854775807) (w : World) (hs : SlAt w A 4 (l.map Dw.cells)) :
    Calls Try.prog 6 #[.slice A l.length cap, .int .i64 at_] w fun e w' => e = .returned (.bool true) ∧ Below w.heap.size w w' := by
  have cA : ∀ {W : World}, Below w.heap.size w W → Calls Try.prog 8 #[] W fun e w' => e = .returned (.bool true) ∧ Below w.heap.size w w' := fun {W} hb => (dawake_ok W).mono fun _ _ ⟨x, y⟩ => ⟨x, hb.trans (y.mono hb.size)⟩
  have hB0 : Below w.heap.size w w := Below.refl _ _
  by_cases hz : 40 < l.length
  · have hzI : (40 : Int) < (l.length : Int) := by omega
    clear hz hl hc hm hs
    go_enter Try.func6, Try.ntmps6
    go_wp2_with (first
      | (go_at_call 8; (with_reducible refine (cA hB0).mono ?_); rintro e w1 ⟨rfl, hB1⟩)
      | (go_at_call 8; (with_reducible refine (cA hB1).mono ?_); rintro e w2 ⟨rfl, hB2⟩))
    go_ret
    exact ⟨rfl, by assumption⟩
  have hzI : ¬ (40 : Int) < (l.length : Int) := by omega
  obtain ⟨i0, hi0, hi1, hi2, hi3⟩ := info_parts dintInfo
  obtain ⟨ts, hts⟩ : ∃ ts, ts = plL l := ⟨_, rfl⟩
  obtain ⟨n, hn⟩ : ∃ n, n = l.length := ⟨_, rfl⟩
  have hn40 : n ≤ 40 := by omega
  obtain ⟨L, hL⟩ : ∃ L, L = dicts 50 ts n := ⟨_, rfl⟩
  have hLn : L.length ≤ n := by rw [hL]; exact dicts_len 50 ts n
  obtain ⟨f, hf⟩ : ∃ f, f = cutF at_ L.length := ⟨_, rfl⟩
  have hfl : f ≤ L.length := by rw [hf]; exact cutF_le _ _
  have hel : ∀ i, i < n → ∃ k a b c, (-9223372036854775808 ≤ k ∧ k ≤ 9223372036854775807) ∧ ts[i]? = some (pl3 k a b c) ∧ (shortD a b c = true → (pl3 k a b c).few) ∧ ∀ {W : World}, Below w.heap.size w W → ∃ g o, A = some ⟨g, o, none⟩ ∧ W.cell? ⟨g, o + i * 4, none⟩ = some (.int .i64 k) ∧ W.cell? ⟨g, o + i * 4 + 1, none⟩ = some (.string a) ∧ W.cell? ⟨g, o + i * 4 + 2, none⟩ = some (.string b) ∧ W.cell? ⟨g, o + i * 4 + 3, none⟩ = some (.string c) := fun i hi => by
    obtain ⟨r, hr⟩ : ∃ r, l[i]? = some r := ⟨_, List.getElem?_eq_getElem (by omega)⟩
    exact ⟨r.k, r.a, r.b, r.c, (hl r (List.mem_of_getElem? hr)).1, by rw [hts]; exact plL_at hr, short_few, fun {W} hb => sl_at4 (hs.below hb) hr⟩
  have hmm := cutF_int at_ L.length
  rw [← hf] at hmm
  obtain ⟨M, hM⟩ : ∃ M, M = max at_ 0 := ⟨_, rfl⟩
  have hmx : ∀ (ts : Array TypeId) (ty : TypeId) w, (Builtin.max_ ts ty #[.int .i64 at_, .int .i64 0]).run Try.prog w = .ok (.int .i64 M) w := fun ts ty w => by
    rw [run_max_int2, hM]
    congr 2
    split <;> omega
  have hmn : ∀ (ts : Array TypeId) (ty : TypeId) w, (Builtin.min_ ts ty #[.int .i64 M, .int .i64 (L.length : Int)]).run Try.prog w = .ok (.int .i64 (f : Int)) w := fun ts ty w => by
    rw [run_min_int2, ← hmm, ← hM]
    congr 2
    split <;> omega
  have cC : ∀ {W0 W : World} {d m : Nat} {v : Value}, Dc W0.heap.size d m 50 v L W → Calls Try.prog 26 #[.pointer (some ⟨d, 0, none⟩), .int .i64 at_] W fun e w' => ∃ v', e = .returned (.int .i64 ((L.length : Int) - (f : Int))) ∧ Dc W0.heap.size d m 50 v' (L.take f) w' ∧ Tn d m v v' W w' := fun {W0 W d m v} h => by
    have := dcut_any h (by omega) at_
    rw [← hf] at this
    exact this.mono fun e w' ⟨v', e1, h1, h2⟩ => ⟨v', by rw [e1]; congr 2; omega, h1, h2⟩
  have cL1 : ∀ {W0 W : World} {d m : Nat} {v : Value}, Dc W0.heap.size d m 50 v L W → Calls Try.prog 31 #[.pointer (some ⟨d, 0, none⟩)] W fun e w' => e = .returned (.int .i64 L.length) ∧ w' = W := fun {W0 W d m v} h => dlen_any h (by omega)
  have cL2 : ∀ {W0 W : World} {d m : Nat} {v : Value}, Dc W0.heap.size d m 50 v (L.take f) W → Calls Try.prog 31 #[.pointer (some ⟨d, 0, none⟩)] W fun e w' => e = .returned (.int .i64 (f : Int)) ∧ w' = W := fun {W0 W d m v} h => by
    have e : ((L.take f).length : Int) = f := by rw [List.length_take]; omega
    have := dlen_any h (by omega)
    rw [e] at this
    exact this
  have cN := fun W => dnew_ok 50 (by decide) (by decide) W
  have hagain := fun (i : Nat) (t : Tm) (hi : i < n) (ht : ts[i]? = some t) => again_step 50 ts hi (by omega) ht f
  rw [← hL] at hagain
  rw [← hn] at hzI ⊢
  have HEL := Lib.hid hel
  have HAG := Lib.hid hagain
  have HN := Lib.hid hn40
  have HL := Lib.hid hL
  have HLN := Lib.hid hLn
  have HF := Lib.hid hfl
  have hfz : (0 : Int) ≤ (f : Int) := by omega
  have hfz2 : (f : Int) ≤ (L.length : Int) := by omega
  have hLz : (L.length : Int) ≤ 40 := by omega
  clear hz hl hc hm hs hel hagain hn40 hL hLn hf hfl hts hn hmm hM
  go_enter Try.func6, Try.ntmps6
  go_wp2_with (first
    | (go_at_call 8; (with_reducible refine (cA hB0).mono ?_); rintro e w1 ⟨rfl, hB1⟩)
    | (go_at_call 9; (with_reducible refine (cN _).mono ?_); rintro e w2 ⟨d, m, rfl, hD2, hb2⟩))
  have HB1 := Lib.hid hB1
  have hstart : C0 w1 d m ts L n f 2 (.slice none 0 0) (.int .i64 0) w2 := .inl ⟨rfl, rfl, rfl, _, hb2, hD2, World.ownsRow_nil _ _ _ _⟩
  have HST := Lib.hid hstart
  clear hB0 hB1 hD2 hb2 cA cN hstart
  go_loopg [7, 8] 2 (fun g s7 s8 wr => C0 w1 d m ts L n f g s7 s8 wr)
  case atStart => exact HST.out
  case round =>
    clear HST
    rcases hrel with ⟨rfl, rfl, rfl, v, hK⟩ | ⟨rfl, rfl, A7, c7, v, rfl, hK⟩ | ⟨rfl, rfl, hB⟩
    · have HK0 := Lib.hid hK
      clear hK
      go_wp2
      go_loopg [7, 33] n (fun g s7 s33 wr => C1 w1 d m ts n g s7 s33 wr)
      case atStart => exact ⟨0, v, none, 0, by omega, rfl, rfl, HK0.out⟩
      case round =>
        clear HK0
        obtain ⟨i, v5, A5, c5, hig, rfl, rfl, hK5⟩ := hrel
        cases gk with
        | zero =>
          obtain rfl : i = n := by omega
          have hin : ¬ (i : Int) < (i : Int) := by omega
          rw [← HL.out] at hK5
          have hD5 := hK5.dc
          have HK5 := Lib.hid hK5
          clear hK5 hig
          go_wp2_with (first
            | (go_at_call 31; (with_reducible refine (cL1 hD5).mono ?_); rintro e w5 ⟨rfl, rfl⟩)
            | (go_at_call 26; (with_reducible refine (cC hD5).mono ?_); rintro e w6 ⟨v6, rfl, hD6, hT6⟩)
            | (go_at_call 31; (with_reducible refine (cL2 hD6).mono ?_); rintro e w7 ⟨rfl, rfl⟩))
          go_roundg 1
          case measure => exact (by decide : 1 < 2)
          case rel => exact .inr (.inl ⟨rfl, rfl, A5, c5, v6, rfl, HK5.out.turn hD6 hT6⟩)
        | succ g =>
          have hin : (i : Int) < (n : Int) := by omega
          have hiz : (0 : Int) ≤ (i : Int) := by omega
          obtain ⟨k, a, b, c, hkb, hti, hfew, hcell⟩ := HEL.out i (by omega)
          obtain ⟨gg, og, rfl, q0, q1, q2, q3⟩ := hcell (HB1.out.trans (hK5.b.mono HB1.out.size))
          have hC0 := Cb.mk' hK5 k a b c
          have cS := dshort_any k a b c
          have hi9 : i < 40 := by have := HN.out; omega
          cases hsh : shortD a b c with
          | false =>
            rw [hsh] at cS
            clear hcell hfew hti hkb hsh
            go_wp2_with (go_at_call 10; (with_reducible refine (cS _).mono ?_); rintro e w6 ⟨rfl, hb6⟩)
            (try rw [Exit.noGoto_ret])
            go_ret
            exact ⟨rfl, HB1.out.trans ((hC0.below hb6).ck.b.mono HB1.out.size)⟩
          | true =>
            rw [hsh] at cS
            have cPl := plain3_any k hkb a b c
            have cR := pl3_real k a b c
            have hfw := hfew hsh
            have cPu : ∀ {W : World}, Cb w1 d m 50 v5 (dicts 50 ts i) (.slice A5 i c5) (nums 50 ts i) wr.heap.size k a b c W → Calls Try.prog 14 #[.pointer (some ⟨d, 0, none⟩), (pl3 k a b c).val] W (PutPost w1.heap.size d m 50 v5 W (putP 50 (dicts 50 ts i) (pl3 k a b c))) := fun {W} h => dput_any h.ck.dc h.ck.b.size (by have := dicts_len 50 ts i; omega) _ hfw
            have hst := fun (v : Value) (A : Option Addr) (c : Nat) (s33 : Value) (W : World) (hs : s33 = .int .i64 ((i + 1 : Nat) : Int)) => c1_step (W0 := w1) (d := d) (m := m) (v := v) (A := A) (c := c) (W := W) hig hti hs
            generalize putP 50 (dicts 50 ts i) (pl3 k a b c) = r at cPu hst
            obtain ⟨r1, r2, r3⟩ := r
            dsimp only at hst
            unfold PutPost at cPu
            dsimp only at cPu
            have HST := Lib.hid hst
            have HNL := Lib.hid (nums_len 50 ts i)
            generalize (pl3 k a b c).val = tv at cR cPu
            generalize pl3 k a b c = t at cPl cR
            generalize nums 50 ts i = N at *
            generalize dicts 50 ts i = D at *
            clear hcell hfew hti hkb hsh hfw hst hig
            go_wp2_with (first
              | (go_at_call 10; (with_reducible refine (cS _).mono ?_); rintro e w6 ⟨rfl, hb6⟩; have hC6 := hC0.below hb6; obtain ⟨x0, x1, x2, x3⟩ := hC6.cells)
              | (go_at_call 11; (with_reducible refine (cPl _).mono ?_); rintro e w7 ⟨rfl, hb7⟩; have hC7 := hC6.below hb7)
              | (go_at_call 12; (with_reducible refine (cR _).mono ?_); rintro e w8 ⟨rfl, hb8⟩; have hC8 := hC7.below hb8)
              | (go_at_call 14; (with_reducible refine (cPu hC8).mono ?_); rintro e w9 ⟨v9, rfl, hD9, hT9⟩; have hC9 := (hC8.turn hD9 hT9).ck)
              | (at_builtin; refine wpList_append_lies _ rfl _ _ 76 rfl w1.heap.size 3 i0 (.int .i64 0) 1 8 Try.underlying76 hi0 hi1 hi2 hi3 rfl (by decide) _ _ _ rfl ((hC9.row HNL.out).alloc _) ⟨w9.heap.size, 0, none⟩ 1 1 [.int .i64 r2] rfl rfl (cell_one_new _ _ _) (fun u hu => by simp at hu; subst hu; rfl) (by decide) (by unfold maxLen; omega) (by omega) (by have := hC9.b.size; simp; omega) _ rfl ?_; intro g5 c7 w10 hown hgrow hloc hg5; have hC10 := (hC9.below ((Below.refl _ _).alloc (Nat.le_refl _) _)).app (n := i + 1) (by rw [HNL.out]) rfl hown hgrow))
            go_roundg g
            case measure => exact Nat.lt_succ_self g
            case rel => exact HST.out _ _ _ _ _ (by first | rfl | (rw [IntWalk.wrap64_in _ ⟨by omega, by omega⟩, Int.natCast_succ])) hC10
    · have HK0 := Lib.hid hK
      clear hK
      go_wp2
      go_loopg [7, 33] n (fun g s7 s33 wr => C2 w1 d m ts L n f A7 c7 g s7 s33 wr)
      case atStart => exact ⟨0, v, by omega, rfl, rfl, by rw [show (dicts 50 ts 0).length = 0 from rfl, Nat.max_eq_left (Nat.zero_le _)]; exact HK0.out⟩
      case round =>
        clear HK0
        obtain ⟨i, v5, hig, rfl, rfl, hK5⟩ := hrel
        cases gk with
        | zero =>
          obtain rfl : i = n := by omega
          have hin : ¬ (i : Int) < (i : Int) := by omega
          have HK5 := Lib.hid hK5
          clear hK5 hig
          go_wp2
          go_roundg 0
          case measure => exact (by decide : 0 < 1)
          case rel => exact .inr (.inr ⟨rfl, rfl, HK5.out.b⟩)
        | succ g =>
          have hin : (i : Int) < (n : Int) := by omega
          have hiz : (0 : Int) ≤ (i : Int) := by omega
          have hx := nums_at 50 ts (show i < n by omega)
          obtain ⟨gw, cw, ev, _⟩ := hK5.at hx
          injection ev with ev ev2 ev3
          clear ev2 ev3
          subst ev
          obtain ⟨k, a, b, c, hkb, hti, hfew, hcell⟩ := HEL.out i (by omega)
          obtain ⟨gg, og, rfl, q0, q1, q2, q3⟩ := hcell (HB1.out.trans (hK5.b.mono HB1.out.size))
          have hC0 := Cb.mk' hK5 k a b c
          have cS := dshort_any k a b c
          have hi9 : i < 40 := by have := HN.out; omega
          cases hsh : shortD a b c with
          | false =>
            rw [hsh] at cS
            clear hcell hfew hti hkb hsh
            go_wp2_with (go_at_call 10; (with_reducible refine (cS _).mono ?_); rintro e w6 ⟨rfl, hb6⟩)
            (try rw [Exit.noGoto_ret])
            go_ret
            exact ⟨rfl, HB1.out.trans ((hC0.below hb6).ck.b.mono HB1.out.size)⟩
          | true =>
            rw [hsh] at cS
            have cPl := plain3_any k hkb a b c
            have cR := pl3_real k a b c
            have hfw := hfew hsh
            have cPu : ∀ {W : World}, Cb w1 d m 50 v5 (L.take (max f (dicts 50 ts i).length)) (.slice (some ⟨gw, 0, none⟩) n c7) (nums 50 ts n) wr.heap.size k a b c W → Calls Try.prog 14 #[.pointer (some ⟨d, 0, none⟩), (pl3 k a b c).val] W (PutPost w1.heap.size d m 50 v5 W (putP 50 (L.take (max f (dicts 50 ts i).length)) (pl3 k a b c))) := fun {W} h => dput_any h.ck.dc h.ck.b.size (by have := HLN.out; rw [List.length_take]; omega) _ hfw
            rw [HAG.out i _ (by omega) hti] at cPu
            unfold PutPost at cPu
            dsimp only at cPu
            have HST := Lib.hid (show ∀ (v : Value) (s33 : Value) (W : World), s33 = .int .i64 ((i + 1 : Nat) : Int) → Ck w1 d m 50 v (L.take (max f (dicts 50 ts (i + 1)).length)) (.slice (some ⟨gw, 0, none⟩) n c7) (nums 50 ts n) W → C2 w1 d m ts L n f (some ⟨gw, 0, none⟩) c7 g (.slice (some ⟨gw, 0, none⟩) n c7) s33 W from fun v s33 W hs h => ⟨i + 1, v, by omega, hs, rfl, h⟩)
            generalize (putP 50 (dicts 50 ts i) (pl3 k a b c)).2.2 = r3 at cPu
            generalize (pl3 k a b c).val = tv at cR cPu
            generalize pl3 k a b c = t at cPl cR
            have HX := Lib.hid hx
            generalize num 50 ts i = x at cPu HX
            generalize L.take (max f (dicts 50 ts i).length) = D at *
            generalize L.take (max f (dicts 50 ts (i + 1)).length) = D2 at *
            clear hcell hfew hti hkb hsh hfw hx hig
            go_wp2_with (first
              | (go_at_call 10; (with_reducible refine (cS _).mono ?_); rintro e w6 ⟨rfl, hb6⟩; have hC6 := hC0.below hb6; obtain ⟨x0, x1, x2, x3⟩ := hC6.cells)
              | (go_at_call 11; (with_reducible refine (cPl _).mono ?_); rintro e w7 ⟨rfl, hb7⟩; have hC7 := hC6.below hb7)
              | (go_at_call 12; (with_reducible refine (cR _).mono ?_); rintro e w8 ⟨rfl, hb8⟩; have hC8 := hC7.below hb8)
              | (go_at_call 14; (with_reducible refine (cPu hC8).mono ?_); rintro e w9 ⟨v9, rfl, hD9, hT9⟩; have hC9 := (hC8.turn hD9 hT9).ck; have hwx := hC9.cell HX.out))
            go_roundg g
            case measure => exact Nat.lt_succ_self g
            case rel => exact HST.out _ _ _ (by first | rfl | (rw [IntWalk.wrap64_in _ ⟨by omega, by omega⟩, Int.natCast_succ])) hC9
    · go_wp2
      go_ret
      exact ⟨rfl, HB1.out.trans (hB.mono HB1.out.size)⟩
end Go.Proofs.Ytpnfjjgihkmjmaa
