/-
  NfaDeep: the walk.
-/
import Derived.Test.YtcbdgbcphfimlaaNfAw
import Derived.IntWalk
namespace Go.Proofs.Ytcbdgbcphfimlaa
open Go.RowKit
set_option linter.unusedVariables false
set_option linter.unusedSimpArgs false
set_option maxRecDepth 100000

/-- A chain whose blocks lie from a place on. -/
def ChB (B : Nat) (W : World) (N : Int) : List Int → Pa → Prop
  | [], p => p.kd = 0 ∧ p.n = N ∧ p.s = .slice none 0 0
  | k :: ks, p => p.kd = k ∧ p.n = 0 ∧ ∃ b q, p.s = .slice (some ⟨b, 0, none⟩) 1 1 ∧ B ≤ b ∧ Fb W b 28 q.cs ∧ ChB B W N ks q
theorem ChB.chn {B : Nat} {W : World} {N : Int} : ∀ {ks : List Int} {p : Pa}, ChB B W N ks p → Chn W N ks p
  | [], _, h => h
  | k :: ks, p, ⟨h1, h2, b, q, h3, _, h4, h5⟩ => ⟨h1, h2, b, q, h3, h4, ChB.chn h5⟩
theorem ChB.keep {B : Nat} {W W' : World} {N : Int} (hk : ∀ k cs, B ≤ k → Fb W k 28 cs → Fb W' k 28 cs) : ∀ {ks : List Int} {p : Pa}, ChB B W N ks p → ChB B W' N ks p
  | [], _, h => h
  | k :: ks, p, ⟨h1, h2, b, q, h3, hB, h4, h5⟩ => ⟨h1, h2, b, q, h3, hB, hk b _ hB h4, ChB.keep hk h5⟩
/-- The loop: p's block, and what it is by now. -/
structure Dp (W : World) (pb i : Nat) (ks : List Int) (kd nn : Int) (A : Option Addr) (m c : Nat) (wr : World) : Prop where
  b : Below W.heap.size W wr
  hp : W.heap.size ≤ pb
  p : Fb wr pb 28 #[.int .i64 kd, .int .i64 nn, .slice A m c]
  k : Kd ks
  l : ks.length + 1 = i
  ch : ChB (pb + 1) wr 2 ks ⟨kd, nn, .slice A m c⟩
theorem Dp.next {W : World} {pb i : Nat} {ks : List Int} {kd nn : Int} {A : Option Addr} {m c : Nat} {wr : World} (h : Dp W pb i ks kd nn A m c wr) {k : Int} (hk : 2 ≤ k ∧ k ≤ 6) :
    Dp W pb (i + 1) (k :: ks) k 0 (some ⟨wr.heap.size, 0, none⟩) 1 1 ((((wr.alloc (.cells #[.int .i64 kd, .int .i64 nn, .slice A m c] 28)).setCell ⟨pb, 0, none⟩ (.int .i64 k)).setCell ⟨pb, 1, none⟩ (.int .i64 0)).setCell ⟨pb, 2, none⟩ (.slice (some ⟨wr.heap.size, 0, none⟩) 1 1)) := by
  have hlt := h.p.lt
  have far : ∀ q cs, pb + 1 ≤ q → Fb (wr.alloc (.cells #[.int .i64 kd, .int .i64 nn, .slice A m c] 28)) q 28 cs → Fb ((((wr.alloc (.cells #[.int .i64 kd, .int .i64 nn, .slice A m c] 28)).setCell ⟨pb, 0, none⟩ (.int .i64 k)).setCell ⟨pb, 1, none⟩ (.int .i64 0)).setCell ⟨pb, 2, none⟩ (.slice (some ⟨wr.heap.size, 0, none⟩) 1 1)) q 28 cs :=
    fun q cs hq hf => ((hf.far 0 _ (by omega)).far 1 _ (by omega)).far 2 _ (by omega)
  refine ⟨(((h.b.alloc h.b.size _).setCell h.hp _).setCell h.hp _).setCell h.hp _, h.hp, (((h.p.alloc _).set 0 _).set 1 _).set 2 _, fun x hx => ?_, by rw [List.length_cons, h.l], rfl, rfl, wr.heap.size, ⟨kd, nn, .slice A m c⟩, rfl, by omega, ?_, ?_⟩
  · rcases List.mem_cons.1 hx with rfl | hx
    · exact hk
    · exact h.k x hx
  · exact far _ _ (by omega) (Fb.new wr _ _)
  · exact h.ch.keep fun q cs hq hf => far q cs hq (hf.alloc _)
theorem u12 {x : Int} (h : 0 ≤ x ∧ x ≤ 255) : 0 ≤ x.tmod 12 ∧ x.tmod 12 ≤ 11 := by
  rw [Int.tmod_eq_emod_of_nonneg h.1]; omega
theorem u5 {x : Int} (h : 0 ≤ x ∧ x ≤ 255) : 0 ≤ x.tmod 5 ∧ x.tmod 5 ≤ 4 := by
  rw [Int.tmod_eq_emod_of_nonneg h.1]; omega
def DpR (W : World) (pb D : Nat) (g : Nat) (s7 : Value) (wr : World) : Prop := ∃ i ks kd nn A m c, i + g = D ∧ s7 = .int .i64 (i : Int) ∧ Dp W pb i ks kd nn A m c wr
set_option maxHeartbeats 16000000 in
theorem deep_walk (l : List Int) (hl : ∀ x ∈ l, 0 ≤ x ∧ x ≤ 255) (A : Option Addr) (cap : Nat) (hlc : l.length ≤ cap) (hcm : cap ≤ maxLen) (x : Int) (bd : 0 ≤ x ∧ x ≤ 255) (W : World)
    (hat : ∀ (j : Nat) (x : Int), l[j]? = some x → ∃ g o, A = some ⟨g, o, none⟩ ∧ g < W.heap.size ∧ W.cell? ⟨g, o + j, none⟩ = some (.int .u8 x)) :
    Calls Try.prog 5 #[.int .u8 x, .slice A l.length cap] W fun e w' => e = .returned (.bool true) ∧ Below W.heap.size W w' := by
  have cA := fawake_any W
  have HBD := Lib.hid bd
  obtain ⟨bd0, bd1⟩ := bd
  obtain ⟨r0, r1⟩ := u12 ⟨bd0, bd1⟩
  have HL := Lib.hid hl
  have HAT := Lib.hid hat
  have hm9 : (l.length : Int) ≤ 9223372036854775807 := by unfold maxLen at hcm; omega
  have hm0 : (0 : Int) ≤ (l.length : Int) := by omega
  clear hl hat
  by_cases h100 : 100 < l.length
  · have hz : ((100 : Int) < (l.length : Int)) := by omega
    go_enter Try.func5, Try.ntmps5
    go_wp2_with (go_at_call 11; first | ((with_reducible refine cA.mono ?_); rintro e w1 ⟨rfl, hb⟩; have cA2 := fawake_any w1; have HB1 := Lib.hid hb; clear hb) | ((with_reducible refine cA2.mono ?_); rintro e w2 ⟨rfl, hb⟩; have HB2 := Lib.hid (HB1.out.trans (hb.mono HB1.out.size)); clear hb))
    go_ret
    exact ⟨rfl, HB2.out⟩
  · have hz : ¬ ((100 : Int) < (l.length : Int)) := by omega
    obtain ⟨r, hr⟩ : ∃ r : Nat, (r : Int) = x % 12 := ⟨(x % 12).toNat, by omega⟩
    have r2 : (0 : Int) ≤ (r : Int) := by omega
    have r3 : (r : Int) ≤ 11 := by omega
    have h100' : (l.length : Int) ≤ 100 := by omega
    have HR := Lib.hid (show r ≤ 11 by omega)
    clear h100 r0 r1
    go_enter Try.func5, Try.ntmps5
    go_wp2_with (go_at_call 11; (with_reducible refine cA.mono ?_); rintro e w1 ⟨rfl, hb⟩; have HB1 := Lib.hid hb; clear hb)
    rw [← hr]
    have HRX := Lib.hid hr
    clear hr
    go_loopg [7] (34 + r) (fun g s wr => DpR W w1.heap.size (35 + r) g s wr)
    case atStart =>
      exact ⟨1, [], 0, 2, none, 0, 0, by omega, rfl, ⟨HB1.out.alloc HB1.out.size _, HB1.out.size, Fb.new w1 _ _, (fun x hx => by cases hx), rfl, ⟨rfl, rfl, rfl⟩⟩⟩
    case round =>
      obtain ⟨i, ks, kd, nn, A3, m3, c3, hi, rfl, hD⟩ := hrel
      have HD := Lib.hid hD
      have HI := Lib.hid hi
      have p0 := hD.p.cell 0
      have p1 := hD.p.cell 1
      have p2 := hD.p.cell 2
      have i0 : (0 : Int) ≤ (i : Int) := by omega
      have i1 : (i : Int) ≤ 46 := by omega
      by_cases hlt : i < 35 + r
      · have z1 : (i : Int) < 35 + (r : Int) := by omega
        have hx9 := hD.p.alloc (.cells #[.int .i64 kd, .int .i64 nn, .slice A3 m3 c3] 28)
        have a0 := hx9.cell 0
        have a1 := hx9.cell 1
        have a2 := hx9.cell 2
        have f0 := hx9.free 0
        have f1 := hx9.free 1
        have f2 := hx9.free 2
        have HLT := Lib.hid hlt
        by_cases hil : i < l.length
        · have z2 : (i : Int) < (l.length : Int) := by omega
          obtain ⟨g, o, hA, hg, hc⟩ := HAT.out i _ (List.getElem?_eq_getElem hil)
          have hy := HL.out _ (List.getElem_mem hil)
          obtain ⟨y, hY⟩ : ∃ y, y = l[i] := ⟨_, rfl⟩
          rw [← hY] at hc hy
          subst hA
          have hc' := cell_below hc hD.b
          obtain ⟨y0, y1⟩ := hy
          have HK := Lib.hid (show 2 ≤ 2 + y % 5 ∧ 2 + y % 5 ≤ 6 by omega)
          clear hD hi hlt hil hY hc hx9 hg
          go_wp2
          go_roundg (35 + r - (i + 1))
          case measure => have := HI.out; have := HLT.out; omega
          case rel => exact ⟨i + 1, _, _, _, _, _, _, by have := HLT.out; omega, by rw [Int.natCast_add]; rfl, HD.out.next HK.out⟩
        · have z2 : ¬ ((i : Int) < (l.length : Int)) := by omega
          clear hD hi hlt hil hx9
          go_wp2
          go_roundg (35 + r - (i + 1))
          case measure => have := HI.out; have := HLT.out; omega
          case rel => exact ⟨i + 1, _, _, _, _, _, _, by have := HLT.out; omega, by rw [Int.natCast_add]; rfl, HD.out.next (k := 2) (by decide)⟩
      · have z1 : ¬ ((i : Int) < 35 + (r : Int)) := by omega
        have hlen := hD.l
        by_cases h40 : 40 ≤ ks.length
        · have cC := compile_deep (by decide) hD.k hD.ch.chn (by omega) h40
          have z3 : (40 : Int) < 35 + (r : Int) := by omega
          have HBB := Lib.hid hD.b
          clear hD hi hlt hlen h40
          go_wp2_with (go_at_call 14; (with_reducible refine cC.mono ?_); rintro e w5 ⟨rfl, hb⟩; have HB5 := Lib.hid hb; clear hb)
          go_ret
          exact ⟨rfl, HBB.out.trans (HB5.out.mono HBB.out.size)⟩
        · have cC := compile_ok (by decide) hD.k hD.ch.chn (by omega)
          have z3 : ¬ ((40 : Int) < 35 + (r : Int)) := by omega
          have HBB := Lib.hid hD.b
          obtain ⟨em, hem⟩ : ∃ em, em = emC ks := ⟨_, rfl⟩
          obtain ⟨lp, hlp⟩ : ∃ lp, lp = lpC ks := ⟨_, rfl⟩
          rw [← hem, ← hlp] at cC
          clear hD hi hlt hlen h40 hem hlp
          go_wp2_with (first
            | (go_at_call 14; (with_reducible refine cC.mono ?_); rintro e w5 ⟨d, rfl, hm, hb⟩; have hF2 := Fb.new w5 44 #[.int .i64 2, .bool false]; have c1 := takes_all (L := 1) (gw := w5.heap.size) (cw := 1) (A := some ⟨w5.heap.size, 0, none⟩) (hm.below ((Below.refl w5.heap.size w5).alloc (Nat.le_refl _) (.cells #[.int .i64 2, .bool false] 44))) (.inl (by decide)) (by decide) rfl (fun j hj => by
                match j, hj with
                | 0, _ => exact ⟨hF2.cell 0, hF2.cell 1⟩); rw [if_neg (by decide)] at c1; have HB5 := Lib.hid ((HBB.out.trans (hb.mono HBB.out.size)).alloc (o := .cells #[.int .i64 2, .bool false] 44) (HBB.out.trans (hb.mono HBB.out.size)).size); clear hF2 hb hm)
            | (go_at_call 18; (with_reducible refine c1.mono ?_); rintro e w6 ⟨rfl, hb⟩; have HB6 := Lib.hid (HB5.out.trans (hb.mono HB5.out.size)); clear hb))
          go_ret
          exact ⟨rfl, HB6.out⟩
end Go.Proofs.Ytcbdgbcphfimlaa
