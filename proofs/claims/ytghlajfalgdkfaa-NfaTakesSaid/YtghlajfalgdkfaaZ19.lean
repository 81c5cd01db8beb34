/-
  MERGED (a claim has at most 60 files): NgNx, NgFin, NgAw, NgWd, NgFxP, NgTp.
-/
import Derived.Test.YtghlajfalgdkfaaZ18
import Derived.Test.YtghlajfalgdkfaaZ16
import Derived.Laws.MakeOwn
import Derived.Shelf.Abstract
import Derived.IntWalk
/-
  Next: where a set of states leads, any.
-/
namespace Go.Proofs.Ytghlajfalgdkfaa
open Go.RowKit
set_option linter.unusedVariables false
set_option linter.unusedSimpArgs false
set_option maxRecDepth 100000

/-- Bools: which states are reached. -/
def Rc (w : World) (br n : Nat) (P : Nat → Prop) : Prop := ∃ cs, Fb w br 4 cs ∧ ∀ q, q < n → ∃ b, cs[q]? = some (.bool b) ∧ (b = true ↔ P q)
theorem Rc.congr {w : World} {br n : Nat} {P P' : Nat → Prop} (h : Rc w br n P) (hp : ∀ q, P q ↔ P' q) : Rc w br n P' := by
  obtain ⟨cs, h1, h2⟩ := h
  exact ⟨cs, h1, fun q hq => by obtain ⟨b, k1, k2⟩ := h2 q hq; exact ⟨b, k1, k2.trans (hp q)⟩⟩
theorem Rc.below {w w' : World} {br n : Nat} {P : Nat → Prop} (h : Rc w br n P) (hb : Below w.heap.size w w') : Rc w' br n P := by
  obtain ⟨cs, h1, h2⟩ := h
  exact ⟨cs, h1.below hb, h2⟩
theorem Rc.set {w : World} {br n t : Nat} {P : Nat → Prop} (h : Rc w br n P) (ht : t < n) : Rc (w.setCell ⟨br, t, none⟩ (.bool true)) br n (fun q => P q ∨ q = t) := by
  obtain ⟨cs, h1, h2⟩ := h
  refine ⟨_, h1.set t _, fun q hq => ?_⟩
  by_cases hqt : q = t
  · subst hqt
    obtain ⟨b, k1, _⟩ := h2 q hq
    have hsz : q < cs.size := (Array.getElem?_eq_some_iff.1 k1).1
    exact ⟨true, by simp [Array.getElem?_setIfInBounds, hsz], ⟨fun _ => .inr rfl, fun _ => rfl⟩⟩
  · obtain ⟨b, k1, k2⟩ := h2 q hq
    exact ⟨b, by rw [Array.getElem?_setIfInBounds_ne (fun e => hqt e.symm)]; exact k1, k2.trans ⟨.inl, fun h => h.elim id (fun e => absurd e hqt)⟩⟩
theorem boolInfo : (Try.prog.info? 4).map (fun i => (i.zero, i.size, i.bytes)) = some (some (.bool false), 1, 1) := by kernel_rfl
theorem mkB (w : World) (n : Nat) (hn : n ≤ 1000) : (Instr.makeSlice 81 (.int .i64 (n : Int)) (.int .i64 (n : Int))).run Try.prog w = .ok (.slice (some ⟨w.heap.size, 0, none⟩) n n) (w.alloc (.cells (madeCells #[.bool false] n) 4)) := by
  obtain ⟨i0, hi0, hi1, hi2, hi3⟩ := info_parts boolInfo
  dsimp only at hi1 hi2 hi3
  have h := run_make (P := Try.prog) w 81 4 i0 (.bool false) Try.underlying81 hi0 hi1 .i64 .i64 (n : Int) (n : Int) (by omega) (Int.le_refl _) (by rw [hi3]; omega) (by omega)
  rw [hi2, show (Value.bool false).cells = #[.bool false] from rfl] at h
  simpa using h
theorem rc_new (w : World) (n : Nat) : Rc (w.alloc (.cells (madeCells #[.bool false] n) 4)) w.heap.size n (fun _ => False) := by
  refine ⟨_, Fb.new w _ _, fun q hq => ⟨false, ?_, by simp⟩⟩
  simp [madeCells, hq, Nat.mod_one]
/-- A set of states, as Next gives it. -/
structure Set1 (W : World) (v : Value) (l : List Nat) (P : Nat → Prop) (n : Nat) : Prop where
  r : InR 0 W v l
  up : l.Pairwise (· < ·)
  m : ∀ q, q ∈ l ↔ q < n ∧ P q
theorem Set1.len {W : World} {v : Value} {l : List Nat} {P : Nat → Prop} {n : Nat} (h : Set1 W v l P n) : l.length ≤ n := nodup_le n l (h.up.imp (fun h => Nat.ne_of_lt h)) (fun x hx => ((h.m x).1 hx).1)
theorem Set1.below {W W' : World} {v : Value} {l : List Nat} {P : Nat → Prop} {n : Nat} (h : Set1 W v l P n) (hb : Below W.heap.size W W') : Set1 W' v l P n := ⟨row_below h.r hb, h.up, h.m⟩
def PnA (T : List St) (l : List Nat) (s : Sy) (a : Nat) (q : Nat) : Prop := ∃ i ∈ l.take a, ∃ t, T[i]? = some t ∧ (s, q) ∈ t.2.1
def PnI (T : List St) (l : List Nat) (s : Sy) (a : Nat) (M : List Mo) (b : Nat) (q : Nat) : Prop := PnA T l s a q ∨ ∃ x ∈ M.take b, x.2 = q
def NgA (W W1 : World) (T : List St) (br n : Nat) (l : List Nat) (s : Sy) (gk : Nat) (sv : Value) (wr : World) : Prop := ∃ a : Nat, a + gk = l.length ∧ sv = .int .i64 (a : Int) ∧ Below W.heap.size W wr ∧ Below (W.heap.size + 1) W1 wr ∧ Rc wr br n (PnA T l s a)
def NgI (W W1 : World) (T : List St) (br n : Nat) (l : List Nat) (s : Sy) (a : Nat) (M : List Mo) (gk : Nat) (sv : Value) (wr : World) : Prop := ∃ b : Nat, b + gk = M.length ∧ sv = .int .i64 (b : Int) ∧ Below W.heap.size W wr ∧ Below (W.heap.size + 1) W1 wr ∧ Rc wr br n (PnI T l s a M b)
def NgO (W : World) (br n : Nat) (P : Nat → Prop) (gk : Nat) (s12 s44 : Value) (wr : World) : Prop := ∃ (k : Nat) (A : Option Addr) (m c : Nat) (lq : List Nat), k + gk = n ∧ s44 = .int .i64 (k : Int) ∧ s12 = .slice A m c ∧ Below W.heap.size W wr ∧ Rc wr br n P ∧ InR (br + 1) wr (.slice A m c) lq ∧ lq.Pairwise (· < ·) ∧ ∀ q, q ∈ lq ↔ q < k ∧ P q
def NgQ (W : World) (P : Nat → Prop) (n : Nat) (e : Ending) (w' : World) : Prop := ∃ A m c l, e = .returned (.slice A m c) ∧ Set1 w' (.slice A m c) l P n ∧ Below W.heap.size W w'
set_option maxHeartbeats 32000000 in
theorem next_gen {B d nl cl : Nat} {Al : Option Addr} {T : List St} {W : World} {l : List Nat} {s : Sy} {sy : Nat → Sy} (hM : Ma B d T W) (hw : Wt sy T) (hT : T.length ≤ 1000) (hl : InR 0 W (.slice Al nl cl) l) (hll : l.length ≤ 1000) (hlt : ∀ i ∈ l, i < T.length) :
    Calls Try.prog 23 #[.pointer (some ⟨d, 0, none⟩), .slice Al nl cl, .agg #[.int .i64 s.1, .bool s.2]] W (NgQ W (fun q => ∃ i ∈ l, ∃ t, T[i]? = some t ∧ (s, q) ∈ t.2.1) T.length) := by
  obtain ⟨⟨A0, c0, hd, hst⟩, _, _, _⟩ := id hM
  obtain ⟨nT, hnT⟩ : ∃ nT, nT = T.length := ⟨_, rfl⟩
  rw [← hnT] at hd hT ⊢
  obtain ⟨P, hPe⟩ : ∃ P : Nat → Prop, P = (fun q => ∃ i ∈ l, ∃ t, T[i]? = some t ∧ (s, q) ∈ t.2.1) := ⟨_, rfl⟩
  rw [← hPe]
  have HPe := Lib.hid hPe
  clear hPe
  have hnl : nl = l.length := by
    obtain ⟨A', c', e, _⟩ := hl.shape
    exact (Value.slice.inj e).2.1
  have hb1 : Below W.heap.size W (W.alloc (.cells #[.int .i64 s.1, .bool s.2] 44)) := (Below.refl _ _).alloc (Nat.le_refl _) _
  have hm := mkB (W.alloc (.cells #[.int .i64 s.1, .bool s.2] 44)) nT hT
  rw [World.size_alloc] at hm
  obtain ⟨W1, hW1⟩ : ∃ W1, W1 = (W.alloc (.cells #[.int .i64 s.1, .bool s.2] 44)).alloc (.cells (madeCells #[.bool false] nT) 4) := ⟨_, rfl⟩
  rw [← hW1] at hm
  have hbW1 : Below W.heap.size W W1 := by rw [hW1]; exact hb1.alloc hb1.size _
  have hQ1 : Fb W1 W.heap.size 44 #[.int .i64 s.1, .bool s.2] := by rw [hW1]; exact (Fb.new W 44 #[.int .i64 s.1, .bool s.2]).alloc _
  have hR1 : Rc W1 (W.heap.size + 1) nT (fun _ => False) := by
    have := rc_new (W.alloc (.cells #[.int .i64 s.1, .bool s.2] 44)) nT
    rw [World.size_alloc] at this
    rw [hW1]; exact this
  have hsz1 : W1.heap.size = W.heap.size + 2 := by rw [hW1]; simp
  have a0 := (hd.below hb1).cell 0
  have H0 := Lib.hid (show NgA W W1 T (W.heap.size + 1) nT l s l.length (.int .i64 0) W1 from ⟨0, by omega, rfl, hbW1, Below.refl _ _, hR1.congr (fun q => ⟨False.elim, fun ⟨i, hi, _⟩ => by simp at hi⟩)⟩)
  have HMt := Lib.hid (fun (w : World) (hb : Below W.heap.size W w) (i : Nat) (t : St) (ht : T[i]? = some t) => moves_gen s hM (hM.below hb) ht (hw i t ht).1 (by rw [← hnT]; exact hT) (Nat.le_trans (gm_len (hw i t ht).1 (hw i t ht).2) (by rw [← hnT]; exact hT)))
  have HBy := Lib.hid (fun (i : Nat) (t : St) (ht : T[i]? = some t) => And.intro (byS_mem (hw i t ht).1 s) (fun (x : Mo) (hx : x ∈ byS t.2.1 s) => ((hw i t ht).2 x ((byS_mem (hw i t ht).1 s x).1 hx).1).1) |> fun h => And.intro h (by rw [byS_len (hw i t ht).1 s]; have h1 := (mB_spec (hw i t ht).1 s).1; have h2 := gm_len (hw i t ht).1 (hw i t ht).2; omega : (byS t.2.1 s).length ≤ 1000))
  have HLr := Lib.hid (fun (w : World) (hb : Below W.heap.size W w) => (row_below hl hb : InR 0 w (.slice Al nl cl) l))
  have HQ := Lib.hid (fun (w : World) (hb : Below (W.heap.size + 1) W1 w) => ((hb.block W.heap.size (Nat.lt_succ_self _)).trans hQ1 : Fb w W.heap.size 44 #[.int .i64 s.1, .bool s.2]))
  have HLT := Lib.hid hlt
  have HNT := Lib.hid hnT
  have HNL := Lib.hid hnl
  have HLL := Lib.hid hll
  have HTT := Lib.hid hT
  have HS1 := Lib.hid hsz1
  have t0 : (0 : Int) ≤ (nT : Int) := by omega
  have t1 : (nT : Int) ≤ 1000 := by omega
  have t2 : (nl : Int) ≤ 1000 := by omega
  clear hM hw hT hl hll hlt hd hst hnT hnl hb1 hW1 hbW1 hQ1 hR1 hsz1
  go_enter Try.func23, Try.ntmps23
  go_wp2
  go_loopg [23] l.length (fun gk sv wr => NgA W W1 T (W.heap.size + 1) nT l s gk sv wr)
  case atStart => exact H0.out
  case round =>
    obtain ⟨a, ha, rfl, hb, hbx, hrc⟩ := hrel
    have hn := HNL.out
    by_cases hal : a < l.length
    · obtain ⟨i, hi⟩ : ∃ i, l[a]? = some i := ⟨_, List.getElem?_eq_getElem hal⟩
      obtain ⟨A', c', es, hA'⟩ := InR.shape (HLr.out wr hb)
      obtain ⟨gl, hgl, _, _⟩ := hA'.resolve_left (fun e => by rw [e] at hal; simp at hal)
      have hAl : Al = some ⟨gl, 0, none⟩ := (Value.slice.inj es).1.trans hgl
      subst hAl
      have li := InR.at (HLr.out wr hb) hi
      have hiT := HLT.out i (List.mem_of_getElem? hi)
      obtain ⟨t, ht⟩ : ∃ t, T[i]? = some t := ⟨_, List.getElem?_eq_getElem hiT⟩
      have cM := HMt.out wr hb i t ht
      have q0 := Fb.cell (HQ.out wr hbx) 0
      have q1 := Fb.cell (HQ.out wr hbx) 1
      have a0' : (0 : Int) ≤ (a : Int) := by omega
      have a1 : (a : Int) < (nl : Int) := by omega
      have HA := Lib.hid (And.intro ha (And.intro hal (And.intro hi ht)))
      have HBs := Lib.hid (And.intro hb (And.intro hbx hrc))
      obtain ⟨⟨hby1, hby2⟩, hby3⟩ := HBy.out i t ht
      have HB1 := Lib.hid hby1
      have HB2 := Lib.hid hby2
      have HB3 := Lib.hid hby3
      generalize hMe : byS t.2.1 s = M at cM HB1 HB2 HB3
      clear ha hb hbx hrc hn hal hi es hA' hgl hiT ht hby1 hby2 hby3 hMe
      go_wp2_with (go_at_call 41; (with_reducible refine cM.mono ?_); rintro e w5 ⟨v, rfl, hmv, hb5⟩; obtain ⟨Am, cm, ev, _⟩ := hmv W (Below.refl _ _); obtain ⟨nm, hnm⟩ : ∃ nm, nm = M.length := ⟨_, rfl⟩; rw [← hnm] at ev; subst ev; have HMV := Lib.hid hmv; have HNM := Lib.hid hnm; have HB5 := Lib.hid hb5; clear hmv hnm hb5 cM)
      have hsz : W.heap.size + 1 ≤ wr.heap.size := by have := HS1.out; have := HBs.out.2.1.size; omega
      have HI0 := Lib.hid (show NgI W W1 T (W.heap.size + 1) nT l s a M M.length (.int .i64 0) w5 from ⟨0, by omega, rfl, HBs.out.1.trans (HB5.out.mono HBs.out.1.size), HBs.out.2.1.trans (HB5.out.mono hsz), (HBs.out.2.2.below HB5.out).congr (fun q => ⟨.inl, fun h => h.elim id (fun ⟨x, hx, _⟩ => by simp at hx)⟩)⟩)
      have hMl : M.length ≤ 1000 := HB3.out
      have nmI : (nm : Int) ≤ 1000 := by have := HNM.out; omega
      clear hsz li q0 q1
      go_loopg [32] M.length (fun gk sv wr => NgI W W1 T (W.heap.size + 1) nT l s a M gk sv wr)
      case atStart => exact HI0.out
      case round =>
        obtain ⟨b, hbm, rfl, hb, hbx, hrc⟩ := hrel
        have hn := HNM.out
        by_cases hbl : b < M.length
        · obtain ⟨x, hx⟩ : ∃ x, M[b]? = some x := ⟨_, List.getElem?_eq_getElem hbl⟩
          obtain ⟨A', c', es, hat⟩ := HMV.out wr hb
          obtain ⟨g, o, hgA, x0, x1, x2⟩ := hat b x hx
          have hAm : Am = some ⟨g, o, none⟩ := (Value.slice.inj es).1.trans hgA
          subst hAm
          have hxT : x.2 < nT := by rw [HNT.out]; exact HB2.out x (List.mem_of_getElem? hx)
          have hrc2 := hrc.below ((Below.refl wr.heap.size wr).alloc (Nat.le_refl _) (.cells #[.int .i64 x.1.1, .bool x.1.2, .int .i64 (x.2 : Int)] 84))
          obtain ⟨cs, hcs, hcq⟩ := id hrc2
          obtain ⟨bq, hbq, _⟩ := hcq x.2 hxT
          have r0 := (hcs.cell x.2).trans hbq
          have rf := hcs.free x.2
          have hsz : W.heap.size + 1 ≤ wr.heap.size := by have := HS1.out; have := hbx.size; omega
          have HR := Lib.hid (And.intro ((hb.alloc hb.size (.cells #[.int .i64 x.1.1, .bool x.1.2, .int .i64 (x.2 : Int)] 84)).setCell (Nat.le_succ _) (.bool true) (p := ⟨W.heap.size + 1, x.2, none⟩)) (And.intro ((hbx.alloc hsz (.cells #[.int .i64 x.1.1, .bool x.1.2, .int .i64 (x.2 : Int)] 84)).setCell (Nat.le_refl _) (.bool true) (p := ⟨W.heap.size + 1, x.2, none⟩)) (hrc2.set hxT)))
          have b0 : (0 : Int) ≤ (b : Int) := by omega
          have b1 : (b : Int) < (nm : Int) := by omega
          have xt0 : (0 : Int) ≤ (x.2 : Int) := by omega
          have xt1 : (x.2 : Int) < (nT : Int) := by omega
          have HX := Lib.hid (And.intro hbm (And.intro hbl hx))
          clear hbm hbl hx es hat hgA hxT hrc2 hcs hcq hbq hsz hb hbx hrc hn
          go_wp2
          go_roundg (M.length - (b + 1))
          case measure => obtain ⟨h1, h2, _⟩ := HX.out; omega
          case rel =>
            obtain ⟨h1, h2, h3⟩ := HX.out
            refine ⟨b + 1, by omega, by rw [Int.natCast_add]; rfl, HR.out.1, HR.out.2.1, HR.out.2.2.congr (fun q => ?_)⟩
            unfold PnI
            rw [take_snoc h3]
            constructor
            · rintro ((h | ⟨y, hy, e⟩) | rfl)
              · exact .inl h
              · exact .inr ⟨y, List.mem_append_left _ hy, e⟩
              · exact .inr ⟨x, List.mem_append_right _ (List.mem_singleton.2 rfl), rfl⟩
            · rintro (h | ⟨y, hy, e⟩)
              · exact .inl (.inl h)
              · rcases List.mem_append.1 hy with hy | hy
                · exact .inl (.inr ⟨y, hy, e⟩)
                · obtain rfl := List.mem_singleton.1 hy
                  exact .inr e.symm
        · have hbe : b = M.length := by omega
          have b1 : ¬ ((b : Int) < (nm : Int)) := by omega
          have HE := Lib.hid (show NgA W W1 T (W.heap.size + 1) nT l s (l.length - (a + 1)) (.int .i64 ((a + 1 : Nat) : Int)) wr from by
            obtain ⟨h1, h2, h3, h4⟩ := HA.out
            refine ⟨a + 1, by omega, rfl, hb, hbx, hrc.congr (fun q => ?_)⟩
            unfold PnI PnA
            rw [hbe, List.take_length, take_snoc h3]
            constructor
            · rintro (⟨i', hi', t', ht', hx'⟩ | ⟨y, hy, rfl⟩)
              · exact ⟨i', List.mem_append_left _ hi', t', ht', hx'⟩
              · have hm := (HB1.out y).1 hy
                exact ⟨i, List.mem_append_right _ (List.mem_singleton.2 rfl), t, h4, by rw [← hm.2]; exact hm.1⟩
            · rintro ⟨i', hi', t', ht', hx'⟩
              rcases List.mem_append.1 hi' with hi' | hi'
              · exact .inl ⟨i', hi', t', ht', hx'⟩
              · obtain rfl := List.mem_singleton.1 hi'
                rw [h4] at ht'
                injection ht' with ht'
                subst ht'
                exact .inr ⟨(s, q), (HB1.out (s, q)).2 ⟨hx', rfl⟩, rfl⟩)
          clear hbm hbl hb hbx hrc hn hbe
          go_wp2
          go_roundg (l.length - (a + 1))
          case measure => obtain ⟨h1, h2, _⟩ := HA.out; omega
          case rel => exact HE.out
    · have hae : a = l.length := by omega
      have a1 : ¬ ((a : Int) < (nl : Int)) := by omega
      have hP : ∀ q, PnA T l s a q ↔ ∃ i ∈ l, ∃ t, T[i]? = some t ∧ (s, q) ∈ t.2.1 := fun q => by unfold PnA; rw [hae, List.take_length]
      have hrc' := hrc.congr hP
      have hsz : W.heap.size + 1 + 1 ≤ wr.heap.size := by have := HS1.out; have := hbx.size; omega
      have hrc2 : Rc wr (W.heap.size + 1) nT P := by rw [HPe.out]; exact hrc'
      have HO0 := Lib.hid (show NgO W (W.heap.size + 1) nT P nT (.slice none 0 0) (.int .i64 0) wr from ⟨0, none, 0, 0, [], by omega, rfl, rfl, hb, hrc2, World.ownsRow_nil _ _ _ _, List.Pairwise.nil, fun q => by simp⟩)
      have HSZ := Lib.hid hsz
      have HBW := Lib.hid hb
      clear hP hrc hrc' hrc2 hb hbx ha hal hae hn hsz
      go_wp2
      have HBO : Hid (∀ (w : World), Below W.heap.size W w → True) := Lib.hid fun _ _ => trivial
      go_loopg [12, 44] nT (fun gk s12 s44 w => NgO W (W.heap.size + 1) nT P gk s12 s44 w ∧ W.heap.size + 1 + 1 ≤ w.heap.size)
      case atStart => exact ⟨HO0.out, HSZ.out⟩
      case round =>
        obtain ⟨⟨k, A5, m5, c5, lq, hk, rfl, rfl, hb, hrc, hrow, hup, hmem⟩, hsz⟩ := hrel
        by_cases hkn : k < nT
        · obtain ⟨cs, hcs, hcq⟩ := id hrc
          obtain ⟨bq, hbq, hbP⟩ := hcq k hkn
          have r0 := (hcs.cell k).trans hbq
          have k0 : (0 : Int) ≤ (k : Int) := by omega
          have k1 : (k : Int) < (nT : Int) := by omega
          have hlq : lq.length ≤ 1000 := Nat.le_trans (nodup_le k lq (hup.imp (fun h => Nat.ne_of_lt h)) (fun x hx => ((hmem x).1 hx).1)) (by have := HTT.out; omega)
          cases bq with
          | false =>
            have hno : ¬ P k := fun h => by have := hbP.2 h; cases this
            have HR := Lib.hid (show NgO W (W.heap.size + 1) nT P (nT - (k + 1)) (.slice A5 m5 c5) (.int .i64 ((k + 1 : Nat) : Int)) wr from ⟨k + 1, A5, m5, c5, lq, by omega, rfl, rfl, hb, hrc, hrow, hup, fun q => (hmem q).trans ⟨fun ⟨h1, h2⟩ => ⟨by omega, h2⟩, fun ⟨h1, h2⟩ => ⟨by
              rcases Nat.lt_or_ge q k with h | h
              · exact h
              · have : q = k := by omega
                subst this
                exact absurd h2 hno, h2⟩⟩⟩)
            have HSz := Lib.hid hsz
            have HK := Lib.hid hkn
            have HKg := Lib.hid hk
            clear hk hb hrc hrow hup hmem hsz hkn hcs hcq hbq hbP hlq hno
            go_wp2
            go_roundg (nT - (k + 1))
            case measure => have := HK.out; have := HKg.out; omega
            case rel => exact ⟨HR.out, HSz.out⟩
          | true =>
            have hyes : P k := hbP.1 rfl
            obtain ⟨w2, hw2⟩ : ∃ w2, w2 = wr.alloc (.cells #[.int .i64 (k : Int)] 3) := ⟨_, rfl⟩
            have hb2 : Below wr.heap.size wr w2 := by rw [hw2]; exact (Below.refl _ _).alloc (Nat.le_refl _) _
            have hrow2 : InR (W.heap.size + 1 + 1) w2 (.slice A5 m5 c5) lq := row_below hrow hb2
            have hnew : InR (W.heap.size + 1 + 1) w2 (.slice (some ⟨wr.heap.size, 0, none⟩) 1 1) [k] := by
              rw [hw2]
              exact World.ownsRow_lit (base := W.heap.size + 1 + 1) (e := 3) (size := 1) wr #[.int .i64 (k : Int)] 1 (by omega) (by unfold maxLen; omega) rfl
            have HB2 := Lib.hid (hb.trans (hb2.mono hb.size))
            have HSz2 := Lib.hid (Nat.le_trans hsz hb2.size)
            have HRc2 := Lib.hid (hrc.below hb2)
            have HRow := Lib.hid hrow2
            have HNew := Lib.hid hnew
            have HUp := Lib.hid (And.intro hup (And.intro hmem (And.intro hlq hyes)))
            have HK := Lib.hid hkn
            have HKg := Lib.hid hk
            clear hk hb hrc hrow hup hmem hsz hkn hcs hcq hbq hbP hlq hyes hb2 hrow2 hnew
            have HOne := Lib.hid (show [k].length ≤ 1000 by simp)
            subst hw2
            go_wp2_with (at_builtin; refine wpl_app_i rfl _ _ rfl rfl rfl HRow.out HNew.out HSz2.out HUp.out.2.2.1 HOne.out ?_; intro A6 n6 c6 w6 hn6 hr6 hg6 hq6; have HR6 := Lib.hid hr6; have HG6 := Lib.hid hg6; have HN6 := Lib.hid hn6; clear hr6 hg6 hn6 hq6)
            go_roundg (nT - (k + 1))
            case measure => have := HK.out; have := HKg.out; omega
            case rel =>
              obtain ⟨h1, h2, h3, h4⟩ := HUp.out
              have hkk := HK.out
              refine ⟨⟨k + 1, A6, n6, c6, lq ++ [k], by omega, by rw [Int.natCast_add]; rfl, rfl, HB2.out.trans (((Below.refl (W.heap.size + 1 + 1) _).grown HG6.out HSz2.out (fun q hq => (row_lt HRow.out q hq).1)).mono (by omega)), ?_, HR6.out, ?_, fun q => ?_⟩, Nat.le_trans HSz2.out HG6.out.size⟩
              · obtain ⟨cs, hcs, hcq⟩ := HRc2.out
                exact ⟨cs, (grown_neT HRow.out HG6.out hcs (by decide)).trans hcs, hcq⟩
              · rw [List.pairwise_append]
                exact ⟨h1, List.pairwise_singleton _ _, fun a ha b hb => by
                  have h5 := ((h2 a).1 ha).1
                  have h6 : b = k := by simpa using hb
                  omega⟩
              · rw [List.mem_append, h2, List.mem_singleton]
                constructor
                · rintro (⟨h5, h6⟩ | rfl)
                  · exact ⟨by omega, h6⟩
                  · exact ⟨by omega, h4⟩
                · rintro ⟨h5, h6⟩
                  rcases Nat.lt_or_ge q k with h | h
                  · exact .inl ⟨h, h6⟩
                  · exact .inr (by omega)
        · have hke : k = nT := by omega
          have k1 : ¬ ((k : Int) < (nT : Int)) := by omega
          have HE := Lib.hid (show NgQ W P nT (.returned (.slice A5 m5 c5)) wr from ⟨A5, m5, c5, lq, rfl, ⟨⟨hrow.1, hrow.2.imp id (fun ⟨g, cap, cur, h1, _, h2⟩ => ⟨g, cap, cur, h1, Nat.zero_le _, h2⟩)⟩, hup, fun q => by rw [hmem, hke]⟩, hb⟩)
          clear hk hb hrc hrow hup hmem hsz hkn hke
          go_wp2
          go_ret
          exact HE.out
end Go.Proofs.Ytghlajfalgdkfaa

/-
  Final, Begin, Takes: any machine.
-/
namespace Go.Proofs.Ytghlajfalgdkfaa
open Go.RowKit
set_option linter.unusedVariables false
set_option linter.unusedSimpArgs false
set_option maxRecDepth 100000

theorem cf_F (args : Array Value) (w : World) : (callFunc 43 args).run Try.prog w = .ok (.enter 43 args) w := by
  first | rfl | kernel_rfl
set_option maxHeartbeats 8000000 in
theorem finF_gen {W : World} {p d g c i n : Nat} {b : Bool} (hi : i < n) (hn : n ≤ 1000) (hp : W.cell? ⟨p, 0, none⟩ = some (.pointer (some ⟨d, 0, none⟩))) (ha : W.cell? ⟨d, 0, none⟩ = some (.slice (some ⟨g, 0, none⟩) n c)) (hf : W.cell? ⟨g, i * 2 + 1, none⟩ = some (.bool b)) :
    Calls Try.prog 43 #[.int .i64 (i : Int), .pointer (some ⟨p, 0, none⟩)] W fun e w' => e = .returned (.bool b) ∧ w' = W := by
  have cH := has_any (i := i) ha hi
  have z0 : (0 : Int) ≤ (i : Int) := by omega
  have z1 : (i : Int) < (n : Int) := by omega
  have z2 : (n : Int) ≤ 1000 := by omega
  clear hi hn
  go_enter Try.func43, Try.ntmps43
  go_wp2_with (go_at_call 44; (with_reducible refine cH.mono ?_); rintro e w1 ⟨rfl, rfl⟩)
  go_ret
  exact ⟨rfl, rfl⟩
def IxG (W : World) (l : List Nat) (b : Nat → Bool) (gk : Nat) (s8 : Value) (wr : World) : Prop := ∃ a : Nat, a + gk = l.length ∧ s8 = .int .i64 (a : Int) ∧ W = wr ∧ ∀ j i, j < a → l[j]? = some i → b i = false
set_option maxHeartbeats 8000000 in
theorem idx_gen {B nl cl : Nat} {Al : Option Addr} {W : World} {l : List Nat} {b : Nat → Bool} {cb : Array Value} (hl : InR B W (.slice Al nl cl) l) (hll : l.length ≤ 1000)
    (hc : ∀ i ∈ l, Calls Try.prog 43 (#[.int .i64 (i : Int)] ++ cb) W fun e w' => e = .returned (.bool (b i)) ∧ w' = W) :
    Calls Try.prog 65 #[.slice Al nl cl, .func (.func 43) #[] cb] W fun e w' => ∃ r : Int, e = .returned (.int .i64 r) ∧ (0 ≤ r ↔ ∃ i ∈ l, b i = true) ∧ w' = W := by
  have eg := cf_F
  have hnl : nl = l.length := by
    obtain ⟨A', c', e, _⟩ := hl.shape
    exact (Value.slice.inj e).2.1
  have HL := Lib.hid hl
  have HC := Lib.hid hc
  have HN := Lib.hid hnl
  have n1 : (nl : Int) ≤ 1000 := by omega
  clear hl hc hll hnl
  go_enter Try.func65, Try.ntmps65
  go_wp2
  go_loopg [5, 8] l.length (fun gk s5 s8 wr => IxG W l b gk s8 wr)
  case atStart => exact ⟨0, by omega, rfl, rfl, fun j i hj => absurd hj (Nat.not_lt_zero _)⟩
  case round =>
    obtain ⟨a, ha, rfl, rfl, hno⟩ := hrel
    have hn := HN.out
    by_cases hal : a < l.length
    · obtain ⟨i, hi⟩ : ∃ i, l[a]? = some i := ⟨_, List.getElem?_eq_getElem hal⟩
      obtain ⟨A', c', es, hA'⟩ := InR.shape HL.out
      obtain ⟨gl, hgl, _, _⟩ := hA'.resolve_left (fun e => by rw [e] at hal; simp at hal)
      have hAl : Al = some ⟨gl, 0, none⟩ := (Value.slice.inj es).1.trans hgl
      subst hAl
      have li := InR.at HL.out hi
      have cF := HC.out i (List.mem_of_getElem? hi)
      have a0 : (0 : Int) ≤ (a : Int) := by omega
      have a1 : (a : Int) < (nl : Int) := by omega
      have HA := Lib.hid (And.intro ha (And.intro hal (And.intro hi hno)))
      generalize hbe : b i = bb at cF
      have HBE := Lib.hid hbe
      clear ha hal hi hno es hA' hgl hn hbe
      cases bb with
      | true =>
        go_wp2_with (go_at_fn 43; refine cF.mono ?_; rintro e w5 ⟨rfl, rfl⟩)
        go_ret
        exact ⟨a, rfl, ⟨fun _ => ⟨i, List.mem_of_getElem? HA.out.2.2.1, HBE.out⟩, fun _ => by omega⟩, rfl⟩
      | false =>
        go_wp2_with (go_at_fn 43; refine cF.mono ?_; rintro e w5 ⟨rfl, rfl⟩)
        go_roundg (l.length - (a + 1))
        case measure => obtain ⟨h1, h2, _⟩ := HA.out; omega
        case rel =>
          obtain ⟨h1, h2, h3, h4⟩ := HA.out
          refine ⟨a + 1, by omega, by rw [Int.natCast_add]; rfl, rfl, fun j i' hj hi' => ?_⟩
          rcases Nat.lt_or_ge j a with h | h
          · exact h4 j i' h hi'
          · obtain rfl : j = a := by omega
            rw [h3] at hi'
            injection hi' with hi'
            rw [← hi']; exact HBE.out
    · have hae : a = l.length := by omega
      have a1 : ¬ ((a : Int) < (nl : Int)) := by omega
      have HNo := Lib.hid (show (0 ≤ (-1 : Int)) ↔ ∃ i ∈ l, b i = true from ⟨fun h => absurd h (by decide), fun ⟨i, hi, hb⟩ => by
        obtain ⟨j, hj⟩ := List.mem_iff_getElem?.1 hi
        rw [hno j i (by rw [hae]; exact (List.getElem?_eq_some_iff.1 hj).1) hj] at hb
        cases hb⟩)
      clear ha hal hno hae hn
      go_wp2
      go_ret
      exact ⟨-1, rfl, HNo.out, rfl⟩
set_option maxHeartbeats 8000000 in
theorem final_gen {B B1 d nl cl : Nat} {Al : Option Addr} {T : List St} {W : World} {l : List Nat} (hM : Ma B d T W) (hT : T.length ≤ 1000) (hl : InR B1 W (.slice Al nl cl) l) (hll : l.length ≤ 1000) (hlt : ∀ i ∈ l, i < T.length) :
    Calls Try.prog 25 #[.pointer (some ⟨d, 0, none⟩), .slice Al nl cl] W fun e w' => ∃ r : Bool, e = .returned (.bool r) ∧ (r = true ↔ ∃ i ∈ l, ∃ t, T[i]? = some t ∧ t.2.2 = true) ∧ Below W.heap.size W w' := by
  have hb : Below W.heap.size W (W.alloc (.cells #[.pointer (some ⟨d, 0, none⟩)] 32)) := (Below.refl _ _).alloc (Nat.le_refl _) _
  have hM1 := hM.below hb
  have cI := idx_gen (b := fun i => match T[i]? with | some t => t.2.2 | none => false) (cb := #[.pointer (some ⟨W.heap.size, 0, none⟩)]) (row_below hl hb) hll (fun i hi => by
    have ht := List.getElem?_eq_getElem (hlt i hi)
    obtain ⟨gs, c, cs, e1, e2, e3, e4, e5⟩ := hM1.at ht
    rw [ht]
    exact finF_gen (hlt i hi) hT ((Fb.new W 32 #[.pointer (some ⟨d, 0, none⟩)]).cell 0) (e1.cell 0) e5)
  have cC : Calls Try.prog 42 #[.slice Al nl cl, .func (.func 43) #[] #[.pointer (some ⟨W.heap.size, 0, none⟩)]] (W.alloc (.cells #[.pointer (some ⟨d, 0, none⟩)] 32)) fun e w' => ∃ r : Bool, e = .returned (.bool r) ∧ (r = true ↔ ∃ i ∈ l, ∃ t, T[i]? = some t ∧ t.2.2 = true) ∧ w' = W.alloc (.cells #[.pointer (some ⟨d, 0, none⟩)] 32) := by
    clear hM hM1 hb hl hll hlt hT
    go_enter Try.func42, Try.ntmps42
    go_wp2_with (go_at_call 65; (with_reducible refine cI.mono ?_); rintro e w5 ⟨r, rfl, hr, rfl⟩; have HR := Lib.hid hr; clear hr cI)
    go_ret
    refine ⟨_, rfl, ?_, rfl⟩
    have := HR.out
    constructor
    · intro h
      obtain ⟨i, hi, hb⟩ := this.1 (by simpa using h)
      refine ⟨i, hi, ?_⟩
      cases ht : T[i]? with
      | none => simp [ht] at hb
      | some t => exact ⟨t, rfl, by simpa [ht] using hb⟩
    · rintro ⟨i, hi, t, ht, hf⟩
      have := this.2 ⟨i, hi, by simp [ht, hf]⟩
      simpa using this
  have HB := Lib.hid hb
  clear hM hM1 hb hl hll hlt hT cI
  go_enter Try.func25, Try.ntmps25
  go_wp2_with (go_at_call 42; (with_reducible refine cC.mono ?_); rintro e w5 ⟨r, rfl, hr, rfl⟩; have HR := Lib.hid hr; clear hr cC)
  go_ret
  exact ⟨_, rfl, HR.out, HB.out⟩
theorem begin_gen (W : World) (d : Nat) : Calls Try.prog 21 #[.pointer (some ⟨d, 0, none⟩)] W fun e w' => e = .returned (.slice (some ⟨W.heap.size, 0, none⟩) 1 1) ∧ InR 0 w' (.slice (some ⟨W.heap.size, 0, none⟩) 1 1) [0] ∧ Below W.heap.size W w' := by
  have HB := Lib.hid (show Below W.heap.size W (W.alloc (.cells #[.int .i64 0] 3)) from (Below.refl _ _).alloc (Nat.le_refl _) _)
  have HF := Lib.hid (show InR 0 (W.alloc (.cells #[.int .i64 0] 3)) (.slice (some ⟨W.heap.size, 0, none⟩) 1 1) [0] from ⟨rfl, .inr ⟨W.heap.size, 1, _, rfl, Nat.zero_le _, Fb.new W _ _, Nat.le_refl _, by decide, rfl, rfl⟩⟩)
  go_enter Try.func21, Try.ntmps21
  go_wp2
  go_ret
  exact ⟨rfl, HF.out, HB.out⟩
theorem run_lt {T : List St} {sy : Nat → Sy} (hw : Wt sy T) (h0 : 0 < T.length) {w : List Sy} : ∀ {q q' : Nat}, q < T.length → Run (dl T) q w q' → q' < T.length := by
  intro q q' hq hr
  induction hr with
  | nil q => exact hq
  | cons a _ ih =>
    obtain ⟨s, hs, hx⟩ := a
    exact ih ((hw _ s hs).2 _ hx).1
/-- A word, where it lies. -/
def WdA (W : World) (v : Value) (ws : List Sy) : Prop := ∃ A c, v = .slice A ws.length c ∧ ∀ (j : Nat) (s : Sy), ws[j]? = some s → ∃ g o, A = some ⟨g, o, none⟩ ∧ W.cell? ⟨g, o + j * 2, none⟩ = some (.int .i64 s.1) ∧ W.cell? ⟨g, o + j * 2 + 1, none⟩ = some (.bool s.2)
theorem WdA.below {W w : World} {v : Value} {ws : List Sy} (h : WdA W v ws) (hb : Below W.heap.size W w) : WdA w v ws := by
  obtain ⟨A, c, h1, h2⟩ := h
  refine ⟨A, c, h1, fun j s hj => ?_⟩
  obtain ⟨g, o, k1, k2, k3⟩ := h2 j s hj
  exact ⟨g, o, k1, cell_below k2 hb, cell_below k3 hb⟩
def TkR (W : World) (T : List St) (ws : List Sy) (gk : Nat) (s5 s6 : Value) (wr : World) : Prop := ∃ (i : Nat) (A : Option Addr) (m c : Nat) (l : List Nat), i + gk = ws.length ∧ s6 = .int .i64 (i : Int) ∧ s5 = .slice A m c ∧ Set1 wr (.slice A m c) l (fun q => Run (dl T) 0 (ws.take i) q) T.length ∧ Below W.heap.size W wr
def TkQ (A : Lg) (ws : List Sy) (W : World) (e : Ending) (w' : World) : Prop := ∃ b : Bool, e = .returned (.bool b) ∧ (b = true ↔ A ws) ∧ Below W.heap.size W w'
set_option maxHeartbeats 32000000 in
theorem takes_gen {d nw cw : Nat} {Aw : Option Addr} {A : Lg} {W : World} {ws : List Sy} (hMc : Mch W d A) (hwd : WdA W (.slice Aw nw cw) ws) (hws : ws.length ≤ 1000) :
    Calls Try.prog 17 #[.pointer (some ⟨d, 0, none⟩), .slice Aw nw cw] W (TkQ A ws W) := by
  obtain ⟨B, T, sy, hM, hw, hT, h0, hA⟩ := hMc
  have cB := begin_gen W d
  have hnw : nw = ws.length := by
    obtain ⟨A', c', e, _⟩ := hwd
    exact (Value.slice.inj e).2.1
  have HM := Lib.hid (fun (w : World) (hb : Below W.heap.size W w) => (hM.below hb : Ma B d T w))
  have HW := Lib.hid hw
  have HT := Lib.hid (And.intro hT h0)
  have HA := Lib.hid hA
  have HWd := Lib.hid (fun (w : World) (hb : Below W.heap.size W w) => (hwd.below hb : WdA w (.slice Aw nw cw) ws))
  have HNW := Lib.hid hnw
  have HWS := Lib.hid hws
  have w1I : (nw : Int) ≤ 1000 := by omega
  have w0I : (0 : Int) ≤ (nw : Int) := by omega
  clear hM hw hT h0 hA hwd hnw hws
  go_enter Try.func17, Try.ntmps17
  go_wp2_with (go_at_call 21; (with_reducible refine cB.mono ?_); rintro e w5 ⟨rfl, hst, hb⟩; have HST := Lib.hid hst; have HB := Lib.hid hb; clear hst hb cB)
  have H0 := Lib.hid (show TkR W T ws ws.length (.slice (some ⟨W.heap.size, 0, none⟩) 1 1) (.int .i64 0) w5 from ⟨0, _, _, _, [0], by omega, rfl, rfl, ⟨HST.out, List.pairwise_singleton _ _, fun q => by
    rw [List.take_zero, List.mem_singleton]
    constructor
    · rintro rfl; exact ⟨HT.out.2, .nil _⟩
    · rintro ⟨_, h⟩; cases h; rfl⟩, HB.out⟩)
  clear HST HB
  go_loopg [5, 6] ws.length (fun gk s5 s6 wr => TkR W T ws gk s5 s6 wr)
  case atStart => exact H0.out
  case round =>
    obtain ⟨i, A5, m5, c5, l, hi, rfl, rfl, hset, hb⟩ := hrel
    have hn := HNW.out
    have hm : m5 = l.length := by
      obtain ⟨A', c', e, _⟩ := InR.shape hset.r
      exact (Value.slice.inj e).2.1
    have hl9 : l.length ≤ 1000 := Nat.le_trans hset.len HT.out.1
    have hlt : ∀ q ∈ l, q < T.length := fun q hq => ((hset.m q).1 hq).1
    have i0 : (0 : Int) ≤ (i : Int) := by omega
    have m0 : (0 : Int) ≤ (m5 : Int) := by omega
    have HS := Lib.hid hset
    have HBb := Lib.hid hb
    have HI := Lib.hid hi
    have HLt := Lib.hid hlt
    have HL9 := Lib.hid hl9
    have HMM := Lib.hid hm
    by_cases hgo : i < ws.length ∧ l ≠ []
    · obtain ⟨hiw, hne⟩ := hgo
      obtain ⟨s, hs⟩ : ∃ s, ws[i]? = some s := ⟨_, List.getElem?_eq_getElem hiw⟩
      obtain ⟨A', c', es, hat⟩ := HWd.out wr hb
      obtain ⟨g, o, hgA, x0, x1⟩ := hat i s hs
      have hAw : Aw = some ⟨g, o, none⟩ := (Value.slice.inj es).1.trans hgA
      subst hAw
      have z1 : (i : Int) < (nw : Int) := by omega
      have z2 : (0 : Int) < (m5 : Int) := by
        have : l.length ≠ 0 := fun e => hne (List.length_eq_zero_iff.1 e)
        omega
      have cN := next_gen (s := s) (HM.out wr hb) HW.out HT.out.1 hset.r hl9 hlt
      have HG := Lib.hid (And.intro hiw hs)
      clear hiw hne hs es hat hgA hi hset hb hn hm hl9 hlt
      go_wp2_with (go_at_call 23; (with_reducible refine cN.mono ?_); rintro e w6 ⟨A6, m6, c6, l6, rfl, hs6, hb6⟩; have HS6 := Lib.hid hs6; have HB6 := Lib.hid hb6; clear hs6 hb6 cN)
      go_roundg (ws.length - (i + 1))
      case measure => have := HI.out; have := HG.out.1; omega
      case rel =>
        refine ⟨i + 1, A6, m6, c6, l6, by have := HG.out.1; omega, by rw [Int.natCast_add]; rfl, rfl, ⟨HS6.out.r, HS6.out.up, fun q => ?_⟩, HBb.out.trans (HB6.out.mono HBb.out.size)⟩
        rw [HS6.out.m, take_snoc HG.out.2, Run.snoc]
        refine and_congr Iff.rfl ?_
        constructor
        · rintro ⟨r, hr, t, ht, hx⟩
          exact ⟨r, ((HS.out.m r).1 hr).2, t, ht, hx⟩
        · rintro ⟨r, hr, t, ht, hx⟩
          exact ⟨r, (HS.out.m r).2 ⟨(List.getElem?_eq_some_iff.1 ht).1, hr⟩, t, ht, hx⟩
    · have cF := final_gen (HM.out wr hb) HT.out.1 hset.r hl9 hlt
      have HE := Lib.hid (fun (r : Bool) (hr : r = true ↔ ∃ i ∈ l, ∃ t, T[i]? = some t ∧ t.2.2 = true) => (show r = true ↔ A ws from by
        rw [hr, ← HA.out ws]
        by_cases hiw : i = ws.length
        · rw [hiw] at hset
          constructor
          · rintro ⟨q, hq, t, ht, hf⟩
            have := ((hset.m q).1 hq).2
            rw [List.take_length] at this
            exact ⟨q, this, t, ht, hf⟩
          · rintro ⟨q, hq, t, ht, hf⟩
            exact ⟨q, (hset.m q).2 ⟨(List.getElem?_eq_some_iff.1 ht).1, by rw [List.take_length]; exact hq⟩, t, ht, hf⟩
        · have hnil : l = [] := by
            rcases Decidable.not_and_iff_or_not.1 hgo with h | h
            · omega
            · exact Decidable.not_not.1 h
          constructor
          · rintro ⟨q, hq, _⟩; rw [hnil] at hq; cases hq
          · rintro ⟨q, hq, _⟩
            exfalso
            have hsplit : ∀ (u v : List Sy) (p q : Nat), Run (dl T) p (u ++ v) q → ∃ r, Run (dl T) p u r := by
              intro u
              induction u with
              | nil => intro v p q _; exact ⟨p, .nil p⟩
              | cons x u ih =>
                intro v p q h
                cases h with
                | cons a b => obtain ⟨r, hr⟩ := ih v _ _ b; exact ⟨r, .cons a hr⟩
            rw [← List.take_append_drop i ws] at hq
            obtain ⟨r, hr⟩ := hsplit _ _ _ _ hq
            have := (hset.m r).2 ⟨run_lt HW.out HT.out.2 HT.out.2 hr, hr⟩
            rw [hnil] at this
            cases this))
      by_cases hiw : i < ws.length
      · have hnil : l = [] := by
          rcases Decidable.not_and_iff_or_not.1 hgo with h | h
          · exact absurd hiw h
          · exact Decidable.not_not.1 h
        have z1 : (i : Int) < (nw : Int) := by omega
        have z2 : ¬ ((0 : Int) < (m5 : Int)) := by rw [hm, hnil]; decide
        clear hgo hi hset hb hn hm hl9 hlt hnil hiw
        go_wp2_with (go_at_call 25; (with_reducible refine cF.mono ?_); rintro e w6 ⟨r, rfl, hr, hb6⟩; have HR := Lib.hid (HE.out r hr); have HB6 := Lib.hid hb6; clear hr hb6 cF)
        go_ret
        exact ⟨_, rfl, HR.out, HBb.out.trans (HB6.out.mono HBb.out.size)⟩
      · have z1 : ¬ ((i : Int) < (nw : Int)) := by omega
        clear hgo hi hset hb hn hm hl9 hlt hiw
        go_wp2_with (go_at_call 25; (with_reducible refine cF.mono ?_); rintro e w6 ⟨r, rfl, hr, hb6⟩; have HR := Lib.hid (HE.out r hr); have HB6 := Lib.hid hb6; clear hr hb6 cF)
        go_ret
        exact ⟨_, rfl, HR.out, HBb.out.trans (HB6.out.mono HBb.out.size)⟩
end Go.Proofs.Ytghlajfalgdkfaa

/-
  awake, by the texts of any path.
-/
namespace Go.Proofs.Ytghlajfalgdkfaa
open Go.RowKit
set_option linter.unusedVariables false
set_option linter.unusedSimpArgs false
set_option maxRecDepth 100000

def tStar : PT := .mk 4 0 [.mk 0 0 []]
theorem star_pth (W : World) : Pth (W.alloc (.cells #[.int .i64 0, .int .i64 0, .slice none 0 0] 28)) tStar ⟨4, 0, .slice (some ⟨W.heap.size, 0, none⟩) 1 1⟩ := by
  unfold tStar Pth
  refine ⟨rfl, rfl, [⟨0, 0, .slice none 0 0⟩], .inr ⟨W.heap.size, 1, _, rfl, Fb.new W _ _, fun j p hj => ?_⟩, Pths.mk rfl fun j s p hj hq => ?_⟩
  · cases j with
    | zero => simp at hj; subst hj; exact ⟨rfl, rfl, rfl⟩
    | succ j => simp at hj
  · cases j with
    | zero =>
      simp at hj hq
      subst hj hq
      unfold Pth
      exact ⟨rfl, rfl, [], .inl ⟨rfl, none, 0, rfl⟩, Pths.mk rfl fun j s p hj => by simp at hj⟩
    | succ j => simp at hj
theorem star_wd : Wd tStar := by simp [tStar, Wd, Wds]
theorem star_chk : chk tStar = 0 := by simp [tStar, chk, hgt, hgts, sz, szs, frm, frms, fitB]
theorem star_lang (w : List Sy) : lang tStar w ↔ StarL (fun u => u = [(0, false)]) w := by
  unfold tStar
  rw [lang_again (.inl rfl)]
  unfold agL
  simp [lang, starL_congr (A := lang (.mk 0 0 [])) (B := fun u => u = [(0, false)]) (fun w => by rw [lang_step (.inl rfl)]; simp)]
theorem starL_all {w : List Sy} {s : Sy} (h : StarL (fun u => u = [s]) w) : ∀ x ∈ w, x = s := by
  induction h with
  | nil => simp
  | app a _ ih =>
    subst a
    intro x hx
    rcases List.mem_append.1 hx with hx | hx
    · exact List.mem_singleton.1 hx
    · exact ih x hx
theorem WdA.nil (W : World) : WdA W (.slice none 0 0) [] := ⟨none, 0, rfl, fun j s h => by simp at h⟩
set_option maxHeartbeats 8000000 in
theorem fawake_any (W : World) : Calls Try.prog 10 #[] W fun e w' => e = .returned (.bool true) ∧ Below W.heap.size W w' := by
  have cC := compile_ok star_wd star_chk (star_pth W)
  have HB0 := Lib.hid (show Below W.heap.size W (W.alloc (.cells #[.int .i64 0, .int .i64 0, .slice none 0 0] 28)) from (Below.refl _ _).alloc (Nat.le_refl _) _)
  go_enter Try.func10, Try.ntmps10
  go_wp2_with (first
    | (go_at_call 13; (with_reducible refine cC.mono ?_); rintro e w1 ⟨d, rfl, hm, hb⟩; have c1 := takes_gen hm (WdA.nil w1) (by decide); have HM1 := Lib.hid hm; have HB1 := Lib.hid (HB0.out.trans (hb.mono HB0.out.size)); clear hm hb)
    | (go_at_call 17; (with_reducible refine c1.mono ?_); rintro e w2 ⟨b, rfl, hbq, hb⟩; obtain rfl : b = true := hbq.2 ((star_lang _).2 .nil); have hF2 := Fb.new w2 44 #[.int .i64 0, .bool false, .int .i64 0, .bool false]; have hB2 := (HB1.out.trans (hb.mono HB1.out.size)).alloc (o := .cells #[.int .i64 0, .bool false, .int .i64 0, .bool false] 44) (HB1.out.trans (hb.mono HB1.out.size)).size; have hm2 := ((HM1.out.below hb).below ((Below.refl w2.heap.size w2).alloc (Nat.le_refl _) (.cells #[.int .i64 0, .bool false, .int .i64 0, .bool false] 44))); have c2 := takes_gen (ws := [(0, false), (0, false)]) (nw := 2) (cw := 2) (Aw := some ⟨w2.heap.size, 0, none⟩) hm2 ⟨_, _, rfl, fun j s hj => (by
        match j, hj with
        | 0, hj => simp at hj; subst hj; exact ⟨_, _, rfl, hF2.cell 0, hF2.cell 1⟩
        | 1, hj => simp at hj; subst hj; exact ⟨_, _, rfl, hF2.cell 2, hF2.cell 3⟩)⟩ (by decide); have HM2 := Lib.hid hm2; have HB2 := Lib.hid hB2; clear hF2 hb hbq hB2 hm2)
    | (go_at_call 17; (with_reducible refine c2.mono ?_); rintro e w3 ⟨b, rfl, hbq, hb⟩; obtain rfl : b = true := hbq.2 ((star_lang _).2 (.app (u := [(0, false)]) rfl (.app (u := [(0, false)]) (v := []) rfl .nil))); have hF3 := Fb.new w3 44 #[.int .i64 1, .bool false]; have hB3 := (HB2.out.trans (hb.mono HB2.out.size)).alloc (o := .cells #[.int .i64 1, .bool false] 44) (HB2.out.trans (hb.mono HB2.out.size)).size; have c3 := takes_gen (ws := [(1, false)]) (nw := 1) (cw := 1) (Aw := some ⟨w3.heap.size, 0, none⟩) ((HM2.out.below hb).below ((Below.refl w3.heap.size w3).alloc (Nat.le_refl _) (.cells #[.int .i64 1, .bool false] 44))) ⟨_, _, rfl, fun j s hj => (by
        match j, hj with
        | 0, hj => simp at hj; subst hj; exact ⟨_, _, rfl, hF3.cell 0, hF3.cell 1⟩)⟩ (by decide); have HB3 := Lib.hid hB3; clear hF3 hb hbq hB3)
    | (go_at_call 17; (with_reducible refine c3.mono ?_); rintro e w4 ⟨b, rfl, hbq, hb⟩; obtain rfl : b = false := (by
        cases b with
        | false => rfl
        | true => exact absurd (starL_all ((star_lang _).1 (hbq.1 rfl)) _ (List.mem_singleton.2 rfl)) (by decide)); have HB4 := Lib.hid (HB3.out.trans (hb.mono HB3.out.size)); clear hb hbq))
  go_ret
  exact ⟨rfl, HB4.out⟩
end Go.Proofs.Ytghlajfalgdkfaa

/-
  word: the document's symbols, and those of the path.
-/
namespace Go.Proofs.Ytghlajfalgdkfaa
open Go.RowKit
set_option linter.unusedVariables false
set_option linter.unusedSimpArgs false
set_option maxRecDepth 100000

def syc (s : Sy) : List Value := [.int .i64 s.1, .bool s.2]
theorem syc_len (x : Sy) : (syc x).length = 2 := rfl
theorem syc_one (l : List Sy) : ∀ u ∈ l.flatMap syc, u.oneCell' = true := fun u hu => by
  obtain ⟨x, _, hx⟩ := List.mem_flatMap.1 hu
  unfold syc at hx
  simp at hx
  rcases hx with rfl | rfl <;> rfl
/-- A row of symbols, of one of the two types. -/
def SyR (ty : TypeId) (B : Nat) (W : World) (v : Value) (l : List Sy) : Prop := W.ownsRow B ty 2 v l.length (l.flatMap syc)
theorem SyR.shape {ty : TypeId} {B : Nat} {W : World} {v : Value} {L : List Sy} (h : SyR ty B W v L) : ∃ A c, v = .slice A L.length c ∧ (L = [] ∨ ∃ g, A = some ⟨g, 0, none⟩ ∧ B ≤ g ∧ g < W.heap.size) := by
  rcases id h.2 with ⟨hv, hl⟩ | ⟨g, cap, cur, hv, hB, hg, _⟩
  · exact ⟨none, 0, by rw [hv, hl], .inl (List.length_eq_zero_iff.1 hl)⟩
  · exact ⟨_, cap, hv, .inr ⟨g, rfl, hB, (Array.getElem?_eq_some_iff.1 hg).1⟩⟩
theorem syZ : (Try.prog.info? 44).map (fun i => (i.zero, i.size, i.bytes)) = some (some (.agg #[.int .i64 0, .bool false]), 2, 16) := by kernel_rfl
theorem syRZ : (Try.prog.info? 75).map (fun i => (i.zero, i.size, i.bytes)) = some (some (.agg #[.int .i64 0, .bool false]), 2, 16) := by kernel_rfl
theorem flat_dropS : ∀ (L : List Sy) (j : Nat), (L.drop j).flatMap syc = (L.flatMap syc).drop (j * 2)
  | [], j => by simp
  | x :: L, 0 => by simp
  | x :: L, j + 1 => by
    rw [List.drop_succ_cons, flat_dropS L j, List.flatMap_cons]
    rw [show (j + 1) * 2 = (syc x).length + j * 2 by rw [syc_len]; omega, ← List.drop_drop]
    simp
theorem flat_atS {L : List Sy} {j t : Nat} {x : Sy} (hj : L[j]? = some x) (ht : t < 2) : (L.flatMap syc)[j * 2 + t]? = (syc x)[t]? := by
  rw [← List.getElem?_drop, ← flat_dropS]
  obtain ⟨hlt, rfl⟩ := List.getElem?_eq_some_iff.1 hj
  rw [List.drop_eq_getElem_cons hlt, List.flatMap_cons, List.getElem?_append_left (by rw [syc_len]; exact ht)]
theorem SyR.wd {B : Nat} {W : World} {v : Value} {L : List Sy} (h : SyR 44 B W v L) : WdA W v L := by
  obtain ⟨A, c, rfl, hA⟩ := h.shape
  refine ⟨A, c, rfl, fun j x hj => ?_⟩
  rcases hA with rfl | ⟨g, rfl, _, _⟩
  · simp at hj
  · have key : ∀ t u, t < 2 → (syc x)[t]? = some u → W.cell? ⟨g, j * 2 + t, none⟩ = some u := fun t u ht hu => by
      have := h.cells (g := g) rfl (j * 2 + t) u ((flat_atS hj ht).trans hu)
      rwa [at_add, Nat.zero_add] at this
    refine ⟨g, 0, rfl, ?_, ?_⟩
    · rw [Nat.zero_add]; exact key 0 _ (by decide) rfl
    · rw [Nat.zero_add]; exact key 1 _ (by decide) rfl
theorem wpl_app_s {ty tys : TypeId} (hu : Try.prog.underlying tys = some (.slice ty)) (hz : (Try.prog.info? ty).map (fun i => (i.zero, i.size, i.bytes)) = some (some (.agg #[.int .i64 0, .bool false]), 2, 16)) {ops : Array Oper} {rest : List Oper} {o : Oper} {a : Act} {w : World} {Q : Exit → Act → World → Prop} (hgd : o.guard = none) (s x : Operand)
    (ho : o.op = .call { callee := .builtin .append, args := #[s, x], argTypes := #[tys, tys] }) {B : Nat} {v u : Value} {L M : List Sy} (hs : a.eval s = v) (hx : a.eval x = u) (hL : SyR ty B w v L) (hM : SyR ty B w u M) (hB : B ≤ w.heap.size) (h1 : L.length ≤ 1000) (h2 : M.length ≤ 1000)
    (h : ∀ A n c w', n = (L ++ M).length → SyR ty B w' (.slice A n c) (L ++ M) → w.grownBy w' v.ownBlock → (∀ k, Value.ownBlock (.slice A n c) = some k → v.ownBlock = some k ∨ w.heap.size ≤ k) → wpList Try.prog ops Q rest (a.put o.dst (.slice A n c)) w') : wpList Try.prog ops Q (o :: rest) a w := by
  obtain ⟨iT, hT0, hT1, hT2, hT3⟩ := info_parts hz
  dsimp only at hT1 hT2 hT3
  refine wpList_plain hgd fun _ hK => ?_
  refine wp_app_any s x tys ho ty iT (.agg #[.int .i64 0, .bool false]) 2 16 hu hT0 hT1 hT2 hT3 rfl (by decide) (by decide) hs hx hL hM (syc_one _) (by omega) hB fun v' w' h3 h4 h5 => hK _ _ ?_
  have hr : SyR ty B w' v' (L ++ M) := by
    unfold SyR
    rw [List.length_append, List.flatMap_append]
    exact h3
  obtain ⟨A, c, rfl, _⟩ := hr.shape
  exact h A _ c w' rfl hr h4 h5
/-- Bytes, where they lie. -/
def Byt (W : World) (A : Option Addr) (l : List Int) : Prop := ∀ (j : Nat) (x : Int), l[j]? = some x → ∃ g o, A = some ⟨g, o, none⟩ ∧ g < W.heap.size ∧ W.cell? ⟨g, o + j, none⟩ = some (.int .u8 x)
theorem row_neT {B B2 : Nat} {w w' : World} {e e2 : TypeId} {z z2 n n2 : Nat} {v v2 : Value} {xs ys : List Value} (hv : w.ownsRow B e z v n xs) (hg : w.grownBy w' v.ownBlock) (hr : w.ownsRow B2 e2 z2 v2 n2 ys) (he : e2 ≠ e) : w'.ownsRow B2 e2 z2 v2 n2 ys :=
  row_keep hr fun k hk => by
    obtain ⟨cs, hc⟩ := row_type hr hk
    exact grown_neT hv hg hc he
/-- A byte's symbol. -/
def sf (x : Int) : Sy := (x % 4, decide (0 < bits .and .u8 x 64))
def WrR (W : World) (l : List Int) (gk : Nat) (s4 s5 s10 : Value) (wr : World) : Prop := ∃ (j : Nat), j + gk = l.length ∧ j ≤ 5 ∧ s10 = .int .i64 (j : Int) ∧ Below W.heap.size W wr ∧ SyR 75 W.heap.size wr s4 ((l.take j).map sf) ∧ SyR 44 W.heap.size wr s5 ((l.take j).map sf)
def WrQ (W : World) (l : List Int) (e : Ending) (w' : World) : Prop := ∃ va vb, e = .returned (.tuple #[va, vb]) ∧ SyR 75 W.heap.size w' va ((l.take 5).map sf) ∧ SyR 44 W.heap.size w' vb ((l.take 5).map sf) ∧ Below W.heap.size W w'
set_option maxHeartbeats 8000000 in
theorem word_any {W : World} {A : Option Addr} {c : Nat} {l : List Int} (hl : Byt W A l) (hb : ∀ x ∈ l, 0 ≤ x ∧ x < 256) (hlc : l.length ≤ c) (hc : c ≤ maxLen) :
    Calls Try.prog 15 #[.slice A l.length c] W (WrQ W l) := by
  have HL := Lib.hid hl
  have HBd := Lib.hid hb
  obtain ⟨n, hn⟩ : ∃ n, n = l.length := ⟨_, rfl⟩
  rw [← hn]
  have hmx : (n : Int) ≤ (maxLen : Int) := by omega
  unfold maxLen at hmx
  have n0 : (0 : Int) ≤ (n : Int) := by omega
  have HN := Lib.hid hn
  clear hl hb hlc hc hn
  go_enter Try.func15, Try.ntmps15
  go_wp2
  go_loopg [4, 5, 10] l.length (fun gk s4 s5 s10 wr => WrR W l gk s4 s5 s10 wr)
  case atStart => exact ⟨0, by omega, by omega, rfl, Below.refl _ _, World.ownsRow_nil _ _ _ _, World.ownsRow_nil _ _ _ _⟩
  case round =>
    obtain ⟨j, hj, hj5, rfl, hb, h4, h5⟩ := hrel
    obtain ⟨A4, c4, rfl, _⟩ := h4.shape
    obtain ⟨A5, c5, rfl, _⟩ := h5.shape
    rename_i k4 k5
    clear k4 k5
    have hnn := HN.out
    have j0 : (0 : Int) ≤ (j : Int) := by omega
    by_cases hlt : j < l.length
    · obtain ⟨x, hx⟩ : ∃ x, l[j]? = some x := ⟨_, List.getElem?_eq_getElem hlt⟩
      obtain ⟨g, o, hA, hg, hcell⟩ := HL.out j x hx
      subst hA
      have hcell' := cell_below hcell hb
      obtain ⟨x0, x1⟩ := HBd.out x (List.mem_of_getElem? hx)
      have j1 : (j : Int) < (n : Int) := by omega
      by_cases h55 : j = 5
      · subst h55
        have HE := Lib.hid (show WrQ W l (.returned (.tuple #[.slice A4 ((l.take 5).map sf).length c4, .slice A5 ((l.take 5).map sf).length c5])) wr from ⟨_, _, rfl, h4, h5, hb⟩)
        generalize hn4 : ((l.take 5).map sf).length = n4 at *
        have z5 : (((5 : Nat) : Int) == 5) = true := rfl
        clear hj hj5 hlt hx hb h4 h5 hnn hcell hn4
        go_wp2
        go_ret2
        exact HE.out
      · have z5 : ((j : Int) == 5) = false := by rw [beq_eq_false_iff_ne]; omega
        have hb9 : ((l.take j).map sf).length ≤ 1000 := by rw [List.length_map, List.length_take]; omega
        have hsz := hb.size
        have hrow4 : SyR 75 W.heap.size (wr.alloc (.cells #[.int .i64 (x % 4), .bool (decide (0 < bits .and .u8 x 64))] 75)) (.slice A4 ((l.take j).map sf).length c4) ((l.take j).map sf) := row_below h4 ((Below.refl _ _).alloc (Nat.le_refl _) _)
        have hrow5 : SyR 44 W.heap.size (wr.alloc (.cells #[.int .i64 (x % 4), .bool (decide (0 < bits .and .u8 x 64))] 75)) (.slice A5 ((l.take j).map sf).length c5) ((l.take j).map sf) := row_below h5 ((Below.refl _ _).alloc (Nat.le_refl _) _)
        have hnew4 : SyR 75 W.heap.size (wr.alloc (.cells #[.int .i64 (x % 4), .bool (decide (0 < bits .and .u8 x 64))] 75)) (.slice (some ⟨wr.heap.size, 0, none⟩) 1 1) [sf x] :=
          World.ownsRow_lit (base := W.heap.size) (e := 75) (size := 2) wr #[.int .i64 (x % 4), .bool (decide (0 < bits .and .u8 x 64))] 1 (by omega) (by unfold maxLen; omega) rfl
        have hbx : Below W.heap.size W (wr.alloc (.cells #[.int .i64 (x % 4), .bool (decide (0 < bits .and .u8 x 64))] 75)) := hb.alloc hb.size _
        generalize hn4 : ((l.take j).map sf).length = n4 at hrow4 hrow5 hb9 ⊢
        have HJ := Lib.hid (And.intro hj (And.intro hj5 (And.intro hlt (And.intro hx h55))))
        have HB := Lib.hid hbx
        have H4 := Lib.hid hrow4
        have H5 := Lib.hid hrow5
        have HN4 := Lib.hid hnew4
        have HSz := Lib.hid hbx.size
        have H9 := Lib.hid (And.intro hn4 hb9)
        have HOne := Lib.hid (show [sf x].length ≤ 1000 by simp)
        clear hj hj5 hlt hx hb h4 h5 hnn h55 hcell hn4 hb9 hsz hrow4 hrow5 hnew4 hbx
        go_wp2_with (first
          | (at_builtin; refine wpl_app_s Try.underlying37 syRZ rfl _ _ rfl rfl rfl H4.out HN4.out HSz.out (by have := H9.out; omega) HOne.out ?_; intro A6 n6 c6 w6 hn6 hr6 hg6 hq6; have HR6 := Lib.hid (And.intro hn6 hr6); have hrow6 := row_neT H4.out hg6 H5.out (by decide); have hb6 := HB.out.grown hg6 HSz.out (fun q hq => (row_lt H4.out q hq).1); have hnew6 : SyR 44 W.heap.size (w6.alloc (.cells #[.int .i64 (x % 4), .bool (decide (0 < bits .and .u8 x 64))] 44)) (.slice (some ⟨w6.heap.size, 0, none⟩) 1 1) [sf x] := World.ownsRow_lit (base := W.heap.size) (e := 44) (size := 2) w6 #[.int .i64 (x % 4), .bool (decide (0 < bits .and .u8 x 64))] 1 hb6.size (by unfold maxLen; omega) rfl; have hs6 := (Below.refl w6.heap.size w6).alloc (Nat.le_refl _) (.cells #[.int .i64 (x % 4), .bool (decide (0 < bits .and .u8 x 64))] 44); have HB6 := Lib.hid (hb6.trans (hs6.mono hb6.size)); have HSz6 := Lib.hid (Nat.le_trans hb6.size hs6.size); have HN6 := Lib.hid hnew6; have HRow6 := Lib.hid (row_below hrow6 hs6); have HR7 := Lib.hid (row_below hr6 hs6); clear hn6 hr6 hg6 hq6 hrow6 hb6 hnew6 hs6)
          | (at_builtin; refine wpl_app_s Try.underlying38 syZ rfl _ _ rfl rfl rfl HRow6.out HN6.out HSz6.out (by have := H9.out; omega) HOne.out ?_; intro A8 n8 c8 w8 hn8 hr8 hg8 hq8; have HR8 := Lib.hid (And.intro hn8 hr8); have HR9 := Lib.hid (row_neT HRow6.out hg8 HR7.out (by decide)); have HB8 := Lib.hid (HB6.out.grown hg8 HSz6.out (fun q hq => (row_lt HRow6.out q hq).1)); clear hn8 hr8 hg8 hq8))
        go_roundg (l.length - (j + 1))
        case measure => have := HJ.out; omega
        case rel =>
          obtain ⟨h1, h2, h3, h4, h5⟩ := HJ.out
          have e : (l.take (j + 1)).map sf = (l.take j).map sf ++ [sf x] := by
            obtain ⟨hlt, rfl⟩ := List.getElem?_eq_some_iff.1 h4
            rw [List.take_succ_eq_append_getElem hlt, List.map_append]
            rfl
          refine ⟨j + 1, by omega, by omega, by rw [Int.natCast_add]; rfl, HB8.out, ?_, ?_⟩
          · rw [e]; exact HR9.out
          · rw [e]; exact HR8.out.2
    · have hje : j = l.length := by omega
      have j1 : ¬ ((j : Int) < (n : Int)) := by omega
      have e : l.take 5 = l.take j := by rw [hje, List.take_length, List.take_of_length_le (by omega)]
      have HE := Lib.hid (show WrQ W l (.returned (.tuple #[.slice A4 ((l.take j).map sf).length c4, .slice A5 ((l.take j).map sf).length c5])) wr from ⟨_, _, rfl, by rw [e]; exact h4, by rw [e]; exact h5, hb⟩)
      generalize hn4 : ((l.take j).map sf).length = n4 at *
      clear hj hj5 hlt hb h4 h5 hnn hn4 hje e
      go_wp2
      go_ret2
      exact HE.out
end Go.Proofs.Ytghlajfalgdkfaa

/-
  Fix: nodes in memory, and their forms.
-/
namespace Go.Proofs.Ytghlajfalgdkfaa
open Go.RowKit
set_option linter.unusedVariables false
set_option linter.unusedSimpArgs false
set_option maxRecDepth 100000

structure Nd where
  k : Int
  n : Int
  ds : List Int
def pac (p : Pa) : List Value := [.int .i64 p.kd, .int .i64 p.n, p.s]
theorem pac_len (x : Pa) : (pac x).length = 3 := rfl
def BtR (B : Nat) (W : World) (v : Value) (ds : List Int) : Prop := W.ownsRow B 5 1 v ds.length (ds.map fun d => Value.int .u8 d)
/-- Nodes in a row of their own. -/
def NdO (B : Nat) (W : World) (v : Value) (ns : List Nd) : Prop := ∃ ps : List Pa, W.ownsRow B 48 3 v ps.length (ps.flatMap pac) ∧ ps.length = ns.length ∧ ∀ (j : Nat) (p : Pa) (nd : Nd), ps[j]? = some p → ns[j]? = some nd → p.kd = nd.k ∧ p.n = nd.n ∧ BtR B W p.s nd.ds
/-- Nodes as they are given. -/
def NdI (W : World) (A : Option Addr) (len : Nat) : Prop := ∀ j : Nat, j < len → ∃ (g o : Nat) (kd nn : Int) (A' : Option Addr) (m' c' : Nat) (l' : List Int), A = some ⟨g, o, none⟩ ∧ g < W.heap.size ∧ W.cell? ⟨g, o + j * 3, none⟩ = some (.int .i64 kd) ∧ W.cell? ⟨g, o + j * 3 + 1, none⟩ = some (.int .i64 nn) ∧ W.cell? ⟨g, o + j * 3 + 2, none⟩ = some (.slice A' m' c') ∧ m' = l'.length ∧ m' ≤ maxLen ∧ Byt W A' l' ∧ (∀ x ∈ l', 0 ≤ x ∧ x < 256) ∧ -9223372036854775808 ≤ kd ∧ kd < 9223372036854775808 ∧ -9223372036854775808 ≤ nn ∧ nn < 9223372036854775808
/-- The form of a node at a place. -/
structure Fm (L j : Nat) (d : Nd) : Prop where
  k : 0 ≤ d.k ∧ d.k ≤ 6
  n : 0 ≤ d.n ∧ d.n ≤ 3
  m : d.ds.length ≤ 2
  z : d.k < 2 → d.ds = []
  o : 2 ≤ d.k → d.ds ≠ []
  t : 3 < d.k → d.ds.length ≤ 1
  d : ∀ x ∈ d.ds, 0 ≤ x ∧ x + j + 1 < L
def FxR (W : World) (len gk : Nat) (s3 s12 : Value) (wr : World) : Prop := ∃ (i : Nat) (ns : List Nd), i + gk = len ∧ i ≤ 8 ∧ s12 = .int .i64 (i : Int) ∧ NdO W.heap.size wr s3 ns ∧ ns.length = i ∧ Below W.heap.size W wr ∧ ∀ (j : Nat) (d : Nd), ns[j]? = some d → Fm (min len 8) j d
def FxQ (W : World) (len : Nat) (e : Ending) (w' : World) : Prop := ∃ v ns, e = .returned v ∧ NdO W.heap.size w' v ns ∧ ns.length = min len 8 ∧ (∀ (j : Nat) (d : Nd), ns[j]? = some d → Fm (min len 8) j d) ∧ Below W.heap.size W w'
theorem NdO.shape {B : Nat} {W : World} {v : Value} {ns : List Nd} (h : NdO B W v ns) : ∃ A c, v = .slice A ns.length c := by
  obtain ⟨ps, h1, h2, _⟩ := h
  obtain ⟨A, c, e, _⟩ := row_shape h1
  exact ⟨A, c, by rw [e, h2]⟩
theorem NdO.below {B : Nat} {W W' : World} {v : Value} {ns : List Nd} (h : NdO B W v ns) (hb : Below W.heap.size W W') : NdO B W' v ns := by
  obtain ⟨ps, h1, h2, h3⟩ := h
  exact ⟨ps, row_below h1 hb, h2, fun j p nd a b => ⟨(h3 j p nd a b).1, (h3 j p nd a b).2.1, row_below (h3 j p nd a b).2.2 hb⟩⟩
def NdR (B : Nat) (W : World) (v : Value) (ps : List Pa) : Prop := W.ownsRow B 48 3 v ps.length (ps.flatMap pac)
theorem nodeZ : (Try.prog.info? 48).map (fun i => (i.zero, i.size, i.bytes)) = some (some (.agg #[.int .i64 0, .int .i64 0, .slice none 0 0]), 3, 40) := by kernel_rfl
theorem byteZ : (Try.prog.info? 5).map (fun i => (i.zero, i.size, i.bytes)) = some (some (.int .u8 0), 1, 1) := by kernel_rfl
theorem wpl_app_n {ops : Array Oper} {rest : List Oper} {o : Oper} {a : Act} {w : World} {Q : Exit → Act → World → Prop} (hgd : o.guard = none) (s x : Operand)
    (ho : o.op = .call { callee := .builtin .append, args := #[s, x], argTypes := #[22, 22] }) {B : Nat} {v u : Value} {L : List Pa} {p : Pa} (hs : a.eval s = v) (hx : a.eval x = u) (hL : NdR B w v L) (hM : NdR B w u [p]) (hB : B ≤ w.heap.size) (h1 : L.length ≤ 1000) (h2 : p.s.oneCell' = true)
    (h : ∀ A n c w', n = L.length + 1 → NdR B w' (.slice A n c) (L ++ [p]) → w.grownBy w' v.ownBlock → (∀ k, Value.ownBlock (.slice A n c) = some k → v.ownBlock = some k ∨ w.heap.size ≤ k) → wpList Try.prog ops Q rest (a.put o.dst (.slice A n c)) w') : wpList Try.prog ops Q (o :: rest) a w := by
  obtain ⟨iT, hT0, hT1, hT2, hT3⟩ := info_parts nodeZ
  dsimp only at hT1 hT2 hT3
  refine wpList_plain hgd fun _ hK => ?_
  refine wp_app_any s x 22 ho 48 iT (.agg #[.int .i64 0, .int .i64 0, .slice none 0 0]) 3 40 Try.underlying22 hT0 hT1 hT2 hT3 rfl (by decide) (by decide) hs hx hL hM (fun u hu => by
    simp [pac] at hu
    rcases hu with rfl | rfl | rfl
    · rfl
    · rfl
    · exact h2) (by simp; omega) hB fun v' w' h3 h4 h5 => hK _ _ ?_
  have hr : NdR B w' v' (L ++ [p]) := by
    unfold NdR
    rw [List.length_append, List.flatMap_append]
    exact h3
  obtain ⟨A, c, rfl, _⟩ := row_shape hr
  exact h A _ c w' (by simp) hr h4 h5
theorem wpl_app_b {ops : Array Oper} {rest : List Oper} {o : Oper} {a : Act} {w : World} {Q : Exit → Act → World → Prop} (hgd : o.guard = none) (s x : Operand)
    (ho : o.op = .call { callee := .builtin .append, args := #[s, x], argTypes := #[23, 23] }) {B : Nat} {v u : Value} {L : List Int} {d : Int} (hs : a.eval s = v) (hx : a.eval x = u) (hL : BtR B w v L) (hM : BtR B w u [d]) (hB : B ≤ w.heap.size) (h1 : L.length ≤ 1000)
    (h : ∀ A n c w', n = L.length + 1 → BtR B w' (.slice A n c) (L ++ [d]) → w.grownBy w' v.ownBlock → (∀ k, Value.ownBlock (.slice A n c) = some k → v.ownBlock = some k ∨ w.heap.size ≤ k) → wpList Try.prog ops Q rest (a.put o.dst (.slice A n c)) w') : wpList Try.prog ops Q (o :: rest) a w := by
  obtain ⟨iT, hT0, hT1, hT2, hT3⟩ := info_parts byteZ
  dsimp only at hT1 hT2 hT3
  refine wpList_plain hgd fun _ hK => ?_
  refine wp_app_any s x 23 ho 5 iT (.int .u8 0) 1 1 Try.underlying23 hT0 hT1 hT2 hT3 rfl (by decide) (by decide) hs hx hL hM (fun u hu => by obtain ⟨q, _, rfl⟩ := List.mem_map.1 hu; rfl) (by simp; omega) hB fun v' w' h3 h4 h5 => hK _ _ ?_
  have hr : BtR B w' v' (L ++ [d]) := by
    unfold BtR
    rw [List.length_append, List.map_append]
    exact h3
  obtain ⟨A, c, rfl, _⟩ := row_shape hr
  exact h A _ c w' (by simp) hr h4 h5
theorem NdO.snoc {B : Nat} {w w9 : World} {v v9 : Value} {ps : List Pa} {ns : List Nd} {p : Pa} {d : Nd} (hrow : NdR B w v ps) (hl : ps.length = ns.length) (hel : ∀ (j : Nat) (p : Pa) (nd : Nd), ps[j]? = some p → ns[j]? = some nd → p.kd = nd.k ∧ p.n = nd.n ∧ BtR B w p.s nd.ds) (hg : w.grownBy w9 v.ownBlock) (h9 : NdR B w9 v9 (ps ++ [p])) (hp : p.kd = d.k ∧ p.n = d.n ∧ BtR B w p.s d.ds) : NdO B w9 v9 (ns ++ [d]) := by
  refine ⟨ps ++ [p], h9, by simp [hl], fun j q nd h1 h2 => ?_⟩
  rcases Nat.lt_or_ge j ps.length with h | h
  · rw [List.getElem?_append_left h] at h1
    rw [List.getElem?_append_left (by omega)] at h2
    obtain ⟨a, b, c⟩ := hel j q nd h1 h2
    exact ⟨a, b, row_neT hrow hg c (by decide)⟩
  · rw [List.getElem?_append_right h] at h1
    rw [List.getElem?_append_right (by omega)] at h2
    have hj : j - ps.length = 0 := by
      have := (List.getElem?_eq_some_iff.1 h1).1
      simp at this; omega
    rw [hj] at h1
    rw [show j - ns.length = 0 by omega] at h2
    simp at h1 h2
    subst h1 h2
    exact ⟨hp.1, hp.2.1, row_neT hrow hg hp.2.2 (by decide)⟩
theorem k7 (x : Int) : 0 ≤ wrap64 ((IntKind.u64.wrap x).tmod 7) ∧ wrap64 ((IntKind.u64.wrap x).tmod 7) ≤ 6 := by
  have h0 : 0 ≤ IntKind.u64.wrap x := by simp [IntKind.wrap, IntKind.signed, IntKind.bits]; omega
  have e : (IntKind.u64.wrap x).tmod 7 = (IntKind.u64.wrap x) % 7 := Int.tmod_eq_emod_of_nonneg h0
  rw [e]
  generalize IntKind.u64.wrap x = y at h0
  simp [wrap64]; omega
theorem k4 (x : Int) : 0 ≤ wrap64 ((IntKind.u64.wrap x).tmod 4) ∧ wrap64 ((IntKind.u64.wrap x).tmod 4) ≤ 3 := by
  have h0 : 0 ≤ IntKind.u64.wrap x := by simp [IntKind.wrap, IntKind.signed, IntKind.bits]; omega
  have e : (IntKind.u64.wrap x).tmod 4 = (IntKind.u64.wrap x) % 4 := Int.tmod_eq_emod_of_nonneg h0
  rw [e]
  generalize IntKind.u64.wrap x = y at h0
  simp [wrap64]; omega
theorem row_mono {B B' : Nat} {w : World} {e : TypeId} {z n : Nat} {v : Value} {xs : List Value} (h : w.ownsRow B e z v n xs) (hb : B' ≤ B) : w.ownsRow B' e z v n xs := ⟨h.1, h.2.imp id (fun ⟨g, cap, cur, h1, h2, h3⟩ => ⟨g, cap, cur, h1, Nat.le_trans hb h2, h3⟩)⟩
theorem step_app_b {ops : Array Oper} {o : Oper} {a : Act} {K : Act → World → Prop} {Q : Exit → Act → World → Prop} {E : Prop} {w w0 : World} (hgd : o.guard = none) (s x : Operand)
    (ho : o.op = .call { callee := .builtin .append, args := #[s, x], argTypes := #[23, 23] }) {B n p g0 : Nat} {v : Value} {L : List Int} {d : Int} {cs : Array Value} (hn : L.length = n) (hs : a.eval s = v) (hx : a.eval x = .slice (some ⟨g0, 0, none⟩) 1 1) (hL : BtR B w0 v L) (hF : Fb w0 p 48 cs) (hb : Below w0.heap.size w0 w) (hd : w.cell? ⟨g0, 0, none⟩ = some (.int .u8 d)) (hB : B ≤ w0.heap.size) (h1 : L.length ≤ 1000)
    (h : ∀ A cap w', BtR B w' (.slice A (n + 1) cap) (L ++ [d]) → Fb w' p 48 cs → Below B w0 w' → K (a.put o.dst (.slice A (n + 1) cap)) w') : if Region.wanted o (yielded ops a.tmps) = true then Oper.wp Try.prog o a w K Q else E := by
  obtain ⟨iT, hT0, hT1, hT2, hT3⟩ := info_parts byteZ
  dsimp only at hT1 hT2 hT3
  have hLw : BtR B w v L := row_below hL hb
  refine step_append_lies w hgd s x 23 ho B 5 iT (.int .u8 0) 1 1 Try.underlying23 hT0 hT1 hT2 hT3 rfl (by decide) v L.length _ hs hLw ⟨g0, 0, none⟩ 1 1 [.int .u8 d] hx rfl (fun j u hj => ?_) (fun u hu => by rw [List.mem_singleton.1 hu]; rfl) (by decide) (by unfold maxLen; omega) (by omega) (Nat.le_trans hB hb.size) _ rfl ?_
  · cases j with
    | zero =>
      simp at hj
      subst hj
      exact hd
    | succ j => simp at hj
  · intro g cap w' h3 h4 h5 h6
    rw [hn]
    refine h _ _ _ ?_ ((grown_neT hLw h4 (hF.below hb) (by decide)).trans (hF.below hb)) ((hb.mono hB).grown h4 (Nat.le_trans hB hb.size) (fun q hq => (row_lt hLw q hq).1))
    unfold BtR
    rw [List.length_append, List.map_append]
    rw [hn] at h3 ⊢
    exact h3
end Go.Proofs.Ytghlajfalgdkfaa

/-
  Tree: plain.
-/
namespace Go.Proofs.Ytghlajfalgdkfaa
set_option linter.unusedVariables false

/-- The parts that a node takes of the trees behind it. -/
def pick (ts : List PT) : List Int → Nat → Nat → List PT
  | [], _, _ => []
  | d :: ds, j, s => if j = 3 then [] else match ts[(d % 8).toNat]? with
    | none => []
    | some t => if 300 < s + sz t then [] else t :: pick ts ds (j + 1) (s + sz t)
/-- The trees of nodes, from each on. -/
def trees : List Nd → List PT
  | [] => []
  | x :: ns => .mk x.k x.n (pick (trees ns) x.ds 0 1) :: trees ns
theorem trees_len : ∀ ns : List Nd, (trees ns).length = ns.length
  | [] => rfl
  | x :: ns => by rw [trees, List.length_cons, List.length_cons, trees_len ns]
theorem pick_mem (ts : List PT) : ∀ (ds : List Int) (j s : Nat), ∀ t ∈ pick ts ds j s, t ∈ ts
  | [], j, s, t, h => by simp [pick] at h
  | d :: ds, j, s, t, h => by
    unfold pick at h
    by_cases hj : j = 3
    · rw [if_pos hj] at h; cases h
    · rw [if_neg hj] at h
      cases hd : ts[(d % 8).toNat]? with
      | none => rw [hd] at h; cases h
      | some u =>
        rw [hd] at h
        dsimp only at h
        by_cases hs : 300 < s + sz u
        · rw [if_pos hs] at h; cases h
        · rw [if_neg hs] at h
          rcases List.mem_cons.1 h with rfl | h
          · exact List.mem_of_getElem? hd
          · exact pick_mem ts ds _ _ t h
theorem pick_len (ts : List PT) : ∀ (ds : List Int) (j s : Nat), j ≤ 3 → (pick ts ds j s).length + j ≤ 3
  | [], j, s, h => by simp [pick]; exact h
  | d :: ds, j, s, h => by
    unfold pick
    by_cases hj : j = 3
    · rw [if_pos hj]; simp; omega
    · rw [if_neg hj]
      cases hd : ts[(d % 8).toNat]? with
      | none => simp; omega
      | some u =>
        dsimp only
        by_cases hs : 300 < s + sz u
        · rw [if_pos hs]; simp; omega
        · rw [if_neg hs]
          have := pick_len ts ds (j + 1) (s + sz u) (by omega)
          simp only [List.length_cons]
          omega
theorem pick_sz (ts : List PT) : ∀ (ds : List Int) (j s : Nat), s ≤ 300 → s + szs (pick ts ds j s) ≤ 300
  | [], j, s, h => by simp [pick, szs]; exact h
  | d :: ds, j, s, h => by
    unfold pick
    by_cases hj : j = 3
    · rw [if_pos hj]; simp [szs]; exact h
    · rw [if_neg hj]
      cases hd : ts[(d % 8).toNat]? with
      | none => simp [szs]; exact h
      | some u =>
        dsimp only
        by_cases hs : 300 < s + sz u
        · rw [if_pos hs]; simp [szs]; exact h
        · rw [if_neg hs]
          have := pick_sz ts ds (j + 1) (s + sz u) (by omega)
          rw [szs]
          omega
theorem pick_all {ts : List PT} {M : Nat} (hl : ts.length ≤ 8) (hM : ∀ t ∈ ts, sz t ≤ M) : ∀ (ds : List Int) (j s : Nat), (∀ d ∈ ds, 0 ≤ d ∧ d < ts.length) → j + ds.length ≤ 3 → s + ds.length * M ≤ 300 → (pick ts ds j s).length = ds.length ∧ szs (pick ts ds j s) ≤ ds.length * M
  | [], j, s, _, _, _ => by simp [pick, szs]
  | d :: ds, j, s, hd, hj, hs => by
    obtain ⟨d0, d1⟩ := hd d (List.mem_cons_self ..)
    have hd8 : (d % 8).toNat < ts.length := by omega
    have hu := List.getElem?_eq_getElem hd8
    obtain ⟨u, hue⟩ : ∃ u, u = ts[(d % 8).toNat] := ⟨_, rfl⟩
    rw [← hue] at hu
    have hm := hM u (List.mem_of_getElem? hu)
    simp only [List.length_cons] at hj hs ⊢
    have hmul : (ds.length + 1) * M = ds.length * M + M := Nat.succ_mul ..
    rw [hmul] at hs ⊢
    obtain ⟨h1, h2⟩ := pick_all hl hM ds (j + 1) (s + sz u) (fun x hx => hd x (List.mem_cons_of_mem _ hx)) (by omega) (by omega)
    unfold pick
    rw [if_neg (by omega), hu]
    dsimp only
    rw [if_neg (by omega), szs, List.length_cons]
    exact ⟨by rw [h1], by omega⟩
/-- All trees have no more than three parts each. -/
theorem trees_wd : ∀ ns : List Nd, ∀ t ∈ trees ns, Wd t
  | [], t, h => by simp [trees] at h
  | x :: ns, t, h => by
    rw [trees] at h
    rcases List.mem_cons.1 h with rfl | h
    · unfold Wd
      refine ⟨by have := pick_len (trees ns) x.ds 0 1 (by omega); omega, ?_⟩
      have : ∀ l : List PT, (∀ t ∈ l, Wd t) → Wds l := fun l => by
        induction l with
        | nil => intro _; unfold Wds; trivial
        | cons a l ih =>
          intro hl
          unfold Wds
          exact ⟨hl a (List.mem_cons_self ..), ih fun s hs => hl s (List.mem_cons_of_mem _ hs)⟩
      exact this _ fun t ht => trees_wd ns t (pick_mem _ _ _ _ t ht)
    · exact trees_wd ns t h
theorem trees_sz : ∀ ns : List Nd, ∀ t ∈ trees ns, sz t ≤ 300
  | [], t, h => by simp [trees] at h
  | x :: ns, t, h => by
    rw [trees] at h
    rcases List.mem_cons.1 h with rfl | h
    · rw [sz]
      exact pick_sz (trees ns) x.ds 0 1 (by omega)
    · exact trees_sz ns t h
theorem Fm.shift {L j : Nat} {d : Nd} (h : Fm (L + 1) (j + 1) d) : Fm L j d := ⟨h.k, h.n, h.m, h.z, h.o, h.t, fun x hx => by have := h.d x hx; omega⟩
theorem hgts_le {r : Nat} : ∀ ps : List PT, (∀ p ∈ ps, hgt p + 1 ≤ r) → hgts ps ≤ r
  | [], _ => by rw [hgts]; omega
  | p :: ps, h => by
    have h1 := h p (List.mem_cons_self ..)
    have h2 := hgts_le ps fun q hq => h q (List.mem_cons_of_mem _ hq)
    rw [hgts]
    omega
/-- Nodes of the forms that they must have: their trees may be, but for how many paths are in them. -/
theorem trees_good : ∀ ns : List Nd, ns.length ≤ 8 → (∀ (j : Nat) (d : Nd), ns[j]? = some d → Fm ns.length j d) → ∀ t ∈ trees ns, frm t = true ∧ sz t + 1 ≤ 2 ^ ns.length ∧ hgt t + 1 ≤ ns.length
  | [], _, _, t, h => by simp [trees] at h
  | x :: ns, hl, hF, t, h => by
    rw [List.length_cons] at hl hF ⊢
    have ih := trees_good ns (by omega) fun j d hj => (hF (j + 1) d (by simpa using hj)).shift
    have hp : 2 ^ (ns.length + 1) = 2 * 2 ^ ns.length := by rw [Nat.pow_succ]; omega
    have h1p : 1 ≤ 2 ^ ns.length := Nat.one_le_two_pow
    rw [trees] at h
    rcases List.mem_cons.1 h with rfl | h
    · have fx := hF 0 x rfl
      have h7 : 2 ^ ns.length ≤ 2 ^ 7 := Nat.pow_le_pow_right (by decide) (by omega)
      have h128 : (2 : Nat) ^ 7 = 128 := rfl
      have hm := fx.m
      have hmul : x.ds.length * (2 ^ ns.length - 1) ≤ 2 * (2 ^ ns.length - 1) := Nat.mul_le_mul_right _ hm
      obtain ⟨h1, h2⟩ := pick_all (ts := trees ns) (M := 2 ^ ns.length - 1) (by rw [trees_len]; omega) (fun t ht => by have := (ih t ht).2.1; omega) x.ds 0 1 (fun d hd => by have := fx.d d hd; rw [trees_len]; omega) (by omega) (by omega)
      have hmem := pick_mem (trees ns) x.ds 0 1
      refine ⟨?_, by rw [sz]; omega, ?_⟩
      · rw [frm, Bool.and_eq_true]
        refine ⟨?_, (frms_iff _).2 fun t ht => (ih t (hmem t ht)).1⟩
        rw [h1]
        obtain ⟨k0, k6⟩ := fx.k
        obtain ⟨n0, n3⟩ := fx.n
        unfold fitB
        by_cases c1 : x.k = 0 ∨ x.k = 1
        · rw [if_pos c1, fx.z (by omega)]
          simp [n0]
        · rw [if_neg c1]
          have hne := fx.o (by omega)
          have hpos : 0 < x.ds.length := List.length_pos_iff.2 hne
          by_cases c2 : x.k = 2 ∨ x.k = 3
          · rw [if_pos c2]
            exact decide_eq_true hpos
          · rw [if_neg c2, if_pos (by omega)]
            have := fx.t (by omega)
            exact decide_eq_true (by omega)
      · rw [hgt]
        have := hgts_le (r := ns.length) (pick (trees ns) x.ds 0 1) fun p hp => (ih p (hmem p hp)).2.2
        omega
    · obtain ⟨a, b, c⟩ := ih t h
      exact ⟨a, by omega, by omega⟩
end Go.Proofs.Ytghlajfalgdkfaa
