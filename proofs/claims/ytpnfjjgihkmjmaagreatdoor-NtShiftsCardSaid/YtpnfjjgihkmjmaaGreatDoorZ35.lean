/-
  MERGED (a claim has at most 60 files): QPrs, NParsesW.
-/
import Derived.Test.YtpnfjjgihkmjmaaGreatDoorZ31
import Derived.Test.YtpnfjjgihkmjmaaGreatDoorZ34
import Derived.Test.YtpnfjjgihkmjmaaGreatDoorZ29
import Derived.Test.YtpnfjjgihkmjmaaGreatDoorZ27
import Derived.Test.YtpnfjjgihkmjmaaGreatDoorZ25
import Derived.Test.YtpnfjjgihkmjmaaGreatDoorZ24
import Derived.Test.YtpnfjjgihkmjmaaGreatDoorZ26
/-
  THE DOCUMENT's Parse: lines of triples.
-/
namespace Go.Proofs.YtpnfjjgihkmjmaaGreatDoor
open Go.RowKit
set_option linter.unusedVariables false
set_option linter.unusedSimpArgs false

/-- The three parts' cells. -/
def padQ (ts : List Tm) : Array Value := (ts.flatMap c4 ++ (List.replicate (3 - ts.length) [Value.int .i64 0, .string mt, .string mt, .string mt]).flatten).toArray
theorem DtV.mono {B B' : Nat} {W : World} {v : Value} {L : List (List Tm)} (h : DtV B W v L) (hB : B' ≤ B) : DtV B' W v L := by
  refine ⟨h.1, ?_⟩
  rcases id h.2 with x | ⟨g, cap, cur, hv, hg, r⟩
  · exact .inl x
  · exact .inr ⟨g, cap, cur, hv, Nat.le_trans hB hg, r⟩
def QpPost (w : World) (r : List (List Tm) × Nat × Int) (e : Ending) (w' : World) : Prop := ∃ v, e = .returned (.tuple #[v, .int .i64 r.2.1, .int .i64 r.2.2]) ∧ DtV w.heap.size w' v r.1 ∧ Below w.heap.size w w'
theorem qp_none {w w3 W : World} {r : List (List Tm) × Nat × Int} {E : Nat} {C : Int} (h : r = ([], E, C)) (hb : Below w.heap.size w w3) (hb2 : Below w3.heap.size w3 W) : QpPost w r (.returned (.tuple #[.slice none 0 0, .int .i64 E, .int .i64 C])) W := by
  subst h
  exact ⟨_, rfl, dtV_nil _ _, hb.trans (hb2.mono hb.size)⟩
/-- While lines are gone through. -/
def Pq (w : World) (v : Value) (acc : List (List Tm)) (W : World) : Prop := Below w.heap.size w W ∧ DtV w.heap.size W v acc
/-- .. and in a line: the parts' box. -/
def Pi5 (w : World) (v : Value) (acc : List (List Tm)) (g : Nat) (cs : Array Value) (W : World) : Prop := Pq w v acc W ∧ Fb W g 85 cs ∧ w.heap.size ≤ g
section
variable {w : World} {v : Value} {acc : List (List Tm)} {g : Nat} {cs : Array Value}
theorem Pq.below {W W' : World} (h : Pq w v acc W) (hb : Below W.heap.size W W') : Pq w v acc W' := ⟨h.1.trans (hb.mono h.1.size), h.2.below hb⟩
theorem Pq.boxed {W : World} (h : Pq w v acc W) (cs : Array Value) : Pi5 w v acc W.heap.size cs (W.alloc (.cells cs 85)) := ⟨h.below ((Below.refl _ _).alloc (Nat.le_refl _) _), Fb.new _ _ _, h.1.size⟩
theorem Pi5.below {W W' : World} (h : Pi5 w v acc g cs W) (hb : Below W.heap.size W W') : Pi5 w v acc g cs W' := ⟨h.1.below hb, h.2.1.below hb, h.2.2⟩
theorem Pi5.alloc {W : World} (h : Pi5 w v acc g cs W) (o : Obj) : Pi5 w v acc g cs (W.alloc o) := h.below ((Below.refl _ _).alloc (Nat.le_refl _) o)
theorem arr_ne : 38 ≠ 85 := by decide
theorem Pi5.put {W : World} (h : Pi5 w v acc g cs W) (i : Nat) (y : Value) : Pi5 w v acc g (cs.setIfInBounds i y) (W.setCell ⟨g, i, none⟩ y) :=
  ⟨⟨h.1.1.setCell (by have := h.2.2; dsimp only; omega) y, World.ownsRow.kept h.1.2 (grown_set W g i y) (Or.inr (row_box h.1.2 h.2.1 arr_ne))⟩, heap_setCell_same _ _ i _ _ y h.2.1, h.2.2⟩
end
theorem fuel_le {n k q P q2 g : Nat} (h1 : k ≤ q) (h2 : q < P) (h3 : P ≤ q2) (h4 : n - k ≤ g + 1) : n - q2 ≤ g := by omega
theorem acc_le {a g : Nat} (h : a + (g + 1) ≤ 100000) : a + 1 + g ≤ 100000 := by omega
theorem Pq.app {w : World} {v : Value} {acc : List (List Tm)} {W w5 : World} {v' : Value} {ts : List Tm} {n : Nat} {news : List Value} (h : Pq w v acc W) (hn : n = acc.length + 1) (hw : news = ts.flatMap c4) (hown : w5.ownsRow w.heap.size 38 12 v' n (cellsD acc ++ news)) (hg : W.grownBy w5 v.ownBlock) :
    Pq w v' (acc ++ [ts]) w5 := by
  subst hn hw
  refine ⟨h.1.grown hg h.1.size (fun j hj => (World.ownsRow.lt h.2 j hj).1), ?_⟩
  unfold DtV
  rw [cellsD_snoc, List.length_append]
  exact hown
def PiI (w3 : World) (sl : List Int) (v : Value) (acc : List (List Tm)) (g11 : Nat) (r3 : Option (List Tm) × Nat × Int) (g : Nat) (s8 s12 : Value) (wr : World) : Prop :=
  ∃ (j p : Nat) (ts : List Tm), j + g = 3 ∧ s12 = .int .i64 j ∧ s8 = .int .i64 (gapP sl p) ∧ ts.length = j ∧ p ≤ sl.length ∧ (∀ t ∈ ts, goodT t = true) ∧ Hid (r3 = triC sl g j p ts) ∧ Pi5 w3 v acc g11 (padQ ts) wr
def PoI (w3 : World) (sl : List Int) (r : List (List Tm) × Nat × Int) (g : Nat) (s7 s8 : Value) (wr : World) : Prop :=
  ∃ (k : Nat) (acc : List (List Tm)) (A7 : Option Addr) (c7 : Nat), Hid (r = prsC sl g k acc) ∧ k ≤ sl.length ∧ sl.length - k ≤ g ∧ acc.length + g ≤ 100000 ∧ s7 = .slice A7 acc.length c7 ∧ s8 = .int .i64 k ∧ Pq w3 (.slice A7 acc.length c7) acc wr
set_option maxHeartbeats 32000000 in
set_option maxRecDepth 100000 in
theorem qparse_any (s : ByteArray) (sl : List Int) (rest : List UInt8) (hp : Parts s.data.toList sl rest) (hs : s.size ≤ 100000) (w : World) : Calls Tryz.prog 8 #[.string s] w (QpPost w (prsB sl rest)) := by
  have hlen : sl.length ≤ 100000 := by have := hp.size; have := encL_len sl; omega
  have sA : ∀ W, Calls Tryz.prog 14 #[.string s] W (SignsPost W sl (decide (rest = []))) := fun W => signs_any s sl rest hp (by omega) W
  have HL := Lib.hid hlen
  by_cases hr : rest = []
  · subst hr
    have hd : decide (([] : List UInt8) = []) = true := rfl
    rw [hd] at sA
    obtain ⟨iD, hD0, hD1, hD2, hD3⟩ := info_parts rtripInfo
    obtain ⟨r, hrr⟩ : ∃ r, r = prsB sl [] := ⟨_, rfl⟩
    rw [← hrr]
    unfold prsB at hrr
    rw [if_pos rfl] at hrr
    have HR0 := Lib.hid hrr
    have HALL := Lib.hid hp.all
    clear hrr hd hp hs hlen
    go_enter Tryz.func8, Tryz.ntmps8
    go_wp2_with (go_at_call 14; (with_reducible refine (sA _).mono ?_); rintro e w3 ⟨vI, rfl, hI4, hb4⟩; obtain ⟨A, cap, rfl, hLq⟩ := Lq.of hI4)
    have HQ := Lib.hid hLq
    have HB3 := Lib.hid hb4
    have HST : Hid (Pq w3 (.slice none 0 0) [] w3) := Lib.hid ⟨Below.refl _ _, dtV_nil _ _⟩
    clear sA hI4 hLq hb4
    go_loopg [7, 8] sl.length (fun g s7 s8 wr => PoI w3 sl r g s7 s8 wr)
    case atStart => exact ⟨0, [], none, 0, HR0, Nat.zero_le _, by omega, by have := HL.out; simp; omega, rfl, rfl, HST.out⟩
    case round =>
      clear HST HR0
      obtain ⟨k, acc, A7, c7, HC, hk, hkg, hag, rfl, rfl, hP0⟩ := hrel
      by_cases hke : k = sl.length
      · have hrr : r = (acc, 0, 0) := by
          rw [HC.out]
          cases gk with
          | zero => rfl
          | succ g => unfold prsC; rw [if_pos hke]
        have hin : ¬ (k : Int) < (sl.length : Int) := by omega
        have HE := Lib.hid hrr
        clear hrr hke HC hkg hag hk
        go_wp2
        (try rw [Exit.noGoto_ret])
        go_ret3
        rw [HE.out]
        exact ⟨_, rfl, hP0.2.mono HB3.out.size, HB3.out.trans (hP0.1.mono HB3.out.size)⟩
      · obtain ⟨g, rfl⟩ : ∃ g, gk = g + 1 := ⟨gk - 1, by omega⟩
        have hin : (k : Int) < (sl.length : Int) := by omega
        have ho := overP_le sl k hk
        have hc := HC.out
        unfold prsC at hc
        rw [if_neg hke] at hc
        have CO : ∀ {W : World}, Pq w3 (.slice A7 acc.length c7) acc W → Calls Tryz.prog 39 #[.slice A sl.length cap, .int .i64 k] W (OvPost W (overP sl k)) := fun {W} h => qover_any ((HQ.out.below h.1 (Nat.le_refl _)).lv) k hk HL.out
        by_cases hov : (overP sl k).2 = true
        · rw [if_pos hov] at hc
          have hlt := ho.2.2 hov (by omega)
          unfold OvPost at CO
          rw [hov] at CO
          generalize (overP sl k).1 = q at CO hc hlt ho
          have HF := Lib.hid (show r = prsC sl g q acc ∧ q ≤ sl.length ∧ sl.length - q ≤ g ∧ acc.length + g ≤ 100000 from ⟨hc, ho.1, by omega, by omega⟩)
          clear hc hov ho hlt hke HC hkg hag hk
          go_wp2_with (go_at_call 39; (with_reducible refine (CO hP0).mono ?_); rintro e w5 ⟨rfl, rfl⟩)
          go_roundg g
          case measure => exact Nat.lt_succ_self g
          case rel => exact ⟨q, acc, A7, c7, Lib.hid HF.out.1, HF.out.2.1, HF.out.2.2.1, HF.out.2.2.2, rfl, rfl, hP0⟩
        · have hov2 : (overP sl k).2 = false := by simpa using hov
          rw [if_neg hov] at hc
          have hq := over_false hk hov2
          unfold OvPost at CO
          rw [hov2] at CO
          rw [hq] at CO hc ho
          have hgi := gap_idem sl k
          generalize gapP sl k = q at CO hc hgi ho
          obtain ⟨r3, h3⟩ : ∃ r3, r3 = triP sl q := ⟨_, rfl⟩
          have ht := triP_le sl HALL.out q ho.1
          rw [← h3] at hc ht
          have hno : ∀ (E : Nat) (C : Int), r3 = (none, E, C) → r = ([], E, C) := fun E C h => by rw [hc, h]
          have hyes : ∀ (ts : List Tm) (E : Nat), r3 = (some ts, E, 0) → (r = if (overP sl E).2 = true then prsC sl g (overP sl E).1 (acc ++ [ts]) else ([], (overP sl E).1, 1)) ∧ E ≤ sl.length ∧ q < E := fun ts E h => by
            rw [h] at ht
            have h2 := ht.2.2 ts rfl
            exact ⟨by rw [hc, h], ht.1, h2.2.2⟩
          have HNO := Lib.hid hno
          have HYES := Lib.hid hyes
          have HKQ := Lib.hid (show k ≤ q ∧ q ≤ sl.length ∧ sl.length - k ≤ g + 1 ∧ acc.length + (g + 1) ≤ 100000 from ⟨ho.2.1, ho.1, hkg, hag⟩)
          have HST : Hid (Pi5 w3 (.slice A7 acc.length c7) acc wr.heap.size (padQ []) (wr.alloc (.cells #[.int .i64 0, .string mt, .string mt, .string mt, .int .i64 0, .string mt, .string mt, .string mt, .int .i64 0, .string mt, .string mt, .string mt] 85))) := Lib.hid (hP0.boxed _)
          have H3 := Lib.hid h3
          have HGI := Lib.hid hgi
          clear hno hyes ht hc hov hov2 hq hgi h3 hke HC hkg hag hk
          go_wp2_with (go_at_call 39; (with_reducible refine (CO hP0).mono ?_); rintro e w5 ⟨rfl, rfl⟩)
          clear CO hP0 ho
          obtain ⟨g11, hg11⟩ : ∃ g, g = wr.heap.size := ⟨_, rfl⟩
          rw [← hg11] at HST ⊢
          have HG11 := Lib.hid hg11
          clear hg11
          go_loopg [8, 12] 3 (fun g s8 s12 wr2 => PiI w3 sl (.slice A7 acc.length c7) acc g11 r3 g s8 s12 wr2)
          case atStart => exact ⟨0, q, [], rfl, rfl, by rw [HGI.out], rfl, HKQ.out.2.1, (fun t ht => by cases ht), Lib.hid H3.out, HST.out⟩
          case round =>
            clear HST
            obtain ⟨j, p, ts, hjg, rfl, rfl, hts, hpl, hgt, hR3, hF⟩ := hrel
            obtain ⟨P, hP⟩ : ∃ P, P = gapP sl p := ⟨_, rfl⟩
            have hPl := (gapP_le sl p hpl).1
            rw [← hP] at hPl ⊢
            cases gk with
            | zero =>
              obtain rfl : j = 3 := by omega
              obtain ⟨u0, u1, u2, rfl⟩ : ∃ u0 u1 u2, ts = [u0, u1, u2] := by
                match ts, hts with
                | [m0, m1, m2], _ => exact ⟨m0, m1, m2, rfl⟩
              obtain ⟨k0, lk0⟩ : ∃ y, y = u0.kind := ⟨_, rfl⟩
              obtain ⟨a0, la0⟩ : ∃ y, y = u0.ta := ⟨_, rfl⟩
              obtain ⟨b0, lb0⟩ : ∃ y, y = u0.tb := ⟨_, rfl⟩
              obtain ⟨d0, ld0⟩ : ∃ y, y = u0.tc := ⟨_, rfl⟩
              obtain ⟨k1, lk1⟩ : ∃ y, y = u1.kind := ⟨_, rfl⟩
              obtain ⟨a1, la1⟩ : ∃ y, y = u1.ta := ⟨_, rfl⟩
              obtain ⟨b1, lb1⟩ : ∃ y, y = u1.tb := ⟨_, rfl⟩
              obtain ⟨d1, ld1⟩ : ∃ y, y = u1.tc := ⟨_, rfl⟩
              obtain ⟨k2, lk2⟩ : ∃ y, y = u2.kind := ⟨_, rfl⟩
              obtain ⟨a2, la2⟩ : ∃ y, y = u2.ta := ⟨_, rfl⟩
              obtain ⟨b2, lb2⟩ : ∃ y, y = u2.tb := ⟨_, rfl⟩
              obtain ⟨d2, ld2⟩ : ∃ y, y = u2.tc := ⟨_, rfl⟩
              have hpad : padQ [u0, u1, u2] = #[.int .i64 k0, .string a0, .string b0, .string d0, .int .i64 k1, .string a1, .string b1, .string d1, .int .i64 k2, .string a2, .string b2, .string d2] := by
                show (#[.int .i64 u0.kind, .string u0.ta, .string u0.tb, .string u0.tc, .int .i64 u1.kind, .string u1.ta, .string u1.tb, .string u1.tc, .int .i64 u2.kind, .string u2.ta, .string u2.tb, .string u2.tc] : Array Value) = _
                rw [← lk0, ← la0, ← lb0, ← ld0, ← lk1, ← la1, ← lb1, ← ld1, ← lk2, ← la2, ← lb2, ← ld2]
              have hnews : ([.int .i64 k0, .string a0, .string b0, .string d0, .int .i64 k1, .string a1, .string b1, .string d1, .int .i64 k2, .string a2, .string b2, .string d2] : List Value) = [u0, u1, u2].flatMap c4 := by
                show _ = ([.int .i64 u0.kind, .string u0.ta, .string u0.tb, .string u0.tc, .int .i64 u1.kind, .string u1.ta, .string u1.tb, .string u1.tc, .int .i64 u2.kind, .string u2.ta, .string u2.tb, .string u2.tc] : List Value)
                rw [← lk0, ← la0, ← lb0, ← ld0, ← lk1, ← la1, ← lb1, ← ld1, ← lk2, ← la2, ← lb2, ← ld2]
              rw [hpad] at hF
              have hR3' := hR3.out
              unfold triC at hR3'
              rw [← hP] at hR3'
              have cS := stands_any (cap := cap) ((HQ.out.below hF.1.1 (Nat.le_refl _)).lv) P 46 (by decide) (by decide) HL.out
              have hP5 : P ≤ 100000 := by have := HL.out; omega
              have hw1 : wrap64 ((P : Int) + 1) = (P : Int) + 1 := IntWalk.wrap64_in _ ⟨by omega, by omega⟩
              by_cases h46 : sl[P]? = some 46
              · rw [if_pos h46] at hR3'
                rw [decide_eq_true h46] at cS
                obtain ⟨hr, hle, hqP⟩ := HYES.out _ _ hR3'
                have ho2 := overP_le sl (P + 1) hle
                have CO2 := qover_any (cap := cap) ((HQ.out.below hF.1.1 (Nat.le_refl _)).lv) (P + 1) hle HL.out
                rw [Int.natCast_succ] at CO2
                unfold OvPost at CO2
                obtain ⟨hkq, hql, hkg, hag⟩ := HKQ.out
                by_cases hb2 : (overP sl (P + 1)).2 = true
                · rw [if_pos hb2] at hr
                  rw [hb2] at CO2
                  generalize (overP sl (P + 1)).1 = q2 at CO2 hr ho2
                  have HF := Lib.hid (show r = prsC sl g q2 (acc ++ [[u0, u1, u2]]) ∧ q2 ≤ sl.length ∧ sl.length - q2 ≤ g ∧ acc.length + 1 + g ≤ 100000 from ⟨hr, ho2.1, fuel_le hkq hqP ho2.2.1 hkg, acc_le hag⟩)
                  have HNEWS := Lib.hid hnews
                  obtain ⟨m0, m1, m2, m3, m4, m5, m6, m7, m8, m9, ma, mb⟩ := Fb.c12 hF.2.1
                  clear hr ho2 hle hqP hb2 hkq hql hkg hag h46 hR3' hP5 hpad hnews hts hP hjg hPl hpl hgt HKQ HYES HNO lk0 la0 lb0 ld0 lk1 la1 lb1 ld1 lk2 la2 lb2 ld2
                  go_wp2_with (first
                    | (go_at_call 42; (with_reducible refine cS.mono ?_); rintro e w5 ⟨rfl, rfl⟩)
                    | (go_at_call 39; (with_reducible refine CO2.mono ?_); rintro e w6 ⟨rfl, rfl⟩)
                    | (at_builtin; refine wpList_append_lies _ rfl _ _ 27 rfl w3.heap.size 38 iD (.agg #[.int .i64 0, .string ⟨#[]⟩, .string ⟨#[]⟩, .string ⟨#[]⟩, .int .i64 0, .string ⟨#[]⟩, .string ⟨#[]⟩, .string ⟨#[]⟩, .int .i64 0, .string ⟨#[]⟩, .string ⟨#[]⟩, .string ⟨#[]⟩]) 12 168 Tryz.underlying27 hD0 hD1 hD2 hD3 rfl (by decide) _ _ _ rfl (Pi5.alloc hF _).1.2 ⟨wr.heap.size, 0, none⟩ 1 1 [.int .i64 k0, .string a0, .string b0, .string d0, .int .i64 k1, .string a1, .string b1, .string d1, .int .i64 k2, .string a2, .string b2, .string d2] rfl rfl (cells_new _ _ _) (oc12 _ _ _ _ _ _ _ _ _ _ _ _) (by decide) (by have := HF.out.2.2.2; unfold maxLen; omega) (by have := HF.out.2.2.2; omega) ((Pi5.alloc hF _).1.1.size) _ rfl ?_; intro g5 c9 w6 hown hgrow hloc hg5; have hA := Pq.app (Pi5.alloc hF _).1 rfl HNEWS.out hown hgrow))
                  go_roundg g
                  case measure => exact Nat.lt_succ_self g
                  case rel => exact ⟨q2, acc ++ [[u0, u1, u2]], some ⟨g5, 0, none⟩, c9, Lib.hid HF.out.1, HF.out.2.1, HF.out.2.2.1, by rw [List.length_append]; exact HF.out.2.2.2, by rw [List.length_append]; rfl, rfl, by rw [List.length_append]; exact hA⟩
                · have hb3 : (overP sl (P + 1)).2 = false := by simpa using hb2
                  rw [if_neg hb2] at hr
                  rw [hb3] at CO2
                  generalize (overP sl (P + 1)).1 = q2 at CO2 hr ho2
                  have HR := Lib.hid hr
                  clear hr ho2 hle hqP hb2 hb3 hkq hql hkg hag h46 hR3' hP5 hpad hnews hts hP hjg hPl hpl hgt HKQ HYES HNO lk0 la0 lb0 ld0 lk1 la1 lb1 ld1 lk2 la2 lb2 ld2
                  go_wp2_with (first
                    | (go_at_call 42; (with_reducible refine cS.mono ?_); rintro e w5 ⟨rfl, rfl⟩)
                    | (go_at_call 39; (with_reducible refine CO2.mono ?_); rintro e w6 ⟨rfl, rfl⟩))
                  (repeat rw [Exit.noGoto_ret])
                  go_ret3
                  exact qp_none HR.out HB3.out hF.1.1
              · rw [if_neg h46] at hR3'
                rw [decide_eq_false h46] at cS
                have hr := HNO.out _ _ hR3'
                have HR := Lib.hid hr
                clear hr h46 hR3' hP5 hw1 hpad hnews hts hP hjg hPl hpl hgt HKQ HYES HNO lk0 la0 lb0 ld0 lk1 la1 lb1 ld1 lk2 la2 lb2 ld2
                go_wp2_with (go_at_call 42; (with_reducible refine cS.mono ?_); rintro e w5 ⟨rfl, rfl⟩)
                (repeat rw [Exit.noGoto_ret])
                go_ret3
                exact qp_none HR.out HB3.out hF.1.1
            | succ g4 =>
              have hrl := readP_le sl P hPl HALL.out
              have CRd : ∀ {cs : Array Value} {W : World}, Pi5 w3 (.slice A7 acc.length c7) acc g11 cs W → Calls Tryz.prog 40 #[.slice A sl.length cap, .int .i64 P] W fun e w' => e = .returned (.tuple #[T4 ((readP sl P).1.getD (.blank mt)), .int .i64 ((readP sl P).2.1 : Nat), .int .i64 (readP sl P).2.2]) ∧ Pi5 w3 (.slice A7 acc.length c7) acc g11 cs w' := fun {cs W} h =>
                (qread_any (HQ.out.below h.1.1 (Nat.le_refl _)) HALL.out P hPl HL.out).mono fun _ _ ⟨x, y⟩ => ⟨x, h.below y⟩
              replace hP := hP.symm
              obtain rfl | rfl | rfl : j = 0 ∨ j = 1 ∨ j = 2 := by omega
              · obtain rfl : ts = [] := List.length_eq_zero_iff.1 hts
                have hpad : padQ [] = #[.int .i64 0, .string mt, .string mt, .string mt, .int .i64 0, .string mt, .string mt, .string mt, .int .i64 0, .string mt, .string mt, .string mt] := by
                  show (#[.int .i64 0, .string mt, .string mt, .string mt, .int .i64 0, .string mt, .string mt, .string mt, .int .i64 0, .string mt, .string mt, .string mt] : Array Value) = _
                  rfl
                rw [hpad] at hF
                cases hu : (readP sl P).1 with
                | none =>
                  have hcode := readP_code hu
                  have hp1 : partP sl p 0 = readP sl P := by unfold partP; rw [hP, hu]
                  have h3 : r3 = (none, (readP sl P).2.1, (readP sl P).2.2) := by
                    rw [hR3.out]
                    unfold triC
                    rw [hp1, hu]
                  have hr := HNO.out _ _ h3
                  rw [hu] at CRd
                  simp only [Option.getD_none] at CRd
                  generalize (readP sl P).2.1 = E at CRd hr
                  generalize (readP sl P).2.2 = C at CRd hr hcode
                  have hCb : (C != 0) = true := by rw [bne_iff_ne]; exact hcode
                  have HR := Lib.hid hr
                  clear hcode hp1 h3 hr hrl hpad hts hPl hjg hu 
                  go_wp2_with (go_at_call 40; (with_reducible refine (CRd hF).mono ?_); rintro e w5 ⟨rfl, hF5⟩)
                  (repeat rw [Exit.noGoto_ret])
                  go_ret3
                  exact qp_none HR.out HB3.out (hF5.1.1.alloc hF5.1.1.size _)
                | some u =>
                  obtain ⟨hc0, hgu⟩ := readP_ok hu
                  have hrl2 := hrl.2.2 u hu
                  rw [hu] at CRd
                  rw [hc0] at CRd
                  simp only [Option.getD_some] at CRd
                  unfold T4 at CRd
                  have hku := good_kind hgu
                  have hkn := kind_nn u
                  by_cases hm : mayB u 0 = true
                  · have hp1 : partP sl p 0 = (some u, (readP sl P).2.1, 0) := by unfold partP; rw [hP, hu]; dsimp only; rw [if_pos hm]
                    have h3 : r3 = triC sl g4 (0 + 1) (readP sl P).2.1 ([] ++ [u]) := by
                      rw [hR3.out]
                      conv => lhs; unfold triC
                      rw [hp1]
                    have hEl := hrl.1
                    generalize (readP sl P).2.1 = E at CRd h3 hEl
                    have hE5 : E ≤ sl.length := hEl
                    have CG : ∀ {cs : Array Value} {W : World}, Pi5 w3 (.slice A7 acc.length c7) acc g11 cs W → Calls Tryz.prog 41 #[.slice A sl.length cap, .int .i64 E] W fun e w' => e = .returned (.int .i64 (gapP sl E)) ∧ W = w' := fun {cs W} h => qgap_any ((HQ.out.below h.1.1 (Nat.le_refl _)).lv) E hE5 HL.out
                    have hkj : ¬ (1 : Int) < u.kind := by
                      have := may_low hm (by decide); omega
                    obtain ⟨K, hK⟩ : ∃ y, y = u.kind := ⟨_, rfl⟩
                    obtain ⟨x, hx⟩ : ∃ y, y = u.ta := ⟨_, rfl⟩
                    obtain ⟨y, hy⟩ : ∃ y, y = u.tb := ⟨_, rfl⟩
                    obtain ⟨z, hz⟩ : ∃ y, y = u.tc := ⟨_, rfl⟩
                    rw [← hK, ← hx, ← hy, ← hz] at CRd
                    rw [← hK] at hkj
                    have hpn : #[.int .i64 K, .string x, .string y, .string z, .int .i64 0, .string mt, .string mt, .string mt, .int .i64 0, .string mt, .string mt, .string mt] = padQ ([] ++ [u]) := by
                      show _ = (#[.int .i64 u.kind, .string u.ta, .string u.tb, .string u.tc, .int .i64 0, .string mt, .string mt, .string mt, .int .i64 0, .string mt, .string mt, .string mt] : Array Value)
                      rw [← hK, ← hx, ← hy, ← hz]
                    have HPN := Lib.hid hpn
                    have H3 := Lib.hid h3
                    have HEL := Lib.hid hEl
                    have hgd : ∀ t ∈ [] ++ [u], goodT t = true := fun t ht => by
                      rcases List.mem_append.1 ht with ht | ht
                      · exact hgt t ht
                      · obtain rfl : t = u := by simpa using ht
                        exact hgu
                    have HGD := Lib.hid hgd
                    have HJG := Lib.hid hjg
                    clear hp1 h3 hEl hE5 hm hc0 hgu hku hkn hrl hrl2 hpn hgd hgt hK hx hy hz hpad hts hPl hjg hu 
                    go_wp2_with (first
                      | (go_at_call 40; (with_reducible refine (CRd hF).mono ?_); rintro e w5 ⟨rfl, hF5⟩; obtain ⟨m0, m1, m2, m3, m4, m5, m6, m7, m8, m9, ma, mb⟩ := Fb.c12 hF5.2.1; obtain ⟨f0, f1, f2, f3, hz5, hz6, hz7⟩ : w5.frozen? ⟨g11, 0, none⟩ = false ∧ w5.frozen? ⟨g11, 1, none⟩ = false ∧ w5.frozen? ⟨g11, 2, none⟩ = false ∧ w5.frozen? ⟨g11, 3, none⟩ = false ∧ g11 < w5.heap.size ∧ g11 ≠ w5.heap.size ∧ w5.heap.size ≠ g11 := ⟨hF5.2.1.free 0, hF5.2.1.free 1, hF5.2.1.free 2, hF5.2.1.free 3, hF5.2.1.lt, Nat.ne_of_lt hF5.2.1.lt, Nat.ne_of_gt hF5.2.1.lt⟩; have h8 := ((((hF5.put 0 (.int .i64 K)).put 1 (.string x)).put 2 (.string y)).put 3 (.string z)).alloc (.cells #[.int .i64 K, .string x, .string y, .string z] 36))
                      | (go_at_call 41; (with_reducible refine (CG h8).mono ?_); rintro e w6 ⟨rfl, rfl⟩))
                    go_roundg g4
                    case measure => exact Nat.lt_succ_self g4
                    case rel => exact ⟨0 + 1, E, [] ++ [u], by have := HJG.out; omega, by first | rfl | go_num, rfl, rfl, HEL.out, HGD.out, Lib.hid H3.out, by rw [← HPN.out]; exact h8⟩
                  · have hp1 : partP sl p 0 = (none, P, 3) := by unfold partP; rw [hP, hu]; dsimp only; rw [if_neg hm]
                    have h3 : r3 = (none, P, 3) := by
                      rw [hR3.out]
                      unfold triC
                      rw [hp1]
                    have hr := HNO.out _ _ h3
                    have hkj : (1 : Int) < u.kind := by
                      unfold mayB at hm
                      simp at hm; omega
                    generalize (readP sl P).2.1 = E at CRd
                    generalize u.kind = K at CRd hkj
                    generalize u.ta = x at CRd
                    generalize u.tb = y at CRd
                    generalize u.tc = z at CRd
                    have HR := Lib.hid hr
                    clear hp1 h3 hr hm hc0 hgu hku hkn hrl hrl2 hpad hts hPl hjg hu 
                    go_wp2_with (go_at_call 40; (with_reducible refine (CRd hF).mono ?_); rintro e w5 ⟨rfl, hF5⟩)
                    (repeat rw [Exit.noGoto_ret])
                    go_ret3
                    exact qp_none HR.out HB3.out (hF5.1.1.alloc hF5.1.1.size _)
              · obtain ⟨u0, rfl⟩ : ∃ u0, ts = [u0] := by
                  match ts, hts with
                  | [m0], _ => exact ⟨m0, rfl⟩
                obtain ⟨k0, lk0⟩ : ∃ y, y = u0.kind := ⟨_, rfl⟩
                obtain ⟨a0, la0⟩ : ∃ y, y = u0.ta := ⟨_, rfl⟩
                obtain ⟨b0, lb0⟩ : ∃ y, y = u0.tb := ⟨_, rfl⟩
                obtain ⟨d0, ld0⟩ : ∃ y, y = u0.tc := ⟨_, rfl⟩
                have hpad : padQ [u0] = #[.int .i64 k0, .string a0, .string b0, .string d0, .int .i64 0, .string mt, .string mt, .string mt, .int .i64 0, .string mt, .string mt, .string mt] := by
                  show (#[.int .i64 u0.kind, .string u0.ta, .string u0.tb, .string u0.tc, .int .i64 0, .string mt, .string mt, .string mt, .int .i64 0, .string mt, .string mt, .string mt] : Array Value) = _
                  rw [← lk0, ← la0, ← lb0, ← ld0]
                rw [hpad] at hF
                cases hu : (readP sl P).1 with
                | none =>
                  have hcode := readP_code hu
                  have hp1 : partP sl p 1 = readP sl P := by unfold partP; rw [hP, hu]
                  have h3 : r3 = (none, (readP sl P).2.1, (readP sl P).2.2) := by
                    rw [hR3.out]
                    unfold triC
                    rw [hp1, hu]
                  have hr := HNO.out _ _ h3
                  rw [hu] at CRd
                  simp only [Option.getD_none] at CRd
                  generalize (readP sl P).2.1 = E at CRd hr
                  generalize (readP sl P).2.2 = C at CRd hr hcode
                  have hCb : (C != 0) = true := by rw [bne_iff_ne]; exact hcode
                  have HR := Lib.hid hr
                  clear hcode hp1 h3 hr hrl hpad hts hPl hjg hu lk0 la0 lb0 ld0
                  go_wp2_with (go_at_call 40; (with_reducible refine (CRd hF).mono ?_); rintro e w5 ⟨rfl, hF5⟩)
                  (repeat rw [Exit.noGoto_ret])
                  go_ret3
                  exact qp_none HR.out HB3.out (hF5.1.1.alloc hF5.1.1.size _)
                | some u =>
                  obtain ⟨hc0, hgu⟩ := readP_ok hu
                  have hrl2 := hrl.2.2 u hu
                  rw [hu] at CRd
                  rw [hc0] at CRd
                  simp only [Option.getD_some] at CRd
                  unfold T4 at CRd
                  have hku := good_kind hgu
                  have hkn := kind_nn u
                  by_cases hm : mayB u 1 = true
                  · have hp1 : partP sl p 1 = (some u, (readP sl P).2.1, 0) := by unfold partP; rw [hP, hu]; dsimp only; rw [if_pos hm]
                    have h3 : r3 = triC sl g4 (1 + 1) (readP sl P).2.1 ([u0] ++ [u]) := by
                      rw [hR3.out]
                      conv => lhs; unfold triC
                      rw [hp1]
                    have hEl := hrl.1
                    generalize (readP sl P).2.1 = E at CRd h3 hEl
                    have hE5 : E ≤ sl.length := hEl
                    have CG : ∀ {cs : Array Value} {W : World}, Pi5 w3 (.slice A7 acc.length c7) acc g11 cs W → Calls Tryz.prog 41 #[.slice A sl.length cap, .int .i64 E] W fun e w' => e = .returned (.int .i64 (gapP sl E)) ∧ W = w' := fun {cs W} h => qgap_any ((HQ.out.below h.1.1 (Nat.le_refl _)).lv) E hE5 HL.out
                    have hkj : (u.kind != 1) = false := by
                      unfold mayB at hm; simp at hm; rw [bne_eq_false_iff_eq]; omega
                    obtain ⟨K, hK⟩ : ∃ y, y = u.kind := ⟨_, rfl⟩
                    obtain ⟨x, hx⟩ : ∃ y, y = u.ta := ⟨_, rfl⟩
                    obtain ⟨y, hy⟩ : ∃ y, y = u.tb := ⟨_, rfl⟩
                    obtain ⟨z, hz⟩ : ∃ y, y = u.tc := ⟨_, rfl⟩
                    rw [← hK, ← hx, ← hy, ← hz] at CRd
                    rw [← hK] at hkj
                    have hpn : #[.int .i64 k0, .string a0, .string b0, .string d0, .int .i64 K, .string x, .string y, .string z, .int .i64 0, .string mt, .string mt, .string mt] = padQ ([u0] ++ [u]) := by
                      show _ = (#[.int .i64 u0.kind, .string u0.ta, .string u0.tb, .string u0.tc, .int .i64 u.kind, .string u.ta, .string u.tb, .string u.tc, .int .i64 0, .string mt, .string mt, .string mt] : Array Value)
                      rw [← lk0, ← la0, ← lb0, ← ld0, ← hK, ← hx, ← hy, ← hz]
                    have HPN := Lib.hid hpn
                    have H3 := Lib.hid h3
                    have HEL := Lib.hid hEl
                    have hgd : ∀ t ∈ [u0] ++ [u], goodT t = true := fun t ht => by
                      rcases List.mem_append.1 ht with ht | ht
                      · exact hgt t ht
                      · obtain rfl : t = u := by simpa using ht
                        exact hgu
                    have HGD := Lib.hid hgd
                    have HJG := Lib.hid hjg
                    clear hp1 h3 hEl hE5 hm hc0 hgu hku hkn hrl hrl2 hpn hgd hgt hK hx hy hz hpad hts hPl hjg hu lk0 la0 lb0 ld0
                    go_wp2_with (first
                      | (go_at_call 40; (with_reducible refine (CRd hF).mono ?_); rintro e w5 ⟨rfl, hF5⟩; obtain ⟨m0, m1, m2, m3, m4, m5, m6, m7, m8, m9, ma, mb⟩ := Fb.c12 hF5.2.1; obtain ⟨f0, f1, f2, f3, hz5, hz6, hz7⟩ : w5.frozen? ⟨g11, 4, none⟩ = false ∧ w5.frozen? ⟨g11, 5, none⟩ = false ∧ w5.frozen? ⟨g11, 6, none⟩ = false ∧ w5.frozen? ⟨g11, 7, none⟩ = false ∧ g11 < w5.heap.size ∧ g11 ≠ w5.heap.size ∧ w5.heap.size ≠ g11 := ⟨hF5.2.1.free 4, hF5.2.1.free 5, hF5.2.1.free 6, hF5.2.1.free 7, hF5.2.1.lt, Nat.ne_of_lt hF5.2.1.lt, Nat.ne_of_gt hF5.2.1.lt⟩; have h8 := ((((hF5.put 4 (.int .i64 K)).put 5 (.string x)).put 6 (.string y)).put 7 (.string z)).alloc (.cells #[.int .i64 K, .string x, .string y, .string z] 36))
                      | (go_at_call 41; (with_reducible refine (CG h8).mono ?_); rintro e w6 ⟨rfl, rfl⟩))
                    go_roundg g4
                    case measure => exact Nat.lt_succ_self g4
                    case rel => exact ⟨1 + 1, E, [u0] ++ [u], by have := HJG.out; omega, by first | rfl | go_num, rfl, rfl, HEL.out, HGD.out, Lib.hid H3.out, by rw [← HPN.out]; exact h8⟩
                  · have hp1 : partP sl p 1 = (none, P, 3) := by unfold partP; rw [hP, hu]; dsimp only; rw [if_neg hm]
                    have h3 : r3 = (none, P, 3) := by
                      rw [hR3.out]
                      unfold triC
                      rw [hp1]
                    have hr := HNO.out _ _ h3
                    have hkj : (u.kind != 1) = true := by
                      unfold mayB at hm
                      simp at hm; rw [bne_iff_ne]; omega
                    generalize (readP sl P).2.1 = E at CRd
                    generalize u.kind = K at CRd hkj
                    generalize u.ta = x at CRd
                    generalize u.tb = y at CRd
                    generalize u.tc = z at CRd
                    have HR := Lib.hid hr
                    clear hp1 h3 hr hm hc0 hgu hku hkn hrl hrl2 hpad hts hPl hjg hu lk0 la0 lb0 ld0
                    go_wp2_with (go_at_call 40; (with_reducible refine (CRd hF).mono ?_); rintro e w5 ⟨rfl, hF5⟩)
                    (repeat rw [Exit.noGoto_ret])
                    go_ret3
                    exact qp_none HR.out HB3.out (hF5.1.1.alloc hF5.1.1.size _)
              · obtain ⟨u0, u1, rfl⟩ : ∃ u0 u1, ts = [u0, u1] := by
                  match ts, hts with
                  | [m0, m1], _ => exact ⟨m0, m1, rfl⟩
                obtain ⟨k0, lk0⟩ : ∃ y, y = u0.kind := ⟨_, rfl⟩
                obtain ⟨a0, la0⟩ : ∃ y, y = u0.ta := ⟨_, rfl⟩
                obtain ⟨b0, lb0⟩ : ∃ y, y = u0.tb := ⟨_, rfl⟩
                obtain ⟨d0, ld0⟩ : ∃ y, y = u0.tc := ⟨_, rfl⟩
                obtain ⟨k1, lk1⟩ : ∃ y, y = u1.kind := ⟨_, rfl⟩
                obtain ⟨a1, la1⟩ : ∃ y, y = u1.ta := ⟨_, rfl⟩
                obtain ⟨b1, lb1⟩ : ∃ y, y = u1.tb := ⟨_, rfl⟩
                obtain ⟨d1, ld1⟩ : ∃ y, y = u1.tc := ⟨_, rfl⟩
                have hpad : padQ [u0, u1] = #[.int .i64 k0, .string a0, .string b0, .string d0, .int .i64 k1, .string a1, .string b1, .string d1, .int .i64 0, .string mt, .string mt, .string mt] := by
                  show (#[.int .i64 u0.kind, .string u0.ta, .string u0.tb, .string u0.tc, .int .i64 u1.kind, .string u1.ta, .string u1.tb, .string u1.tc, .int .i64 0, .string mt, .string mt, .string mt] : Array Value) = _
                  rw [← lk0, ← la0, ← lb0, ← ld0, ← lk1, ← la1, ← lb1, ← ld1]
                rw [hpad] at hF
                cases hu : (readP sl P).1 with
                | none =>
                  have hcode := readP_code hu
                  have hp1 : partP sl p 2 = readP sl P := by unfold partP; rw [hP, hu]
                  have h3 : r3 = (none, (readP sl P).2.1, (readP sl P).2.2) := by
                    rw [hR3.out]
                    unfold triC
                    rw [hp1, hu]
                  have hr := HNO.out _ _ h3
                  rw [hu] at CRd
                  simp only [Option.getD_none] at CRd
                  generalize (readP sl P).2.1 = E at CRd hr
                  generalize (readP sl P).2.2 = C at CRd hr hcode
                  have hCb : (C != 0) = true := by rw [bne_iff_ne]; exact hcode
                  have HR := Lib.hid hr
                  clear hcode hp1 h3 hr hrl hpad hts hPl hjg hu lk0 la0 lb0 ld0 lk1 la1 lb1 ld1
                  go_wp2_with (go_at_call 40; (with_reducible refine (CRd hF).mono ?_); rintro e w5 ⟨rfl, hF5⟩)
                  (repeat rw [Exit.noGoto_ret])
                  go_ret3
                  exact qp_none HR.out HB3.out (hF5.1.1.alloc hF5.1.1.size _)
                | some u =>
                  obtain ⟨hc0, hgu⟩ := readP_ok hu
                  have hrl2 := hrl.2.2 u hu
                  rw [hu] at CRd
                  rw [hc0] at CRd
                  simp only [Option.getD_some] at CRd
                  unfold T4 at CRd
                  have hku := good_kind hgu
                  have hkn := kind_nn u
                  by_cases hm : mayB u 2 = true
                  · have hp1 : partP sl p 2 = (some u, (readP sl P).2.1, 0) := by unfold partP; rw [hP, hu]; dsimp only; rw [if_pos hm]
                    have h3 : r3 = triC sl g4 (2 + 1) (readP sl P).2.1 ([u0, u1] ++ [u]) := by
                      rw [hR3.out]
                      conv => lhs; unfold triC
                      rw [hp1]
                    have hEl := hrl.1
                    generalize (readP sl P).2.1 = E at CRd h3 hEl
                    have hE5 : E ≤ sl.length := hEl
                    have CG : ∀ {cs : Array Value} {W : World}, Pi5 w3 (.slice A7 acc.length c7) acc g11 cs W → Calls Tryz.prog 41 #[.slice A sl.length cap, .int .i64 E] W fun e w' => e = .returned (.int .i64 (gapP sl E)) ∧ W = w' := fun {cs W} h => qgap_any ((HQ.out.below h.1.1 (Nat.le_refl _)).lv) E hE5 HL.out
                    have hkj : True := by
                      trivial
                    obtain ⟨K, hK⟩ : ∃ y, y = u.kind := ⟨_, rfl⟩
                    obtain ⟨x, hx⟩ : ∃ y, y = u.ta := ⟨_, rfl⟩
                    obtain ⟨y, hy⟩ : ∃ y, y = u.tb := ⟨_, rfl⟩
                    obtain ⟨z, hz⟩ : ∃ y, y = u.tc := ⟨_, rfl⟩
                    rw [← hK, ← hx, ← hy, ← hz] at CRd
                    have hpn : #[.int .i64 k0, .string a0, .string b0, .string d0, .int .i64 k1, .string a1, .string b1, .string d1, .int .i64 K, .string x, .string y, .string z] = padQ ([u0, u1] ++ [u]) := by
                      show _ = (#[.int .i64 u0.kind, .string u0.ta, .string u0.tb, .string u0.tc, .int .i64 u1.kind, .string u1.ta, .string u1.tb, .string u1.tc, .int .i64 u.kind, .string u.ta, .string u.tb, .string u.tc] : Array Value)
                      rw [← lk0, ← la0, ← lb0, ← ld0, ← lk1, ← la1, ← lb1, ← ld1, ← hK, ← hx, ← hy, ← hz]
                    have HPN := Lib.hid hpn
                    have H3 := Lib.hid h3
                    have HEL := Lib.hid hEl
                    have hgd : ∀ t ∈ [u0, u1] ++ [u], goodT t = true := fun t ht => by
                      rcases List.mem_append.1 ht with ht | ht
                      · exact hgt t ht
                      · obtain rfl : t = u := by simpa using ht
                        exact hgu
                    have HGD := Lib.hid hgd
                    have HJG := Lib.hid hjg
                    clear hp1 h3 hEl hE5 hm hc0 hgu hku hkn hrl hrl2 hpn hgd hgt hK hx hy hz hpad hts hPl hjg hu lk0 la0 lb0 ld0 lk1 la1 lb1 ld1
                    go_wp2_with (first
                      | (go_at_call 40; (with_reducible refine (CRd hF).mono ?_); rintro e w5 ⟨rfl, hF5⟩; obtain ⟨m0, m1, m2, m3, m4, m5, m6, m7, m8, m9, ma, mb⟩ := Fb.c12 hF5.2.1; obtain ⟨f0, f1, f2, f3, hz5, hz6, hz7⟩ : w5.frozen? ⟨g11, 8, none⟩ = false ∧ w5.frozen? ⟨g11, 9, none⟩ = false ∧ w5.frozen? ⟨g11, 10, none⟩ = false ∧ w5.frozen? ⟨g11, 11, none⟩ = false ∧ g11 < w5.heap.size ∧ g11 ≠ w5.heap.size ∧ w5.heap.size ≠ g11 := ⟨hF5.2.1.free 8, hF5.2.1.free 9, hF5.2.1.free 10, hF5.2.1.free 11, hF5.2.1.lt, Nat.ne_of_lt hF5.2.1.lt, Nat.ne_of_gt hF5.2.1.lt⟩; have h8 := ((((hF5.put 8 (.int .i64 K)).put 9 (.string x)).put 10 (.string y)).put 11 (.string z)).alloc (.cells #[.int .i64 K, .string x, .string y, .string z] 36))
                      | (go_at_call 41; (with_reducible refine (CG h8).mono ?_); rintro e w6 ⟨rfl, rfl⟩))
                    go_roundg g4
                    case measure => exact Nat.lt_succ_self g4
                    case rel => exact ⟨2 + 1, E, [u0, u1] ++ [u], by have := HJG.out; omega, by first | rfl | go_num, rfl, rfl, HEL.out, HGD.out, Lib.hid H3.out, by rw [← HPN.out]; exact h8⟩
                  · have hp1 : partP sl p 2 = (none, P, 3) := by unfold partP; rw [hP, hu]; dsimp only; rw [if_neg hm]
                    have h3 : r3 = (none, P, 3) := by
                      rw [hR3.out]
                      unfold triC
                      rw [hp1]
                    have hr := HNO.out _ _ h3
                    exact absurd (by unfold mayB; rw [Bool.or_eq_true, Bool.or_eq_true, Bool.and_eq_true, Bool.and_eq_true]; simp; omega) hm
  · have hd : decide (rest = []) = false := decide_eq_false hr
    rw [hd] at sA
    unfold prsB
    rw [if_neg hr]
    clear hd hr hp hs hlen
    go_enter Tryz.func8, Tryz.ntmps8
    go_wp2_with (go_at_call 14; (with_reducible refine (sA _).mono ?_); rintro e w3 ⟨vI, rfl, hI4, hb4⟩; obtain ⟨A, cap, rfl⟩ := ints_shape hI4)
    go_ret3
    exact ⟨_, rfl, dtV_nil _ _, hb4⟩
end Go.Proofs.YtpnfjjgihkmjmaaGreatDoor

/-
  NtParses's walk.
-/
namespace Go.Proofs.YtpnfjjgihkmjmaaGreatDoor
open Go.RowKit
set_option linter.unusedVariables false
set_option linter.unusedSimpArgs false

set_option maxHeartbeats 8000000 in
set_option maxRecDepth 100000 in
theorem ntparses_walk (s : ByteArray) (_hs : s.size ≤ maxLen) (w : World) (t : TypeId) (fr : Nat × Nat) (htab : w.heap[0]? = some (.cells escCells t fr)) :
    Calls Tryz.prog 3 #[.string s] w fun e w' => e = .returned (.bool true) ∧ Below w.heap.size w w' := by
  have hlt0 : 0 < w.heap.size := (Array.getElem?_eq_some_iff.1 htab).1
  have hTW : ∀ {W : World}, Below w.heap.size w W → W.heap[0]? = some (.cells escCells t fr) := fun {W} hb => tab_below htab hb hlt0
  have cA : ∀ {W : World}, Below w.heap.size w W → Calls Tryz.prog 6 #[] W fun e w' => e = .returned (.bool true) ∧ Below w.heap.size w w' := fun {W} hb => (nawake_ok W t fr (hTW hb)).mono fun _ _ ⟨x, y⟩ => ⟨x, hb.trans (y.mono hb.size)⟩
  have hB0 : Below w.heap.size w w := Below.refl _ _
  by_cases hz : 600 < s.size
  · have hzI : (600 : Int) < (s.size : Int) := by omega
    clear hz hTW htab hlt0 _hs
    go_enter Tryz.func3, Tryz.ntmps3
    go_wp2_with (first
      | (go_at_call 6; (with_reducible refine (cA hB0).mono ?_); rintro e w1 ⟨rfl, hB1⟩)
      | (go_at_call 6; (with_reducible refine (cA hB1).mono ?_); rintro e w2 ⟨rfl, hB2⟩))
    go_ret
    exact ⟨rfl, by assumption⟩
  have hzI : ¬ (600 : Int) < (s.size : Int) := by omega
  obtain ⟨sl, rest, hp⟩ := parts_of s.data.toList
  have hsl : sl.length ≤ 600 := by
    have h1 := len_of s _ hp.eq
    have h2 := (encL_len sl).1
    simp at h1
    omega
  have hall : AllS sl := hp.all
  have hfew := prsB_few hall hsl rest
  have cP1 : ∀ {W : World}, Below w.heap.size w W → Calls Tryz.prog 7 #[.string s] W fun e w' => ∃ A c, e = .returned (.tuple #[.slice A (prsB sl rest).1.length c, .int .i64 (prsB sl rest).2.1, .int .i64 (prsB sl rest).2.2]) ∧ TrsV W.heap.size w' (.slice A (prsB sl rest).1.length c) (prsB sl rest).1 ∧ Below W.heap.size W w' := fun {W} hb =>
    (nparse_any s sl rest hp (by omega) W t fr (hTW hb)).mono fun e w' ⟨v, e1, h1, h2⟩ => by
      obtain ⟨A, c, rfl⟩ := h1.shape
      exact ⟨A, c, e1, h1, h2⟩
  have cQ : ∀ {W : World}, Calls Tryz.prog 8 #[.string s] W fun e w' => ∃ A c, e = .returned (.tuple #[.slice A (prsB sl rest).1.length c, .int .i64 (prsB sl rest).2.1, .int .i64 (prsB sl rest).2.2]) ∧ DtV W.heap.size w' (.slice A (prsB sl rest).1.length c) (prsB sl rest).1 ∧ Below W.heap.size W w' := fun {W} =>
    (qparse_any s sl rest hp (by omega) W).mono fun e w' ⟨v, e1, h1, h2⟩ => by
      obtain ⟨A, c, rfl⟩ := h1.shape
      exact ⟨A, c, e1, h1, h2⟩
  generalize prsB sl rest = r at hfew cP1 cQ
  obtain ⟨L, E, C⟩ := r
  dsimp only at hfew cP1 cQ
  obtain ⟨hT, hn, hS⟩ := hfew
  have hgd := trs_gd hT (by omega)
  have hkd := trs_kind hT
  have cI : ∀ {W : World} {A A' : Option Addr} {c c' B B' : Nat}, TrsV B W (.slice A L.length c) L → DtV B' W (.slice A' L.length c') L → Calls Tryz.prog 9 #[.slice A L.length c, .slice A' L.length c'] W fun e w' => e = .returned (.bool true) ∧ Below W.heap.size W w' := fun {W A A' c c' B B'} h1 h2 =>
    nis_same L hkd (by omega) W h1 h2
  have cPr : ∀ {W : World} {A : Option Addr} {c B : Nat}, Below w.heap.size w W → TrsV B W (.slice A L.length c) L → Calls Tryz.prog 10 #[.slice A L.length c] W fun e w' => e = .returned (.string (textOf (lnsS L))) ∧ Below W.heap.size W w' := fun {W A c B} hb h1 =>
    nprint_any L hgd (by omega) W h1 t fr (hTW hb)
  have cP2 : ∀ {W : World}, Below w.heap.size w W → Calls Tryz.prog 7 #[.string (textOf (lnsS L))] W fun e w' => ∃ A c, e = .returned (.tuple #[.slice A L.length c, .int .i64 0, .int .i64 0]) ∧ TrsV W.heap.size w' (.slice A L.length c) L ∧ Below W.heap.size W w' := fun {W} hb => by
    have h := nparse_any (textOf (lnsS L)) (lnsS L) [] (parts_text (lnsS_all L)) (by omega) W t fr (hTW hb)
    rw [prsB_lines L fun ts h => (hgd ts h).1] at h
    exact h.mono fun e w' ⟨v, e1, h1, h2⟩ => by
      obtain ⟨A, c, rfl⟩ := h1.shape
      exact ⟨A, c, e1, h1, h2⟩
  generalize textOf (lnsS L) = z at cPr cP2
  clear hz hTW htab hlt0 _hs hp hsl hall hT hn hS hgd hkd
  go_enter Tryz.func3, Tryz.ntmps3
  go_wp2_with (first
    | (go_at_call 6; (with_reducible refine (cA hB0).mono ?_); rintro e w1 ⟨rfl, hB1⟩)
    | (go_at_call 7; (with_reducible refine (cP1 hB1).mono ?_); rintro e w2 ⟨A2, c2, rfl, hT2, hb2⟩; have hB2 := hB1.trans (hb2.mono hB1.size))
    | (go_at_call 8; (with_reducible refine cQ.mono ?_); rintro e w3 ⟨A3, c3, rfl, hD3, hb3⟩; have hB3 := hB2.trans (hb3.mono hB2.size); have hT3 := hT2.below hb3)
    | (go_at_call 9; (with_reducible refine (cI hT3 hD3).mono ?_); rintro e w4 ⟨rfl, hb4⟩; have hB4 := hB3.trans (hb4.mono hB3.size); have hT4 := hT3.below hb4; have hD4 := hD3.below hb4)
    | (go_at_call 10; (with_reducible refine (cPr hB4 hT4).mono ?_); rintro e w5 ⟨rfl, hb5⟩; have hB5 := hB4.trans (hb5.mono hB4.size); have hD5 := hD4.below hb5)
    | (go_at_call 7; (with_reducible refine (cP2 hB5).mono ?_); rintro e w6 ⟨A6, c6, rfl, hT6, hb6⟩; have hB6 := hB5.trans (hb6.mono hB5.size); have hD6 := hD5.below hb6)
    | (go_at_call 9; (with_reducible refine (cI hT6 hD6).mono ?_); rintro e w7 ⟨rfl, hb7⟩; have hB7 := hB6.trans (hb7.mono hB6.size)))
  go_ret
  exact ⟨rfl, hB7⟩
end Go.Proofs.YtpnfjjgihkmjmaaGreatDoor
