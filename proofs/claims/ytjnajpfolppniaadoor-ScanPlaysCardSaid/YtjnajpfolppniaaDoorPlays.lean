/-
  ScanPlays, FOR ANY BYTE STRING AND ANY ACTS: a scanner that is played on answers as the document says, step by step: the law returns true, and its arguments read as before. The table 'escapes' starts as the program's text lays it (tied).
-/
import Derived.Test.YtjnajpfolppniaaDoorPlayE
import Derived.Test.YtjnajpfolppniaaDoorCards
import Derived.Test.YtjnajpfolppniaaDoorTie
namespace Go.Proofs.YtjnajpfolppniaaDoor
open Go.ChangeShapes Go.WideShapes Go.ChangeAt Go.RowKit
set_option linter.unusedVariables false

theorem ints_openP {B : Nat} {w : World} {v : Value} {l : List Int} (h : Ints B w v l) : ∃ ao cap, v = .slice ao l.length cap ∧
    (0 < l.length → ∃ g, ao = some ⟨g, 0, none⟩ ∧ g < w.heap.size ∧ ∀ (j : Nat) (x : Int), l[j]? = some x → w.cell? ⟨g, j, none⟩ = some (.int .i64 x)) := by
  rcases id h.2 with ⟨hv, h0⟩ | ⟨g, cap, cur, hv, _⟩
  · exact ⟨none, 0, by rw [hv, h0], fun hp => by omega⟩
  · refine ⟨_, cap, hv, fun _ => ⟨g, rfl, (World.ownsRow.lt h g (by rw [hv]; rfl)).2, ?_⟩⟩
    intro j x hx
    subst hv
    have := World.ownsRow.cells h (g := g) rfl j (.int .i64 x) (by simp [intRow, hx])
    rw [addr_add] at this
    exact this
def PlI (w : World) (b : Nat) (v vI : Value) (sl : List Int) (n : Nat) (g : Nat) (s10 s61 : Value) (wr : World) : Prop :=
  ∃ k i : Nat, i + g = n ∧ k ≤ sl.length ∧ s10 = .int .i64 k ∧ s61 = .int .i64 i ∧ TS w b v vI sl k wr
theorem CAt.below {w w' : World} {A : Option Addr} {l : List Int} (h : CAt w A l) (hb : Below w.heap.size w w') : CAt w' A l := fun j x hx => by
  obtain ⟨g, o, e, hg, hc⟩ := h j x hx
  exact ⟨g, o, e, Nat.lt_of_lt_of_le hg hb.size, (hb.cell (p := ⟨g, o + j, none⟩) hg).trans hc⟩
theorem AcAt.below {w w' : World} {g o : Nat} {a : Ac} (h : AcAt w g o a) (hg : g < w.heap.size) (hb : Below w.heap.size w w') : AcAt w' g o a := by
  obtain ⟨A, cap, q1, q2, q3, q4⟩ := h.c4
  exact ⟨h.bk, h.bn, h.bt, h.bs, (hb.cell (p := ⟨g, o, none⟩) hg).trans h.c0, (hb.cell (p := ⟨g, o + 1, none⟩) hg).trans h.c1, (hb.cell (p := ⟨g, o + 2, none⟩) hg).trans h.c2, (hb.cell (p := ⟨g, o + 3, none⟩) hg).trans h.c3,
    A, cap, (hb.cell (p := ⟨g, o + 4, none⟩) hg).trans q1, q2, q3, q4.below hb⟩
set_option maxHeartbeats 8000000 in
set_option maxRecDepth 100000 in
theorem plays_walk (s : ByteArray) (_hs : s.size ≤ maxLen) (A : Option Addr) (acts : List Ac) (cap : Nat) (w : World) (hacts : ∀ (j : Nat) (a : Ac), acts[j]? = some a → ∃ g o, A = some ⟨g, o, none⟩ ∧ g < w.heap.size ∧ AcAt w g (o + j * 5) a)
    (t : TypeId) (fr : Nat × Nat) (htab : w.heap[0]? = some (.cells escCells t fr)) :
    Calls Tryd.prog 3 #[.string s, .slice A acts.length cap] w fun e w' => e = .returned (.bool true) ∧ Below w.heap.size w w' := by
  have cA := ever_awake htab
  clear htab
  have HACT := Lib.hid hacts
  clear hacts
  have hb0 : Below w.heap.size w w := Below.refl _ _
  by_cases hlen : 200 < s.size ∨ 30 < acts.length
  · have hlz : (200 : Int) < (s.size : Int) ∨ (30 : Int) < (acts.length : Int) := by omega
    go_enter Tryd.func3, Tryd.ntmps3
    go_wp2_with (go_at_call 4; (with_reducible refine (cA.at (by assumption)).mono ?_); rintro e w1 ⟨rfl, hb1⟩)
    all_goals (first | (go_ret; exact ⟨rfl, by assumption⟩) | (exfalso; omega))
  · have hl1 : ¬ (200 : Int) < (s.size : Int) := by omega
    have hl2 : ¬ (30 : Int) < (acts.length : Int) := by omega
    obtain ⟨sl, rest, hp⟩ := parts_of s.data.toList
    have hl : sl.length ≤ 200 := by have := hp.size; have := encL_len sl; omega
    have sA : ∀ W, Calls Tryd.prog 5 #[.string s] W (SignsPost W sl (decide (rest = []))) := fun W => signs_any s sl rest hp (by omega) W
    by_cases hr : rest = []
    · subst hr
      have hd : decide (([] : List UInt8) = []) = true := rfl
      rw [hd] at sA
      have cN : ∀ W, Calls Tryd.prog 6 #[.string s] W (NewPost W sl) := fun W => new_good s sl hp (by omega) W
      have hall := hp.all
      clear hd hp hlen
      go_enter Tryd.func3, Tryd.ntmps3
      go_wp2_with (first
        | (go_at_call 4; (with_reducible refine (cA.at (by assumption)).mono ?_); rintro e w1 ⟨rfl, hb1⟩)
        | (go_at_call 5; (with_reducible refine (sA _).mono ?_); rintro e w2 ⟨vI, rfl, hI2, hb2⟩; obtain ⟨aoI, capI, rfl⟩ := ints_shape hI2; have hb3 := hb1.trans (hb2.mono hb1.size); have hI3 := ints_mono hI2 hb1.size; clear hb2 hI2)
        | (go_at_call 6; (with_reducible refine (cN _).mono ?_); rintro e w6 ⟨b, v, rfl, hsc6, hb8⟩; have hTS : TS w b v (.slice aoI sl.length capI) sl 0 w6 := ⟨hsc6.mono hb3.size, ints_below hI3 hb8, hb3.trans (hb8.mono hb3.size)⟩; clear hsc6 hb8 hI3))
      go_loopg [10, 61] acts.length (fun g s10 s61 wr => PlI w b v (.slice aoI sl.length capI) sl acts.length g s10 s61 wr)
      case atStart => exact ⟨0, 0, by omega, by omega, rfl, rfl, hTS⟩
      case round =>
        clear hTS hb0 hb1 hb3 cA sA cN
        obtain ⟨k, i, hig, hk, rfl, rfl, hT⟩ := hrel
        cases gk with
        | zero =>
          have hin : ¬ (i : Int) < (acts.length : Int) := by omega
          have HB := Lib.hid hT.2.2
          clear hT hig
          go_wp2
          go_ret
          exact ⟨rfl, HB.out⟩
        | succ g =>
          have hin : (i : Int) < (acts.length : Int) := by omega
          have hi0 : (0 : Int) ≤ (i : Int) := by omega
          obtain ⟨a, ha⟩ : ∃ a, acts[i]? = some a := ⟨_, List.getElem?_eq_getElem (by omega)⟩
          obtain ⟨ga, oa, rfl, hga, hac0⟩ := HACT.out i a ha
          have hac := hac0.below hga hT.2.2
          obtain ⟨kd, nm, tx, sg, cl⟩ := a
          have p0 := hac.c0
          have p1 := hac.c1
          have p2 := hac.c2
          have p3 := hac.c3
          obtain ⟨AC, capC, p40, pcl, pcm, hcl⟩ := hac0.c4
          have p4 := (hT.2.2.cell (p := ⟨ga, oa + i * 5 + 4, none⟩) hga).trans p40
          clear p40
          have HCA := Lib.hid hcl
          obtain ⟨bk, bn, bt, bs⟩ : _ ∧ _ ∧ _ ∧ _ := ⟨hac.bk, hac.bn, hac.bt, hac.bs⟩
          simp only at p0 p1 p2 p3 p4 pcl pcm hcl HCA bk bn bt bs
          have HT0 := Lib.hid hT
          have HIG := Lib.hid hig
          clear hac hac0 ha hT hig
          by_cases hbig : 50 < tx.size ∨ 8 < cl.length
          · have hbz : (50 : Int) < (tx.size : Int) ∨ (8 : Int) < (cl.length : Int) := by omega
            have hB : Below w.heap.size w wr := HT0.out.2.2
            have HB := Lib.hid (hB.alloc hB.size (.cells #[.int .u8 kd, .int .u8 nm, .string tx, .int .i32 sg, .slice AC cl.length capC] 32))
            clear hB bk bn bt bs hcl pcl pcm
            go_wp2
            all_goals (go_ret; exact ⟨rfl, HB.out⟩)
          · have hz1 : ¬ (50 : Int) < (tx.size : Int) := by omega
            have hz2 : ¬ (8 : Int) < (cl.length : Int) := by omega
            have HTB := Lib.hid (show b < wr.heap.size from (Array.getElem?_eq_some_iff.1 HT0.out.1.blk).1)
            have hT0 := HT0.out.alloc (.cells #[.int .u8 kd, .int .u8 nm, .string tx, .int .i32 sg, .slice AC cl.length capC] 32)
            obtain ⟨q, hq⟩ : ∃ q : Nat, kd.tmod 7 = q := ⟨(kd.tmod 7).toNat, by have := Int.tmod_nonneg 7 bk.1; omega⟩
            have hq7 : q < 7 := by have := Int.tmod_lt_of_pos kd (show (0 : Int) < 7 by decide); omega
            have cP : ∀ {W k}, TS w b v (.slice aoI sl.length capI) sl k W → Calls Tryd.prog 18 #[.pointer (some ⟨b, 0, none⟩)] W fun e w' => e = .returned (.int .i64 k) ∧ TS w b v (.slice aoI sl.length capI) sl k w' := fun {W k} h => ts_place (w := w) W h
            have hend : ∀ {k' : Nat} {W : World}, k' ≤ sl.length → TS w b v (.slice aoI sl.length capI) sl k' W → PlI w b v (.slice aoI sl.length capI) sl acts.length g (.int .i64 k') (.int .i64 ((i : Int) + 1)) W := fun {k' W} h1 h2 => ⟨k', i + 1, by have := HIG.out; omega, h1, rfl, by rw [Int.natCast_succ], h2⟩
            obtain ⟨aoJ, capJ, ej, hcJ⟩ := ints_openP HT0.out.2.1
            injection ej with ej1 ej2 ej3
            subst ej1 ej3
            have hIJ := hcJ
            have HIJ := Lib.hid hIJ
            have HIW := Lib.hid (show 0 < sl.length → ∃ gI, aoI = some ⟨gI, 0, none⟩ ∧ gI < wr.heap.size ∧ ∀ W2, Same (wr.alloc (.cells #[.int .u8 kd, .int .u8 nm, .string tx, .int .i32 sg, .slice AC cl.length capC] 32)) W2 → ∀ (j : Nat) (x : Int), sl[j]? = some x → W2.cell? ⟨gI, j, none⟩ = some (.int .i64 x) from fun h0 => by
              obtain ⟨gI, e, hg, hc⟩ := hIJ h0
              exact ⟨gI, e, hg, fun W2 s j x hx => by rw [same_cell s, alloc_cell _ _ hg]; exact hc j x hx⟩)
            have HBX := Lib.hid (show ∀ W2, Same (wr.alloc (.cells #[.int .u8 kd, .int .u8 nm, .string tx, .int .i32 sg, .slice AC cl.length capC] 32)) W2 → W2.heap[wr.heap.size]? = some (.cells #[.int .u8 kd, .int .u8 nm, .string tx, .int .i32 sg, .slice AC cl.length capC] 32 (0, 0)) from fun W2 s => by
              rw [s.heap]; exact heap_alloc_new _ _)
            have HXT := Lib.hid (show b < wr.heap.size from HTB.out)
            clear hcJ hIJ ej2 bk hbig
            obtain rfl | rfl | rfl | rfl | rfl | rfl | rfl : q = 0 ∨ q = 1 ∨ q = 2 ∨ q = 3 ∨ q = 4 ∨ q = 5 ∨ q = 6 := by omega
            · as_aux_lemma =>
                by_cases hkl : k < sl.length
                · have hkz : (k : Int) < (sl.length : Int) := by omega
                  have hk0 : (0 : Int) ≤ (k : Int) := by omega
                  obtain ⟨x, hx⟩ : ∃ x, sl[k]? = some x := ⟨_, List.getElem?_eq_getElem hkl⟩
                  have hsx := (sgn_iff x).1 (hall x (List.mem_of_getElem? hx))
                  have hwx : wrap64 x = x := by first | exact IntWalk.i64_in x (by omega) | (unfold wrap64; omega)
                  obtain ⟨gI, rfl, hgI, hcI⟩ := HIJ.out (by omega)
                  have hcx : wr.cell? ⟨gI, k, none⟩ = some (.int .i64 x) := hcI k x hx
                  have n1 : wr.heap.size ≠ gI := Nat.ne_of_gt hgI
                  have cX : ∀ {W}, TS w b v (.slice (some ⟨gI, 0, none⟩) sl.length capI) sl k W → Calls Tryd.prog 7 #[.pointer (some ⟨b, 0, none⟩)] W fun e w' => e = .returned (.int .i32 x) ∧ TS w b v (.slice (some ⟨gI, 0, none⟩) sl.length capI) sl (k + 1) w' := fun {W} h => ts_next (w := w) hx (by omega) W h
                  clear hx hsx hcI
                  go_wp2_with (first
                    | (go_at_call 7; (with_reducible refine (cX hT0).mono ?_); rintro e y1 ⟨rfl, hT1⟩)
                    | (go_at_call 18; (with_reducible refine (cP hT1).mono ?_); rintro e y2 ⟨rfl, hT2⟩))
                  go_roundg g
                  case measure => exact Nat.lt_succ_self g
                  case rel => exact hend (k' := k + 1) (by omega) (by assumption)
                · have hke : k = sl.length := by omega
                  have hkz : ¬ (k : Int) < (sl.length : Int) := by omega
                  have cX : ∀ {W}, TS w b v (.slice aoI sl.length capI) sl k W → Calls Tryd.prog 7 #[.pointer (some ⟨b, 0, none⟩)] W fun e w' => e = .returned (.int .i32 (-1)) ∧ TS w b v (.slice aoI sl.length capI) sl k w' := fun {W} h => ts_next_end (w := w) hke (by omega) W h
                  clear hke hkl
                  go_wp2_with (first
                    | (go_at_call 7; (with_reducible refine (cX hT0).mono ?_); rintro e y1 ⟨rfl, hT1⟩)
                    | (go_at_call 18; (with_reducible refine (cP hT1).mono ?_); rintro e y2 ⟨rfl, hT2⟩))
                  go_roundg g
                  case measure => exact Nat.lt_succ_self g
                  case rel => exact hend (by omega) (by assumption)
            · as_aux_lemma =>
                generalize hwo : wr = wo at *
                clear hwo
                have htx50 : tx.size ≤ 50 := nf_t50 hz1
                have hTB0 : TB w b v (.slice aoI sl.length capI) sl k wo.heap.size 32 #[.int .u8 kd, .int .u8 nm, .string tx, .int .i32 sg, .slice AC cl.length capC] (wo.alloc (.cells #[.int .u8 kd, .int .u8 nm, .string tx, .int .i32 sg, .slice AC cl.length capC] 32)) := ⟨hT0, heap_alloc_new _ _⟩
                obtain ⟨tl, trest, htp⟩ := parts_of tx.data.toList
                have htl : tl.length ≤ 50 := k1_len htp htx50
                have HKL := Lib.hid (And.intro hk hl)
                have HIC := Lib.hid (ints_cap hT0.2.1)
                by_cases htr : trest = []
                · subst htr
                  have cX0 := fun {W} (h : TB w b v (.slice aoI sl.length capI) sl k wo.heap.size 32 #[.int .u8 kd, .int .u8 nm, .string tx, .int .i32 sg, .slice AC cl.length capC] W) => k1_is htp htx50 hk hl h
                  by_cases hfit : k + tl.length ≤ sl.length
                  · obtain ⟨e, he⟩ : ∃ e, e = k + tl.length := ⟨_, rfl⟩
                    obtain ⟨w1, w2, d1, d2, hez, hke, hkz, hel, hk0⟩ := kn_of hl htl he hfit
                    have hmn := fun ts ty W => k1_min (e := e) (n := sl.length) hel ts ty W
                    have hBS := k1_bs htp hall he
                    have cT := fun {W} (A' : Option Addr) (c' : Nat) (hA : Hid (k < e → ∃ gg, aoI = some ⟨gg, 0, none⟩ ∧ A' = some ⟨gg, k, none⟩)) (h : TB w b v (.slice aoI sl.length capI) sl k wo.heap.size 32 #[.int .u8 kd, .int .u8 nm, .string tx, .int .i32 sg, .slice AC cl.length capC] W) => (txt_at hall hl hke hel h.1 A' c' hA.out).mono (R' := fun x w' => x = .returned (.string (textOf ((sl.drop k).take (e - k)))) ∧ TB w b v (.slice aoI sl.length capI) sl k wo.heap.size 32 #[.int .u8 kd, .int .u8 nm, .string tx, .int .i32 sg, .slice AC cl.length capC] w') fun x w' ⟨p, q⟩ => ⟨p, h.below q⟩
                    have hcz := nf_cap hel HIC.out
                    rcases Nat.eq_zero_or_pos tl.length with h0 | h0
                    · obtain rfl : tl = [] := List.length_eq_zero_iff.1 h0
                      have hek : e = k := he
                      subst hek
                      obtain ⟨hb1, f2, f3⟩ := hBS
                      have hbt : ([] : List Int).isPrefixOf (sl.drop e) = true := by simp
                      rw [hbt] at f2 f3
                      have cX : ∀ {W}, TB w b v (.slice aoI sl.length capI) sl e wo.heap.size 32 #[.int .u8 kd, .int .u8 nm, .string tx, .int .i32 sg, .slice AC cl.length capC] W → Calls Tryd.prog 9 #[.pointer (some ⟨b, 0, none⟩), .string tx] W fun x w' => x = .returned (.bool true) ∧ TS w b v (.slice aoI sl.length capI) sl e w' := fun {W} h => (cX0 h).mono fun x w' ⟨p, q⟩ => by
                        rw [hbt] at p
                        have : isN [] sl e = 0 := by unfold isN; split <;> rfl
                        rw [this] at q
                        exact ⟨p, q⟩
                      have HAA := fun A' : Option Addr => Lib.hid (show e < e → ∃ gg, aoI = some ⟨gg, 0, none⟩ ∧ A' = some ⟨gg, e, none⟩ from fun h => absurd h (Nat.lt_irrefl e))
                      simp only [Nat.sub_self, List.take_zero] at cT f2 f3
                      obtain ⟨w3, w4⟩ := nf_wr hel hl
                      simp only [List.length_nil, Int.natCast_zero, Int.add_zero] at w1 w2
                      clear cX0 hb1 hbt he h0 hfit hke hel hT0
                      by_cases hck : capI = e
                      · subst hck
                        go_wp2_with (go_at_call 5; (with_reducible refine (k1_signs htp htx50 hTB0).mono ?_); rintro x1 y1 ⟨A5, c5, rfl, hB1⟩)
                        have hB1d := hB1.same (show Same y1 y1.drew from ⟨rfl, rfl, rfl, rfl⟩)
                        first
                          | (go_region_held3 (fun W4 => W4.cell? ⟨wo.heap.size, 2, none⟩ = some (.string tx))
                              (first | exact TB.c2 (by assumption))
                              (first
                                | (go_at_call 8; (with_reducible refine (cT _ _ (HAA _) (by assumption)).mono ?_); rintro x2 y2 ⟨rfl, hT2⟩; have z2 := hT2.c2)
                                | fail))
                          | fail
                        all_goals
                          go_wp2_with (first
                            | (go_at_call 9; (with_reducible refine (cX hT2).mono ?_); rintro x3 y3 ⟨rfl, hT3⟩)
                            | (go_at_call 18; (with_reducible refine (cP hT3).mono ?_); rintro x4 y4 ⟨rfl, hT4⟩))
                          go_roundg g
                          case measure => exact Nat.lt_succ_self g
                          case rel => exact hend HKL.out.1 (by assumption)
                      · skip
                        go_wp2_with (go_at_call 5; (with_reducible refine (k1_signs htp htx50 hTB0).mono ?_); rintro x1 y1 ⟨A5, c5, rfl, hB1⟩)
                        have hB1d := hB1.same (show Same y1 y1.drew from ⟨rfl, rfl, rfl, rfl⟩)
                        first
                          | (go_region_held3 (fun W4 => W4.cell? ⟨wo.heap.size, 2, none⟩ = some (.string tx))
                              (first | exact TB.c2 (by assumption))
                              (first
                                | (go_at_call 8; (with_reducible refine (cT _ _ (HAA _) (by assumption)).mono ?_); rintro x2 y2 ⟨rfl, hT2⟩; have z2 := hT2.c2)
                                | fail))
                          | fail
                        all_goals
                          go_wp2_with (first
                            | (go_at_call 9; (with_reducible refine (cX hT2).mono ?_); rintro x3 y3 ⟨rfl, hT3⟩)
                            | (go_at_call 18; (with_reducible refine (cP hT3).mono ?_); rintro x4 y4 ⟨rfl, hT4⟩))
                          go_roundg g
                          case measure => exact Nat.lt_succ_self g
                          case rel => exact hend HKL.out.1 (by assumption)
                    · obtain ⟨gI, rfl, hgI, hcI⟩ := HIW.out (nf_sl he h0 hel)
                      have nck := nf_ck he h0 hel HIC.out
                      have HAA := Lib.hid (show k < e → ∃ gg, (some ⟨gI, 0, none⟩ : Option Addr) = some ⟨gg, 0, none⟩ ∧ (some ⟨gI, k, none⟩ : Option Addr) = some ⟨gg, k, none⟩ from fun _ => ⟨gI, rfl, rfl⟩)
                      cases hB : tl.isPrefixOf (sl.drop k) with
                      | true =>
                        rw [hB] at hBS
                        obtain ⟨hb1, f2, f3⟩ := hBS
                        have cX : ∀ {W}, TB w b v (.slice (some ⟨gI, 0, none⟩) sl.length capI) sl k wo.heap.size 32 #[.int .u8 kd, .int .u8 nm, .string tx, .int .i32 sg, .slice AC cl.length capC] W → Calls Tryd.prog 9 #[.pointer (some ⟨b, 0, none⟩), .string tx] W fun x w' => x = .returned (.bool true) ∧ TS w b v (.slice (some ⟨gI, 0, none⟩) sl.length capI) sl e w' := fun {W} h => (cX0 h).mono fun x w' ⟨p, q⟩ => by
                          rw [hB] at p
                          rw [k1_isN, if_pos hB, ← he] at q
                          exact ⟨p, q⟩
                        have HEL := Lib.hid hel
                        clear cX0 hb1 hB he h0 hfit hke hel hgI hcI hT0
                        go_wp2_with (go_at_call 5; (with_reducible refine (k1_signs htp htx50 hTB0).mono ?_); rintro x1 y1 ⟨A5, c5, rfl, hB1⟩)
                        have hB1d := hB1.same (show Same y1 y1.drew from ⟨rfl, rfl, rfl, rfl⟩)
                        first
                          | (go_region_held3 (fun W4 => W4.cell? ⟨wo.heap.size, 2, none⟩ = some (.string tx))
                              (first | exact TB.c2 (by assumption))
                              (first
                                | (go_at_call 8; (with_reducible refine (cT _ _ HAA (by assumption)).mono ?_); rintro x2 y2 ⟨rfl, hT2⟩; have z2 := hT2.c2)
                                | fail))
                          | fail
                        all_goals
                          go_wp2_with (first
                            | (go_at_call 9; (with_reducible refine (cX hT2).mono ?_); rintro x3 y3 ⟨rfl, hT3⟩)
                            | (go_at_call 18; (with_reducible refine (cP hT3).mono ?_); rintro x4 y4 ⟨rfl, hT4⟩))
                          go_roundg g
                          case measure => exact Nat.lt_succ_self g
                          case rel => exact hend HEL.out (by assumption)
                      | false =>
                        rw [hB] at hBS
                        obtain ⟨hb1, f2, f3⟩ := hBS
                        have cX : ∀ {W}, TB w b v (.slice (some ⟨gI, 0, none⟩) sl.length capI) sl k wo.heap.size 32 #[.int .u8 kd, .int .u8 nm, .string tx, .int .i32 sg, .slice AC cl.length capC] W → Calls Tryd.prog 9 #[.pointer (some ⟨b, 0, none⟩), .string tx] W fun x w' => x = .returned (.bool false) ∧ TS w b v (.slice (some ⟨gI, 0, none⟩) sl.length capI) sl k w' := fun {W} h => (cX0 h).mono fun x w' ⟨p, q⟩ => by
                          rw [hB] at p
                          rw [k1_isN, if_neg (by rw [hB]; decide), Nat.add_zero] at q
                          exact ⟨p, q⟩
                        clear cX0 hb1 hB he h0 hfit hke hel hgI hcI hT0
                        go_wp2_with (go_at_call 5; (with_reducible refine (k1_signs htp htx50 hTB0).mono ?_); rintro x1 y1 ⟨A5, c5, rfl, hB1⟩)
                        have hB1d := hB1.same (show Same y1 y1.drew from ⟨rfl, rfl, rfl, rfl⟩)
                        first
                          | (go_region_held3 (fun W4 => W4.cell? ⟨wo.heap.size, 2, none⟩ = some (.string tx))
                              (first | exact TB.c2 (by assumption))
                              (first
                                | (go_at_call 8; (with_reducible refine (cT _ _ HAA (by assumption)).mono ?_); rintro x2 y2 ⟨rfl, hT2⟩; have z2 := hT2.c2)
                                | fail))
                          | fail
                        all_goals
                          go_wp2_with (first
                            | (go_at_call 9; (with_reducible refine (cX hT2).mono ?_); rintro x3 y3 ⟨rfl, hT3⟩)
                            | (go_at_call 18; (with_reducible refine (cP hT3).mono ?_); rintro x4 y4 ⟨rfl, hT4⟩))
                          go_roundg g
                          case measure => exact Nat.lt_succ_self g
                          case rel => exact hend HKL.out.1 (by assumption)
                  · obtain ⟨e, w1, d1, d2, hez, w2⟩ := k1_nums2 hk hl htl hfit
                    have hB := k1_far hfit hk
                    have cX : ∀ {W}, TB w b v (.slice aoI sl.length capI) sl k wo.heap.size 32 #[.int .u8 kd, .int .u8 nm, .string tx, .int .i32 sg, .slice AC cl.length capC] W → Calls Tryd.prog 9 #[.pointer (some ⟨b, 0, none⟩), .string tx] W fun x w' => x = .returned (.bool false) ∧ TS w b v (.slice aoI sl.length capI) sl k w' := fun {W} h => (cX0 h).mono fun x w' ⟨p, q⟩ => by
                      rw [hB] at p
                      rw [k1_isN, if_neg (by rw [hB]; decide), Nat.add_zero] at q
                      exact ⟨p, q⟩
                    clear cX0 hB hfit hT0
                    go_wp2_with (go_at_call 5; (with_reducible refine (k1_signs htp htx50 hTB0).mono ?_); rintro x1 y1 ⟨A5, c5, rfl, hB1⟩)
                    go_quiet (fail)
                    have hB2 := hB1.same (same_draw _ nq)
                    generalize y1.drewN nq = W9 at *
                    have z2 := hB2.c2
                    go_wp2_with (first
                      | (go_at_call 9; (with_reducible refine (cX hB2).mono ?_); rintro x3 y3 ⟨rfl, hT3⟩)
                      | (go_at_call 18; (with_reducible refine (cP hT3).mono ?_); rintro x4 y4 ⟨rfl, hT4⟩))
                    go_roundg g
                    case measure => exact Nat.lt_succ_self g
                    case rel => exact hend HKL.out.1 (by assumption)
                · have hdt : decide (trest = []) = false := decide_eq_false htr
                  have cS := fun {W} (h : TB w b v (.slice aoI sl.length capI) sl k wo.heap.size 32 #[.int .u8 kd, .int .u8 nm, .string tx, .int .i32 sg, .slice AC cl.length capC] W) => k1_signs htp htx50 h
                  rw [hdt] at cS
                  clear htp htl htr htx50 hT0
                  go_wp2_with (go_at_call 5; (with_reducible refine (cS hTB0).mono ?_); rintro x1 y1 ⟨A5, c5, rfl, hB1⟩)
                  go_roundg g
                  case measure => exact Nat.lt_succ_self g
                  case rel => exact hend HKL.out.1 hB1.1
            · as_aux_lemma =>
                obtain ⟨m, hm⟩ : ∃ m, m = runN [0] (sl.drop k) := ⟨_, rfl⟩
                obtain ⟨e, he⟩ : ∃ e, e = k + m := ⟨_, rfl⟩
                have hmle : e ≤ sl.length := by have := runN_le [0] (sl.drop k); rw [List.length_drop] at this; omega
                have cB := fun {W} (h : TS w b v (.slice aoI sl.length capI) sl k W) => (blanks_any h.1 hk (by omega)).mono (R' := fun x w' => x = .returned (.int .i64 m) ∧ TS w b v (.slice aoI sl.length capI) sl e w') fun x w' ⟨p, q⟩ => ⟨by rw [hm]; exact p, by rw [he, hm]; exact h.moves q⟩
                have hat : ∀ q, k ≤ q → q < e → ∀ n, sl[q]? = some n → cls n = 0 := fun q hq hqe n hn => by
                  obtain ⟨n', h1, h2⟩ := runN_at [0] (sl.drop k) (q - k) (by omega)
                  have h3 := drop_at h1
                  rw [show k + (q - k) = q by omega, hn] at h3
                  injection h3 with h3
                  subst h3
                  simpa using h2
                have hst : ∀ n, sl[e]? = some n → ¬ cls n = 0 := fun n hn => by
                  have := runN_end [0] (sl.drop k) n (by rw [List.getElem?_drop, ← hm, ← he]; exact hn)
                  simpa using this
                have HAT := Lib.hid hat
                have HST := Lib.hid hst
                have HML := Lib.hid hmle
                have HKE := Lib.hid (show k ≤ e ∧ sl.length ≤ 200 from ⟨by omega, hl⟩)
                have wm : wrap64 ((e : Int) - (k : Int)) = (m : Int) := by first | exact (IntWalk.i64_in _ (by omega)).trans (by omega) | (unfold wrap64; omega)
                have wm2 : (e : Int) - (k : Int) = (m : Int) := by omega
                have wm3 : wrap64 (m : Int) = (m : Int) := by first | exact IntWalk.i64_in _ (by omega) | (unfold wrap64; omega)
                have HT := Lib.hid hT0
                clear hm hat hst hmle hT0 he
                go_wp2
                go_loopg [13] (e - k) (fun g2 s13 wr2 => BlR (wr.alloc (.cells #[.int .u8 kd, .int .u8 nm, .string tx, .int .i32 sg, .slice AC cl.length capC] 32)) k e g2 s13 wr2)
                case atStart => exact ⟨k, nf_st HKE.out.1, Nat.le_refl _, rfl, Same.refl _⟩
                case round =>
                  obtain ⟨q, hqm, hkq, rfl, hs⟩ := hrel
                  have HTS := Lib.hid (HT.out.from hs)
                  by_cases hlt : q < sl.length
                  · have hqz : (q : Int) < (sl.length : Int) := nf_int hlt
                    have hq0 : (0 : Int) ≤ (q : Int) := nf_nn
                    obtain ⟨n, hn⟩ : ∃ n, sl[q]? = some n := ⟨_, List.getElem?_eq_getElem hlt⟩
                    obtain ⟨gI, rfl, hgI, hcI⟩ := HIW.out (nf_pos hlt)
                    have y := hcI _ hs q n hn
                    have cC := fun W => refClass_any n W
                    have HS := Lib.hid hs
                    cases gk with
                    | zero =>
                      have h0 := HST.out n (by rw [← nf_eq hqm]; exact hn)
                      have h1 : (cls n == 0) = false := by simpa using h0
                      obtain rfl : q = e := nf_eq hqm
                      generalize cls n = c at *
                      clear hs hqm hkq hlt hn hcI hgI
                      go_wp2_with (first
                        | (go_at_call 10; (with_reducible refine (cC _).mono ?_); rintro x1 y1 ⟨rfl, rfl⟩)
                        | (go_at_call 11; (with_reducible refine (cB HTS.out).mono ?_); rintro x2 y2 ⟨rfl, hT1⟩)
                        | (go_at_call 18; (with_reducible refine (cP hT1).mono ?_); rintro x3 y3 ⟨rfl, hT2⟩))
                      go_roundg g
                      case measure => exact Nat.lt_succ_self g
                      case rel => exact hend HML.out (by assumption)
                    | succ g2 =>
                      have h0 := HAT.out q hkq (nf_lt2 hqm) n hn
                      rw [h0] at cC
                      have HQ := Lib.hid (show q + 1 + g2 = e ∧ k ≤ q + 1 ∧ q < 200 from nf_go hqm hkq (nf_200 hlt HKE.out.2))
                      clear hs hqm hkq hlt hn hcI hgI h0
                      go_wp2_with (go_at_call 10; (with_reducible refine (cC _).mono ?_); rintro x1 y1 ⟨rfl, rfl⟩)
                      go_roundg g2
                      case measure => exact Nat.lt_succ_self g2
                      case rel => exact ⟨q + 1, HQ.out.1, HQ.out.2.1, by first | rfl | exact nf_suc HQ.out.2.2, HS.out⟩
                  · have hqz : ¬ (q : Int) < (sl.length : Int) := nf_nint hlt
                    obtain ⟨rfl, hge⟩ := nf_end hqm HML.out hlt
                    clear hs hqm hkq hlt hge
                    go_wp2_with (first
                      | (go_at_call 11; (with_reducible refine (cB HTS.out).mono ?_); rintro x2 y2 ⟨rfl, hT1⟩)
                      | (go_at_call 18; (with_reducible refine (cP hT1).mono ?_); rintro x3 y3 ⟨rfl, hT2⟩))
                    go_roundg g
                    case measure => exact Nat.lt_succ_self g
                    case rel => exact hend HML.out (by assumption)
            · as_aux_lemma =>
                generalize hwo : wr = wo at *
                clear hwo
                have hgb : wo.heap.size ≠ b := by have := (Array.getElem?_eq_some_iff.1 hT0.1.blk).1; have h2 := HXT.out; omega
                obtain ⟨m, hm⟩ : ∃ m, m = runN cl (sl.drop k) := ⟨_, rfl⟩
                obtain ⟨e, he⟩ : ∃ e, e = k + m := ⟨_, rfl⟩
                have hmle : e ≤ sl.length := by have := runN_le cl (sl.drop k); rw [List.length_drop] at this; omega
                have hcl8 : cl.length ≤ 8 := by omega
                have hTB0 : TB w b v (.slice aoI sl.length capI) sl k wo.heap.size 32 #[.int .u8 kd, .int .u8 nm, .string tx, .int .i32 sg, .slice AC cl.length capC] (wo.alloc (.cells #[.int .u8 kd, .int .u8 nm, .string tx, .int .i32 sg, .slice AC cl.length capC] 32)) := ⟨hT0, heap_alloc_new _ _⟩
                have cR := fun {W} (h : TB w b v (.slice aoI sl.length capI) sl k wo.heap.size 32 #[.int .u8 kd, .int .u8 nm, .string tx, .int .i32 sg, .slice AC cl.length capC] W) => (cls_run capC HCA.out hcl8 h.1 hk hl hall).mono (R' := fun x w' => x = .returned (.string (textOf ((sl.drop k).take (e - k)))) ∧ TB w b v (.slice aoI sl.length capI) sl e wo.heap.size 32 #[.int .u8 kd, .int .u8 nm, .string tx, .int .i32 sg, .slice AC cl.length capC] w') fun x w' ⟨p, q⟩ => ⟨by rw [p, he, hm, show k + runN cl (sl.drop k) - k = runN cl (sl.drop k) by omega], by rw [he, hm]; exact h.moves hgb q⟩
                have cT := fun {W} (A' : Option Addr) (c' : Nat) (hA : k < e → ∃ gg, aoI = some ⟨gg, 0, none⟩ ∧ A' = some ⟨gg, k, none⟩) (h : TB w b v (.slice aoI sl.length capI) sl e wo.heap.size 32 #[.int .u8 kd, .int .u8 nm, .string tx, .int .i32 sg, .slice AC cl.length capC] W) => (txt_at hall hl (show k ≤ e by omega) hmle h.1 A' c' hA).mono (R' := fun x w' => x = .returned (.string (textOf ((sl.drop k).take (e - k)))) ∧ TB w b v (.slice aoI sl.length capI) sl e wo.heap.size 32 #[.int .u8 kd, .int .u8 nm, .string tx, .int .i32 sg, .slice AC cl.length capC] w') fun x w' ⟨p, q⟩ => ⟨p, h.below q⟩
                have cI := fun {W} (n : Int) (h : TB w b v (.slice aoI sl.length capI) sl k wo.heap.size 32 #[.int .u8 kd, .int .u8 nm, .string tx, .int .i32 sg, .slice AC cl.length capC] W) => cls_in capC HCA.out hcl8 n h.1.2.2
                have hat : ∀ q, k ≤ q → q < e → ∀ n, sl[q]? = some n → decide (cls n ∈ cl) = true := fun q hq hqe n hn => by
                  obtain ⟨n', h1, h2⟩ := runN_at cl (sl.drop k) (q - k) (by omega)
                  have h3 := drop_at h1
                  rw [show k + (q - k) = q by omega, hn] at h3
                  injection h3 with h3
                  subst h3
                  exact decide_eq_true h2
                have hst : ∀ n, sl[e]? = some n → decide (cls n ∈ cl) = false := fun n hn => by
                  have := runN_end cl (sl.drop k) n (by rw [List.getElem?_drop, ← hm, ← he]; exact hn)
                  exact decide_eq_false this
                have HAT := Lib.hid hat
                have HST := Lib.hid hst
                have HKE := Lib.hid (show k ≤ e ∧ e ≤ sl.length ∧ sl.length ≤ 200 from ⟨by omega, hmle, hl⟩)
                have HT := Lib.hid hTB0
                have HIC := Lib.hid (ints_cap hT0.2.1)
                have hPE : ∀ {W}, TB w b v (.slice aoI sl.length capI) sl e wo.heap.size 32 #[.int .u8 kd, .int .u8 nm, .string tx, .int .i32 sg, .slice AC cl.length capC] W → Calls Tryd.prog 18 #[.pointer (some ⟨b, 0, none⟩)] W fun x w' => x = .returned (.int .i64 e) ∧ TS w b v (.slice aoI sl.length capI) sl e w' := fun {W} h => cP h.1
                clear hm hat hst hmle hT0 he hTB0 hcl8 hgb
                go_wp2
                go_loopg [13] (e - k) (fun g2 s13 wr2 => BlR (wo.alloc (.cells #[.int .u8 kd, .int .u8 nm, .string tx, .int .i32 sg, .slice AC cl.length capC] 32)) k e g2 s13 wr2)
                case atStart => exact ⟨k, nf_st HKE.out.1, Nat.le_refl _, rfl, Same.refl _⟩
                case round =>
                  obtain ⟨q, hqm, hkq, rfl, hs⟩ := hrel
                  have HTB := Lib.hid (HT.out.same hs)
                  have z4 := HTB.out.cell 4
                  simp at z4
                  have HS := Lib.hid hs
                  by_cases hlt : q < sl.length
                  · have hqz : (q : Int) < (sl.length : Int) := nf_int hlt
                    have hq0 : (0 : Int) ≤ (q : Int) := nf_nn
                    have d1 := nf_dt hlt
                    have d2 : decide (q < sl.length) = true := decide_eq_true hlt
                    obtain ⟨n, hn⟩ : ∃ n, sl[q]? = some n := ⟨_, List.getElem?_eq_getElem hlt⟩
                    obtain ⟨gI, rfl, hgI, hcI⟩ := HIW.out (nf_pos hlt)
                    have KC := Lib.hid (show ∀ W2, Same wr W2 → W2.cell? ⟨wo.heap.size, 4, none⟩ = some (.slice AC cl.length capC) ∧ W2.cell? ⟨gI, q, none⟩ = some (.int .i64 n) from fun W2 s => ⟨by rw [same_cell s]; exact z4, hcI _ (hs.trans s) q n hn⟩)
                    have cC := fun W => refClass_any n W
                    have KT := Lib.hid (show ∀ W2, Same wr W2 → TB w b v (.slice (some ⟨gI, 0, none⟩) sl.length capI) sl k wo.heap.size 32 #[.int .u8 kd, .int .u8 nm, .string tx, .int .i32 sg, .slice AC cl.length capC] W2 from fun W2 s => HTB.out.same s)
                    cases gk with
                    | zero =>
                      have h0 := HST.out n (by rw [← nf_eq hqm]; exact hn)
                      have cI2 := fun {W} h => cI (W := W) (cls n) h
                      rw [h0] at cI2
                      obtain rfl : q = e := nf_eq hqm
                      have HKL := Lib.hid (And.intro HKE.out.1 hlt)
                      have nck := nf_nck HKL.out HIC.out
                      generalize cls n = c at *
                      have HAA := Lib.hid (show k < q → ∃ gg, (some ⟨gI, 0, none⟩ : Option Addr) = some ⟨gg, 0, none⟩ ∧ (some ⟨gI, k, none⟩ : Option Addr) = some ⟨gg, k, none⟩ from fun _ => ⟨gI, rfl, rfl⟩)
                      have k1 := nf_nn (q := k)
                      have k2 := nf_le HKL.out.1
                      have k3 := nf_tr (Nat.le_of_lt HKL.out.2) HIC.out
                      clear hs hqm hkq hlt hn hcI hgI h0 cI z4
                      go_wp2
                      first
                        | (go_region_held3 (fun W4 => W4.cell? ⟨wo.heap.size, 4, none⟩ = some (.slice AC cl.length capC) ∧ W4.cell? ⟨gI, q, none⟩ = some (.int .i64 n))
                            (first | exact KC.out _ (Same.refl _) | exact KC.out _ ⟨rfl, rfl, rfl, rfl⟩)
                            (first
                              | (go_at_call 10; (with_reducible refine (cC _).mono ?_); rintro x1 y1 ⟨rfl, rfl⟩)
                              | (go_at_call 12; (with_reducible refine (cI2 (KT.out _ (by first | exact Same.refl _ | exact ⟨rfl, rfl, rfl, rfl⟩))).mono ?_); rintro x1 y1 ⟨rfl, rfl⟩)
                              | fail))
                        | fail
                      all_goals
                        have hT9 := KT.out wr.drew ⟨rfl, rfl, rfl, rfl⟩
                        generalize wr.drew = W9 at *
                        clear KC cC cI2
                        have hT9d := hT9.same (show Same W9 W9.drew from ⟨rfl, rfl, rfl, rfl⟩)
                        go_wp2
                        go_region_held3 (fun W4 => W4.cell? ⟨wo.heap.size, 4, none⟩ = some (.slice AC cl.length capC))
                          (first | exact TB.c4 (by assumption))
                          (first
                            | (go_at_call 13; (with_reducible refine (cR (by assumption)).mono ?_); rintro x1 y1 ⟨rfl, hT1⟩)
                            | (go_at_call 8; (with_reducible refine (cT _ _ HAA.out hT1).mono ?_); rintro x2 y2 ⟨rfl, hT2⟩)
                            | fail)
                        all_goals
                          go_wp2_with (go_at_call 18; (with_reducible refine (hPE hT2).mono ?_); rintro x3 y3 ⟨rfl, hT3⟩)
                          go_roundg g
                          case measure => exact Nat.lt_succ_self g
                          case rel => exact hend HKE.out.2.1 (by assumption)
                    | succ g2 =>
                      have h0 := HAT.out q hkq (nf_lt2 hqm) n hn
                      have cI2 := fun {W} h => cI (W := W) (cls n) h
                      rw [h0] at cI2
                      have HQ := Lib.hid (show q + 1 + g2 = e ∧ k ≤ q + 1 ∧ q < 200 from nf_go hqm hkq (nf_200 hlt HKE.out.2.2))
                      generalize cls n = c at *
                      clear hs hqm hkq hlt hn hcI hgI h0 cI z4
                      go_wp2
                      first
                        | (go_region_held3 (fun W4 => W4.cell? ⟨wo.heap.size, 4, none⟩ = some (.slice AC cl.length capC) ∧ W4.cell? ⟨gI, q, none⟩ = some (.int .i64 n))
                            (first | exact KC.out _ (Same.refl _) | exact KC.out _ ⟨rfl, rfl, rfl, rfl⟩)
                            (first
                              | (go_at_call 10; (with_reducible refine (cC _).mono ?_); rintro x1 y1 ⟨rfl, rfl⟩)
                              | (go_at_call 12; (with_reducible refine (cI2 (KT.out _ (by first | exact Same.refl _ | exact ⟨rfl, rfl, rfl, rfl⟩))).mono ?_); rintro x1 y1 ⟨rfl, rfl⟩)
                              | fail))
                        | fail
                      all_goals
                        go_wp2
                        go_roundg g2
                        case measure => exact Nat.lt_succ_self g2
                        case rel => exact ⟨q + 1, HQ.out.1, HQ.out.2.1, by first | rfl | exact nf_suc HQ.out.2.2, HS.out.trans ⟨rfl, rfl, rfl, rfl⟩⟩
                  · have hqz : ¬ (q : Int) < (sl.length : Int) := nf_nint hlt
                    have d1 := nf_df hlt
                    have d2 : decide (q < sl.length) = false := decide_eq_false hlt
                    obtain ⟨rfl, hge⟩ := nf_end hqm HKE.out.2.1 hlt
                    have HQL := Lib.hid hlt
                    clear hqm hkq hlt hge z4
                    go_wp2
                    go_quiet (fail)
                    have hT9 := HTB.out.same (same_draw _ nq)
                    generalize wr.drewN nq = W9 at *
                    have k1 := nf_nn (q := k)
                    have k2 := nf_le HKE.out.1
                    have k3 := nf_tr HKE.out.2.1 HIC.out
                    clear hs hqz d1 d2 cI
                    rcases Nat.lt_or_ge k q with hke | hke
                    · obtain ⟨gI, rfl, hgI, hcI⟩ := HIW.out (nf_pos (Nat.lt_of_lt_of_le hke HKE.out.2.1))
                      have nck := nf_nck (q := k) ⟨Nat.le_refl k, Nat.lt_of_lt_of_le hke HKE.out.2.1⟩ HIC.out
                      have HAA := Lib.hid (show k < q → ∃ gg, (some ⟨gI, 0, none⟩ : Option Addr) = some ⟨gg, 0, none⟩ ∧ (some ⟨gI, k, none⟩ : Option Addr) = some ⟨gg, k, none⟩ from fun _ => ⟨gI, rfl, rfl⟩)
                      clear hke hgI hcI
                      have hT9d := hT9.same (show Same W9 W9.drew from ⟨rfl, rfl, rfl, rfl⟩)
                      go_wp2
                      go_region_held3 (fun W4 => W4.cell? ⟨wo.heap.size, 4, none⟩ = some (.slice AC cl.length capC))
                        (first | exact TB.c4 (by assumption))
                        (first
                          | (go_at_call 13; (with_reducible refine (cR (by assumption)).mono ?_); rintro x1 y1 ⟨rfl, hT1⟩)
                          | (go_at_call 8; (with_reducible refine (cT _ _ HAA.out hT1).mono ?_); rintro x2 y2 ⟨rfl, hT2⟩)
                          | fail)
                      all_goals
                        go_wp2_with (go_at_call 18; (with_reducible refine (hPE hT2).mono ?_); rintro x3 y3 ⟨rfl, hT3⟩)
                        go_roundg g
                        case measure => exact Nat.lt_succ_self g
                        case rel => exact hend HKE.out.2.1 (by assumption)
                    · have hnk := nf_no hke
                      have HAA := Lib.hid (show ∀ A' : Option Addr, k < q → ∃ gg, aoI = some ⟨gg, 0, none⟩ ∧ A' = some ⟨gg, k, none⟩ from fun A' h => absurd h hnk)
                      have hkq := nf_keq hke HKE.out.1
                      clear hke hnk
                      subst hkq
                      simp only [Nat.sub_self] at cR cT
                      by_cases hck : capI = k
                      · subst hck
                        have hT9d := hT9.same (show Same W9 W9.drew from ⟨rfl, rfl, rfl, rfl⟩)
                        go_wp2
                        go_region_held3 (fun W4 => W4.cell? ⟨wo.heap.size, 4, none⟩ = some (.slice AC cl.length capC))
                          (first | exact TB.c4 (by assumption))
                          (first
                            | (go_at_call 13; (with_reducible refine (cR (by assumption)).mono ?_); rintro x1 y1 ⟨rfl, hT1⟩)
                            | (go_at_call 8; (with_reducible refine (cT _ _ (HAA.out _) hT1).mono ?_); rintro x2 y2 ⟨rfl, hT2⟩)
                            | fail)
                        all_goals
                          go_wp2_with (go_at_call 18; (with_reducible refine (hPE hT2).mono ?_); rintro x3 y3 ⟨rfl, hT3⟩)
                          go_roundg g
                          case measure => exact Nat.lt_succ_self g
                          case rel => exact hend HKE.out.2.1 (by assumption)
                      · have hT9d := hT9.same (show Same W9 W9.drew from ⟨rfl, rfl, rfl, rfl⟩)
                        go_wp2
                        go_region_held3 (fun W4 => W4.cell? ⟨wo.heap.size, 4, none⟩ = some (.slice AC cl.length capC))
                          (first | exact TB.c4 (by assumption))
                          (first
                            | (go_at_call 13; (with_reducible refine (cR (by assumption)).mono ?_); rintro x1 y1 ⟨rfl, hT1⟩)
                            | (go_at_call 8; (with_reducible refine (cT _ _ (HAA.out _) hT1).mono ?_); rintro x2 y2 ⟨rfl, hT2⟩)
                            | fail)
                        all_goals
                          go_wp2_with (go_at_call 18; (with_reducible refine (hPE hT2).mono ?_); rintro x3 y3 ⟨rfl, hT3⟩)
                          go_roundg g
                          case measure => exact Nat.lt_succ_self g
                          case rel => exact hend HKE.out.2.1 (by assumption)
            · as_aux_lemma =>
                have hcl : ∀ (A' : Option Addr) (gg q e : Nat) (c' : Nat) {W : World}, TS w b v (.slice (some ⟨gg, 0, none⟩) sl.length capI) sl q W → True := fun _ _ _ _ _ _ _ => trivial
                clear hcl
                obtain ⟨e, fd, hke, hel, hne, hend4, hcU⟩ : ∃ (e : Nat) (fd : Bool), k ≤ e ∧ e ≤ sl.length ∧ (∀ q, k ≤ q → q < e → ∀ n, sl[q]? = some n → ¬ n = sg) ∧ ((fd = true ∧ e < sl.length ∧ sl[e]? = some sg) ∨ (fd = false ∧ e = sl.length)) ∧
                    ∀ {W}, TS w b v (.slice aoI sl.length capI) sl k W → Calls Tryd.prog 14 #[.pointer (some ⟨b, 0, none⟩), .int .i32 sg] W fun x w' => x = .returned (.tuple #[.string (if fd = true then textOf ((sl.drop k).take (e - k)) else ⟨#[]⟩), .bool fd]) ∧ TS w b v (.slice aoI sl.length capI) sl (if fd = true then e + 1 else k) w' := by
                  rcases idx_range sg (sl.drop k) with hx | ⟨m, hm, hx, hmx, hnt⟩
                  · refine ⟨sl.length, false, hk, Nat.le_refl _, fun q h1 h2 n hn e => ?_, .inr ⟨rfl, rfl⟩, fun {W} h => ?_⟩
                    · refine idx_none sg _ hx ?_
                      subst e
                      have : (sl.drop k)[q - k]? = some n := by rw [List.getElem?_drop, show k + (q - k) = q by omega]; exact hn
                      exact List.mem_of_getElem? this
                    · exact (until_no h.1 hk (by omega) sg hx).mono fun x w' ⟨h1, h2⟩ => ⟨h1, h.same h2⟩
                  · rw [List.length_drop] at hm
                    have hmm := drop_at hmx
                    refine ⟨k + m, true, by omega, by omega, fun q h1 h2 n hn e => ?_, .inl ⟨rfl, by omega, hmm⟩, fun {W} h => ?_⟩
                    · subst e
                      refine hnt (List.mem_of_getElem? (i := q - k) ?_)
                      rw [List.getElem?_take, if_pos (by omega), List.getElem?_drop, show k + (q - k) = q by omega]
                      exact hn
                    · refine (until_yes h.1 hall (by omega) sg m (by omega) hx).mono fun x w' ⟨h1, h2⟩ => ⟨?_, ?_⟩
                      · rw [h1, show k + m - k = m by omega]; rfl
                      · have := h.moves h2
                        simpa using this
                have HNE := Lib.hid hne
                have HEL := Lib.hid (show k ≤ e ∧ e ≤ sl.length ∧ sl.length ≤ 200 from ⟨hke, hel, hl⟩)
                have HE4 := Lib.hid hend4
                have ws : wrap64 sg = sg := by first | exact IntWalk.i64_in sg (by omega) | (unfold wrap64; omega)
                have ws2 : IntKind.i64.wrap sg = sg := IntWalk.i64_in sg (by omega)
                have HT := Lib.hid hT0
                have HK := Lib.hid hk
                have HTX := Lib.hid (show ∀ (gg : Nat) (A' : Option Addr) (c' : Nat) {W : World}, (k < e → A' = some ⟨gg, k, none⟩) → TS w b v (.slice (some ⟨gg, 0, none⟩) sl.length capI) sl (if fd = true then e + 1 else k) W → Calls Tryd.prog 8 #[.slice A' (e - k) c'] W fun x w' => x = .returned (.string (textOf ((sl.drop k).take (e - k)))) ∧ TS w b v (.slice (some ⟨gg, 0, none⟩) sl.length capI) sl (if fd = true then e + 1 else k) w' from fun gg A' c' {W} hA h => by
                  have hlt : gg < W.heap.size := (World.ownsRow.lt h.2.1 gg rfl).2
                  have ht := text_any ((sl.drop k).take (e - k)) (fun n hn => hall n (List.mem_of_mem_drop (List.mem_of_mem_take hn))) (by rw [List.length_take, List.length_drop]; omega) A' gg k c' W (fun h0 => ⟨hA (by rw [List.length_take, List.length_drop] at h0; omega), hlt⟩) (fun j x hx => by
                    rw [List.getElem?_take] at hx
                    split at hx
                    · rw [List.getElem?_drop] at hx
                      have := World.ownsRow.cells h.2.1 (g := gg) rfl (k + j) (.int .i64 x) (by simp [intRow, hx])
                      rw [addr_add] at this
                      exact this
                    · cases hx)
                  rw [List.length_take, List.length_drop, show min (e - k) (sl.length - k) = e - k by omega] at ht
                  exact ht.mono fun x w' ⟨h1, h2⟩ => ⟨h1, h.below h2⟩)
                clear hke hel hne hend4 hT0 hk bs
                go_wp2
                go_loopg [13] (e - k) (fun g2 s13 wr2 => BlR (wr.alloc (.cells #[.int .u8 kd, .int .u8 nm, .string tx, .int .i32 sg, .slice AC cl.length capC] 32)) k e g2 s13 wr2)
                case atStart => exact ⟨k, nf_st HEL.out.1, Nat.le_refl _, rfl, Same.refl _⟩
                case round =>
                  obtain ⟨q, hqm, hkq, rfl, hs⟩ := hrel
                  have HTS := Lib.hid (HT.out.from hs)
                  have hbx := HBX.out _ hs
                  have z3 := Lib.cell_of_heap hbx 3
                  simp at z3
                  have HBB := Lib.hid hbx
                  have HS := Lib.hid hs
                  cases gk with
                  | zero =>
                    obtain rfl : q = e := nf_eq hqm
                    rcases HE4.out with ⟨hf, hlt, hn⟩ | ⟨hf, hlt⟩
                    · subst hf
                      have hqz : (q : Int) < (sl.length : Int) := nf_int hlt
                      have hq0 : (0 : Int) ≤ (q : Int) := nf_nn
                      obtain ⟨gI, rfl, hgI, hcI⟩ := HIW.out (nf_pos hlt)
                      have y := hcI _ hs q sg hn
                      have b1 : (sg != sg) = false := by simp
                      have d1 := nf_dt hlt
                      have d2 : decide (q < sl.length) = true := decide_eq_true hlt
                      have HQ := Lib.hid (And.intro hkq hlt)
                      clear hqm hkq hlt hn hcI hgI hbx
                      have HSS := Lib.hid hs
                      clear hs
                      simp only [↓reduceIte] at hcU
                      have hTX := HTX.out
                      simp only [↓reduceIte] at hTX
                      have HTX2 := Lib.hid @hTX
                      clear hTX HTX
                      go_wp2
                      go_quiet (fail)
                      have hs9 := HSS.out.trans (same_draw _ nq)
                      generalize wr.drewN nq = W9 at *
                      have hT9 := HT.out.from hs9
                      have z9 := Lib.cell_of_heap (HBX.out _ hs9) 3
                      simp at z9
                      have k1 := nf_nn (q := k)
                      have k2 := nf_le HQ.out.1
                      have k3 := nf_tr (Nat.le_of_lt HQ.out.2) (ints_cap hT9.2.1)
                      have nck := nf_nck HQ.out (ints_cap hT9.2.1)
                      clear hs9 y z3
                      go_wp2_with (first
                        | (go_at_call 14; (with_reducible refine (hcU hT9).mono ?_); rintro x1 y1 ⟨rfl, hT1⟩)
                        | (go_at_call 8; (with_reducible refine (HTX2.out gI _ _ (fun _ => rfl) hT1).mono ?_); rintro x2 y2 ⟨rfl, hT2⟩)
                        | (go_at_call 18; (with_reducible refine (cP hT2).mono ?_); rintro x3 y3 ⟨rfl, hT3⟩))
                      go_roundg g
                      case measure => exact Nat.lt_succ_self g
                      case rel =>
                        have hf := hend (k' := q + 1) HQ.out.2 (by assumption)
                        first
                          | exact hf
                          | (rw [nf_suc (nf_l200 HQ.out.2 HEL.out.2.2)]; exact hf)
                    · subst hf
                      have hqz : ¬ (q : Int) < (sl.length : Int) := nf_nint (nf_irr hlt)
                      have d1 := nf_df (nf_irr hlt)
                      have d2 : decide (q < sl.length) = false := decide_eq_false (nf_irr hlt)
                      clear hqm hkq hlt hbx
                      have HSS := Lib.hid hs
                      clear hs
                      simp only [Bool.false_eq_true, ↓reduceIte] at hcU
                      clear HTX
                      go_wp2
                      go_quiet (fail)
                      have hs9 := HSS.out.trans (same_draw _ nq)
                      generalize wr.drewN nq = W9 at *
                      have hT9 := HT.out.from hs9
                      have z9 := Lib.cell_of_heap (HBX.out _ hs9) 3
                      simp at z9
                      clear hs9 z3
                      go_wp2_with (first
                        | (go_at_call 14; (with_reducible refine (hcU hT9).mono ?_); rintro x1 y1 ⟨rfl, hT1⟩)
                        | (go_at_call 18; (with_reducible refine (cP hT1).mono ?_); rintro x3 y3 ⟨rfl, hT2⟩))
                      go_roundg g
                      case measure => exact Nat.lt_succ_self g
                      case rel => exact hend HK.out (by assumption)
                  | succ g2 =>
                    have hlt : q < sl.length := nf_lt hqm HEL.out.2.1
                    have hqz : (q : Int) < (sl.length : Int) := nf_int hlt
                    have hq0 : (0 : Int) ≤ (q : Int) := nf_nn
                    obtain ⟨n, hn⟩ : ∃ n, sl[q]? = some n := ⟨_, List.getElem?_eq_getElem hlt⟩
                    have h0 := HNE.out q hkq (nf_lt2 hqm) n hn
                    obtain ⟨gI, rfl, hgI, hcI⟩ := HIW.out (nf_pos hlt)
                    have y := hcI _ hs q n hn
                    have b1 : (n != sg) = true := by simpa using h0
                    have HQ := Lib.hid (show q + 1 + g2 = e ∧ k ≤ q + 1 ∧ q < 200 from nf_go hqm hkq (nf_200 hlt HEL.out.2.2))
                    clear hs hqm hkq hlt hn hcI hgI hbx
                    go_wp2
                    (try go_quiet (fail))
                    go_wp2
                    go_roundg g2
                    case measure => exact Nat.lt_succ_self g2
                    case rel => exact ⟨q + 1, HQ.out.1, HQ.out.2.1, by first | rfl | exact nf_suc HQ.out.2.2, HS.out.trans ⟨rfl, rfl, rfl, rfl⟩⟩
            · as_aux_lemma =>
                have hwn : wrap64 nm = nm := by first | exact IntWalk.i64_in nm (by omega) | (unfold wrap64; omega)
                have hwm : IntKind.i64.wrap (nm - 5) = nm - 5 := IntWalk.i64_in _ (by omega)
                by_cases hin5 : 0 ≤ nm - 5 ∧ nm - 5 ≤ (sl.length : Int)
                · obtain ⟨j, hj⟩ : ∃ j : Nat, nm - 5 = j := ⟨(nm - 5).toNat, by omega⟩
                  have hjl : j ≤ sl.length := by omega
                  have hjz : (j : Int) ≤ (sl.length : Int) := by omega
                  have hj0 : (0 : Int) ≤ (j : Int) := by omega
                  have hwm2 : IntKind.i64.wrap (nm - 5) = j := by rw [hwm, hj]
                  have cX : ∀ {W}, TS w b v (.slice aoI sl.length capI) sl k W → Calls Tryd.prog 15 #[.pointer (some ⟨b, 0, none⟩), .int .i64 j] W fun e w' => e = .returned (.bool true) ∧ TS w b v (.slice aoI sl.length capI) sl j w' := fun {W} h => ts_back (w := w) j hjl (by omega) W h
                  clear hin5 bn hwm
                  go_wp2_with (first
                    | (go_at_call 15; (with_reducible refine (cX hT0).mono ?_); rintro e y1 ⟨rfl, hT1⟩)
                    | (go_at_call 18; (with_reducible refine (cP hT1).mono ?_); rintro e y2 ⟨rfl, hT2⟩))
                  go_roundg g
                  case measure => exact Nat.lt_succ_self g
                  case rel => exact hend hjl (by assumption)
                · obtain ⟨j, hj⟩ : ∃ j : Int, nm - 5 = j := ⟨_, rfl⟩
                  have hjo : j < 0 ∨ (sl.length : Int) < j := by omega
                  have hwm2 : IntKind.i64.wrap (nm - 5) = j := by rw [hwm, hj]
                  have cX : ∀ {W}, TS w b v (.slice aoI sl.length capI) sl k W → Calls Tryd.prog 15 #[.pointer (some ⟨b, 0, none⟩), .int .i64 j] W fun e w' => e = .returned (.bool false) ∧ TS w b v (.slice aoI sl.length capI) sl k w' := fun {W} h => ts_back_no (w := w) j hjo (by omega) W h
                  clear hin5 bn hwm hj
                  rcases hjo with hj1 | hj1
                  · have hj2 : ¬ (0 : Int) ≤ j := by omega
                    go_wp2_with (first
                      | (go_at_call 15; (with_reducible refine (cX hT0).mono ?_); rintro e y1 ⟨rfl, hT1⟩)
                      | (go_at_call 18; (with_reducible refine (cP hT1).mono ?_); rintro e y2 ⟨rfl, hT2⟩))
                    go_roundg g
                    case measure => exact Nat.lt_succ_self g
                    case rel => exact hend hk (by assumption)
                  · have hj2 : (0 : Int) ≤ j := by omega
                    have hj3 : ¬ j ≤ (sl.length : Int) := by omega
                    go_wp2_with (first
                      | (go_at_call 15; (with_reducible refine (cX hT0).mono ?_); rintro e y1 ⟨rfl, hT1⟩)
                      | (go_at_call 18; (with_reducible refine (cP hT1).mono ?_); rintro e y2 ⟨rfl, hT2⟩))
                    go_roundg g
                    case measure => exact Nat.lt_succ_self g
                    case rel => exact hend hk (by assumption)
            · as_aux_lemma =>
                by_cases hkl : k < sl.length
                · have hkz : (k : Int) < (sl.length : Int) := by omega
                  have hk0 : (0 : Int) ≤ (k : Int) := by omega
                  obtain ⟨x, hx⟩ : ∃ x, sl[k]? = some x := ⟨_, List.getElem?_eq_getElem hkl⟩
                  have hsx := (sgn_iff x).1 (hall x (List.mem_of_getElem? hx))
                  have hwx : wrap64 x = x := by first | exact IntWalk.i64_in x (by omega) | (unfold wrap64; omega)
                  obtain ⟨gI, rfl, hgI, hcI⟩ := HIJ.out (by omega)
                  have hcx : wr.cell? ⟨gI, k, none⟩ = some (.int .i64 x) := hcI k x hx
                  have n1 : wr.heap.size ≠ gI := Nat.ne_of_gt hgI
                  have cX : ∀ {W}, TS w b v (.slice (some ⟨gI, 0, none⟩) sl.length capI) sl k W → Calls Tryd.prog 16 #[.pointer (some ⟨b, 0, none⟩)] W fun e w' => e = .returned (.int .i32 x) ∧ TS w b v (.slice (some ⟨gI, 0, none⟩) sl.length capI) sl k w' := fun {W} h => ts_peek (w := w) hx (by omega) W h
                  have cE : ∀ {W}, TS w b v (.slice (some ⟨gI, 0, none⟩) sl.length capI) sl k W → Calls Tryd.prog 17 #[.pointer (some ⟨b, 0, none⟩)] W fun e w' => e = .returned (.bool false) ∧ TS w b v (.slice (some ⟨gI, 0, none⟩) sl.length capI) sl k w' := fun {W} h => ts_end_no (w := w) hkl (by omega) W h
                  have hnel : ((k : Int) == (sl.length : Int)) = false := by rw [beq_eq_false_iff_ne]; omega
                  clear hx hsx hcI
                  go_wp2_with (first
                    | (go_at_call 16; (with_reducible refine (cX hT0).mono ?_); rintro e y1 ⟨rfl, hT1⟩)
                    | (go_at_call 17; (with_reducible refine (cE hT1).mono ?_); rintro e y2 ⟨rfl, hT2⟩)
                    | (go_at_call 18; (with_reducible refine (cP hT2).mono ?_); rintro e y3 ⟨rfl, hT3⟩))
                  go_roundg g
                  case measure => exact Nat.lt_succ_self g
                  case rel => exact hend (by omega) (by assumption)
                · have hke : k = sl.length := by omega
                  have hkz : ¬ (k : Int) < (sl.length : Int) := by omega
                  have hnel : ((k : Int) == (sl.length : Int)) = true := by rw [beq_iff_eq]; omega
                  have cX : ∀ {W}, TS w b v (.slice aoI sl.length capI) sl k W → Calls Tryd.prog 16 #[.pointer (some ⟨b, 0, none⟩)] W fun e w' => e = .returned (.int .i32 (-1)) ∧ TS w b v (.slice aoI sl.length capI) sl k w' := fun {W} h => ts_peek_end (w := w) hke (by omega) W h
                  have cE : ∀ {W}, TS w b v (.slice aoI sl.length capI) sl k W → Calls Tryd.prog 17 #[.pointer (some ⟨b, 0, none⟩)] W fun e w' => e = .returned (.bool true) ∧ TS w b v (.slice aoI sl.length capI) sl k w' := fun {W} h => ts_end_yes (w := w) hke (by omega) W h
                  clear hke hkl
                  go_wp2_with (first
                    | (go_at_call 16; (with_reducible refine (cX hT0).mono ?_); rintro e y1 ⟨rfl, hT1⟩)
                    | (go_at_call 17; (with_reducible refine (cE hT1).mono ?_); rintro e y2 ⟨rfl, hT2⟩)
                    | (go_at_call 18; (with_reducible refine (cP hT2).mono ?_); rintro e y3 ⟨rfl, hT3⟩))
                  go_roundg g
                  case measure => exact Nat.lt_succ_self g
                  case rel => exact hend (by omega) (by assumption)
    · have hd : decide (rest = []) = false := decide_eq_false hr
      rw [hd] at sA
      have cN : ∀ W, Calls Tryd.prog 6 #[.string s] W fun e w' => e = .returned (.tuple #[.pointer none, .int .i64 sl.length, .int .i64 1]) ∧ Below W.heap.size W w' := fun W => new_bad s sl rest hp hr (by omega) W
      clear hd hp hr hlen
      go_enter Tryd.func3, Tryd.ntmps3
      go_wp2_with (first
        | (go_at_call 4; (with_reducible refine (cA.at (by assumption)).mono ?_); rintro e w1 ⟨rfl, hb1⟩)
        | (go_at_call 5; (with_reducible refine (sA _).mono ?_); rintro e w2 ⟨vI, rfl, hI2, hb2⟩; obtain ⟨aoI, capI, rfl⟩ := ints_shape hI2; have hb3 := hb1.trans (hb2.mono hb1.size); clear hI2)
        | (go_at_call 6; (with_reducible refine (cN _).mono ?_); rintro e w6 ⟨rfl, hb6⟩; have hb7 := hb3.trans (hb6.mono hb3.size)))
      all_goals (go_ret; exact ⟨ret_bool (by first | rfl | simp), by assumption⟩)
end Go.Proofs.YtjnajpfolppniaaDoor
