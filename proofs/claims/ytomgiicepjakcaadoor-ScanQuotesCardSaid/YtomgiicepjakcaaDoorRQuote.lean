/-
  THE DOCUMENT's 'Quote' of signs: what the program's Quote writes of their text.
-/
import Derived.Test.YtomgiicepjakcaaDoorText
import Derived.Test.YtomgiicepjakcaaDoorEsc
import Derived.Deep.AppendLies
namespace Go.Proofs.YtomgiicepjakcaaDoor
open Go.RowKit
set_option linter.unusedVariables false

def QXI (B : Nat) (w : World) (l : List Int) (g : Nat) (v i : Value) (wr : World) : Prop :=
  ∃ a b, l = a ++ b ∧ b.length = g ∧ i = .int .i64 a.length ∧ U8s B wr v (34 :: escL a) ∧ Below B w wr
theorem qxi_step {B : Nat} {w wr W w5 : World} {l a b : List Int} {n : Int} {g m : Nat} {v v' : Value} {news : List Value} (hl : l = a ++ n :: b) (hg : (n :: b).length = g + 1) (hb : Below B w wr) (hbs : B ≤ wr.heap.size) (hW : Below wr.heap.size wr W) (hWB : B ≤ W.heap.size)
    (hown : w5.ownsRow B 5 1 v' ((34 :: escL a).length + m) (Lib.byteCells (34 :: escL a) ++ news)) (hgr : W.grownBy w5 v.ownBlock) (hv : ∀ k, v.ownBlock = some k → B ≤ k) (hnews : news = Lib.byteCells (esc n)) (hm : m = (esc n).length) :
    QXI B w l g v' (.int .i64 ((a.length : Int) + 1)) w5 := by
  refine ⟨a ++ [n], b, by rw [hl]; simp, by simpa using hg, by simp, ?_, ((hb.trans (hW.mono hbs)).grown hgr hWB hv)⟩
  subst hnews hm
  unfold U8s
  rw [escL_append, escL_one, ← List.cons_append, Lib.byteCells_append, List.length_append]
  exact hown
theorem new_cells {wr : World} {cs : Array Value} {news : List Value} (h : cs.toList = news) : ∀ j u, news[j]? = some u → (wr.alloc (.cells cs 5)).cell? ((⟨wr.heap.size, 0, none⟩ : Addr).add j) = some u := by
  intro j u hj
  have hh : (wr.alloc (.cells cs 5)).heap[wr.heap.size]? = some (.cells cs 5 (0, 0)) := heap_alloc_new _ _
  have ha : (⟨wr.heap.size, 0, none⟩ : Addr).add j = ⟨wr.heap.size, j, none⟩ := by
    by_cases hj0 : j = 0
    · subst hj0; simp [Addr.add]
    · simp [Addr.add, hj0]
  rw [ha, Lib.cell_of_heap hh, ← Array.getElem?_toList, h]
  exact hj

set_option maxHeartbeats 8000000 in
set_option maxRecDepth 100000 in
theorem rquote_any (l : List Int) (hall : AllS l) (hl : l.length ≤ 1000000) (ao : Option Addr) (gc oc cap : Nat) (w : World) (hao : 0 < l.length → ao = some ⟨gc, oc, none⟩ ∧ gc < w.heap.size)
    (hc : ∀ (j : Nat) (x : Int), l[j]? = some x → w.cell? ⟨gc, oc + j, none⟩ = some (.int .i64 x)) :
    Calls Tryd.prog 27 #[.slice ao l.length cap] w fun e w' => e = .returned (.string (quo l)) ∧ Below w.heap.size w w' := by
  have HC := Lib.hid hc
  have HA := Lib.hid hall
  have HO := Lib.hid hao
  obtain ⟨i0, hi, hz0, hz1, hz2⟩ := info_parts byteInfo
  clear hc hall hao
  go_enter Tryd.func27, Tryd.ntmps27
  go_wp2
  go_loopg [4, 11] l.length (fun g v i wr => QXI w.heap.size w l g v i wr)
  case atStart =>
    refine ⟨[], l, rfl, rfl, rfl, ⟨rfl, .inr ⟨w.heap.size, 1, #[.int .u8 34], rfl, Nat.le_refl _, heap_alloc_new _ _, Nat.le_refl _, by unfold maxLen; omega, rfl, rfl⟩⟩, (Below.refl _ _).alloc (Nat.le_refl _) _⟩
  case round =>
    obtain ⟨a, b, hab, hbl, rfl, hU, hbw⟩ := hrel
    obtain ⟨av, cv, rfl⟩ := u8s_shape hU
    have hla : a.length + b.length = l.length := by rw [hab]; simp
    have hen := escL_len a
    have HAB := Lib.hid hab
    have HBL := Lib.hid hbl
    have hbs := hbw.size
    cases gk with
    | zero =>
      obtain rfl : b = [] := List.length_eq_zero_iff.1 hbl
      have hal : a.length = l.length := by simp at hla; omega
      have hge : ¬ ((a.length : Int) < (l.length : Int)) := by omega
      have HU := Lib.hid hU
      have hla2 : l = a := by rw [hab, List.append_nil]
      have HLA := Lib.hid hla2
      have hal2 : a.length ≤ 1000000 := by omega
      clear hab hbl hla hal hla2
      go_wp2_with (at_builtin; refine wpList_append_own _ rfl _ _ 61 rfl w.heap.size 5 i0 (.int .u8 0) 1 1 Tryd.underlying61 hi hz0 hz1 hz2 rfl (by decide) _ _ _ rfl (World.ownsRow.alloc hU _) ⟨wr.heap.size, 0, none⟩ 1 1 [.int .u8 34] rfl rfl ?z1 ?z2 ?z3 ?z4 ?z5 ?_)
      case z2 => first | rfl | (intro u hu; simp at hu; subst hu; rfl)
      case z3 => unfold maxLen; simp; omega
      case z4 => first | omega | (simp; omega)
      case z5 => first | omega | (simp; omega)
      intro v' w5 hown' hgrow' _
      have hU5 : U8s w.heap.size w5 v' (quoteL a) := by
        unfold U8s quoteL
        rw [List.length_append, Lib.byteCells_append]
        exact hown'
      have hcv := bytes_text hU5
      obtain ⟨av5, cv5, rfl⟩ := u8s_shape hU5
      have hb5 : Below w.heap.size w w5 := (hbw.alloc hbs _).grown hgrow' (by simp; omega) (fun k hk => (World.ownsRow.lt HU.out k hk).1)
      have hres : (⟨(quoteL a).toArray⟩ : ByteArray) = quo l := by rw [HLA.out]; rfl
      rw [hres] at hcv
      clear hown' hgrow' hU5 hU hres
      go_wp2
      go_ret
      exact ⟨rfl, hb5⟩
    | succ g =>
      obtain ⟨n, b', rfl⟩ : ∃ n b', b = n :: b' := by
        match b, hbl with
        | n :: b', _ => exact ⟨n, b', rfl⟩
      have hlt : (a.length : Int) < (l.length : Int) := by simp at hla; omega
      have hn : l[a.length]? = some n := by rw [hab]; simp
      obtain ⟨rfl, hgc⟩ := HO.out (by simp at hla; omega)
      have hcell : wr.cell? ⟨gc, oc + a.length, none⟩ = some (.int .i64 n) := (hbw.cell (p := ⟨gc, oc + a.length, none⟩) hgc).trans (HC.out _ _ hn)
      have hsg := HA.out n (List.mem_of_getElem? hn)
      have HSG := Lib.hid hsg
      have hB := bytes_any n hsg wr
      have HU := Lib.hid hU
      have hvk : ∀ k, (Value.slice av (34 :: escL a).length cv).ownBlock = some k → w.heap.size ≤ k := fun k hk => (World.ownsRow.lt hU k hk).1
      have HVK := Lib.hid hvk
      clear hab hbl hla hn hsg hvk
      by_cases hlt0 : lett n = 0
      · by_cases hc4 : cls n = 4
        · have e1 : (lett n == 0) = true := by simpa using hlt0
          have e1' : (lett n != 0) = false := by simpa using hlt0
          have e2 : (cls n == 4) = true := by simpa using hc4
          have hr4 := cls4_range n hc4
          have hes4 : esc n = numL n := by unfold esc; rw [if_neg (by simpa using hlt0), if_pos hc4]
          have HES4 : Hid ([Value.int .u8 92, .int .u8 117, .int .u8 48, .int .u8 48, .int .u8 ((hexd (n / 16)).toNat : Int), .int .u8 ((hexd (n % 16)).toNat : Int)] = Lib.byteCells (esc n)) := Lib.hid (by rw [hes4]; rfl)
          have HEL4 : Hid (6 = (esc n).length) := Lib.hid (by rw [hes4]; rfl)
          clear hlt0 hc4 hes4
          go_wp2_with (first
            | (go_at_call 45; (with_reducible refine (refLetter_any n _).mono ?_); rintro e w' ⟨rfl, rfl⟩)
            | (go_at_call 23; (with_reducible refine (refClass_any n _).mono ?_); rintro e w' ⟨rfl, rfl⟩))
          have q0 : (0 : Int) ≤ n / 16 := by omega
          have q1 : n / 16 < 16 := by omega
          have q2 : (0 : Int) ≤ n % 16 := by omega
          have q3 : n % 16 < 16 := by omega
          have d2 := hexd_atZ (n / 16) (by omega) (by omega)
          have d3 := hexd_atZ (n % 16) (by omega) (by omega)
          have t1 : n.tdiv 16 = n / 16 := Int.tdiv_eq_ediv_of_nonneg hr4.1
          have t2 : n.tmod 16 = n % 16 := Int.tmod_eq_emod_of_nonneg hr4.1
          have t3 : IntKind.i64.wrap (n / 16) = n / 16 := IntWalk.i64_in _ (by omega)
          have t4 : IntKind.i64.wrap (n % 16) = n % 16 := IntWalk.i64_in _ (by omega)
          have hn1 : ∀ j u, [Value.int .u8 92, .int .u8 117, .int .u8 48, .int .u8 48, .int .u8 ((hexd (n / 16)).toNat : Int), .int .u8 ((hexd (n % 16)).toNat : Int)][j]? = some u → (wr.alloc (.cells #[Value.int .u8 92, .int .u8 117, .int .u8 48, .int .u8 48, .int .u8 ((hexd (n / 16)).toNat : Int), .int .u8 ((hexd (n % 16)).toNat : Int)] 5)).drew.cell? ((⟨wr.heap.size, 0, none⟩ : Addr).add j) = some u := new_cells rfl
          have hn2 : ∀ u ∈ [Value.int .u8 92, .int .u8 117, .int .u8 48, .int .u8 48, .int .u8 ((hexd (n / 16)).toNat : Int), .int .u8 ((hexd (n % 16)).toNat : Int)], u.oneCell' = true := by
            intro u hu
            simp at hu
            rcases hu with rfl | rfl | rfl | rfl | rfl <;> rfl
          have hown0 := (World.ownsRow.alloc hU (.cells #[Value.int .u8 92, .int .u8 117, .int .u8 48, .int .u8 48, .int .u8 ((hexd (n / 16)).toNat : Int), .int .u8 ((hexd (n % 16)).toNat : Int)] 5)).drew
          have N1 := Lib.hid hn1
          have N2 := Lib.hid hn2
          have N0 := Lib.hid hown0
          have hsz1 : (34 :: escL a).length + 6 ≤ 10000000 := by simp; omega
          have N3 := Lib.hid hsz1
          clear hn1 hn2 hown0 hU hsz1
          go_region_law (refine step_append_lies _ rfl (.tmp 29) (.tmp 38) 61 rfl w.heap.size 5 i0 (.int .u8 0) 1 1 Tryd.underlying61 hi hz0 hz1 hz2 rfl (by decide) (.slice av (34 :: escL a).length cv) (34 :: escL a).length (Lib.byteCells (34 :: escL a)) (by simp [Act.eval]) N0.out ⟨wr.heap.size, 0, none⟩ 6 6 [Value.int .u8 92, .int .u8 117, .int .u8 48, .int .u8 48, .int .u8 ((hexd (n / 16)).toNat : Int), .int .u8 ((hexd (n % 16)).toNat : Int)] (by simp [Act.eval]) rfl N1.out N2.out (by decide) (by have := N3.out; unfold maxLen; omega) (by have := N3.out; omega) (by simp; omega) (wr.heap.size + 1) (by simp) ?_; intro g5 cap5 w5 hown' hgrow' _ _)
          all_goals
            have hfin := qxi_step (v := .slice av (34 :: escL a).length cv) HAB.out HBL.out hbw hbs (((Below.refl _ _).alloc (Nat.le_refl _) _).drew) (by simp; omega) hown' hgrow' HVK.out HES4.out HEL4.out
            have HF := Lib.hid hfin
            clear hfin hown' hgrow'
            go_wp2
            go_roundg g
            case measure => omega
            case rel => exact HF.out
        · have e1 : (lett n == 0) = true := by simpa using hlt0
          have e1' : (lett n != 0) = false := by simpa using hlt0
          have e2 : (cls n == 4) = false := by simpa using hc4
          have hes : Lib.runeCells n = Lib.byteCells (esc n) := by unfold esc; rw [if_neg (by simpa using hlt0), if_neg hc4, Lib.byteCells_encodeRune]
          have hel : (Lib.encodeRune n).length = (esc n).length := by unfold esc; rw [if_neg (by simpa using hlt0), if_neg hc4]
          have HES := Lib.hid hes
          have HEL := Lib.hid hel
          have hk := enc_len n
          clear hlt0 hc4 hes hel
          go_wp2_with (first
            | (go_at_call 45; (with_reducible refine (refLetter_any n _).mono ?_); rintro e w' ⟨rfl, rfl⟩)
            | (go_at_call 23; (with_reducible refine (refClass_any n _).mono ?_); rintro e w' ⟨rfl, rfl⟩)
            | (go_at_call 46; (with_reducible refine hB.mono ?_); rintro e w2 ⟨rfl, rfl⟩)
            | (at_builtin; refine wpList_append_own _ rfl _ _ 61 rfl w.heap.size 5 i0 (.int .u8 0) 1 1 Tryd.underlying61 hi hz0 hz1 hz2 rfl (by decide) _ _ _ rfl (World.ownsRow.alloc hU _) ⟨wr.heap.size, 0, none⟩ (Lib.encodeRune n).length (Lib.encodeRune n).length (Lib.runeCells n) rfl ?c0 ?c1 ?c2 ?c3 ?c4 ?c5 ?_))
          case c0 => rw [Lib.runeCells_length, Nat.mul_one]
          case c1 => exact new_cells (by simp [rowOf])
          case c2 =>
            intro u hu
            simp only [Lib.runeCells, List.mem_map] at hu
            obtain ⟨x, _, rfl⟩ := hu
            rfl
          case c3 => unfold maxLen; simp; omega
          case c4 => simp; omega
          case c5 => simp; omega
          intro v' w5 hown' hgrow' _
          have hfin := qxi_step (v := .slice av (34 :: escL a).length cv) HAB.out HBL.out hbw hbs ((Below.refl _ _).alloc (Nat.le_refl _) _) (by simp; omega) hown' hgrow' HVK.out HES.out HEL.out
          have HF := Lib.hid hfin
          clear hfin hown' hgrow' hU
          go_wp2
          go_roundg g
          case measure => omega
          case rel => exact HF.out
      · have e1 : (lett n == 0) = false := by simpa using hlt0
        have e1' : (lett n != 0) = true := by simpa using hlt0
        have hlr := lett_range n hlt0
        have hes : [Value.int .u8 92, .int .u8 (lett n)] = Lib.byteCells (esc n) := by
          unfold esc
          rw [if_pos hlt0]
          have : (((lett n).toNat.toUInt8).toNat : Int) = lett n := by rw [u8n _ hlr.1 (by omega)]; omega
          simp only [Lib.byteCells, List.map_cons, List.map_nil, this]
          rfl
        have hel : 2 = (esc n).length := by unfold esc; rw [if_pos hlt0]; rfl
        have HES := Lib.hid hes
        have HEL := Lib.hid hel
        clear hlt0 hes hel
        go_wp2_with (first
          | (go_at_call 45; (with_reducible refine (refLetter_any n _).mono ?_); rintro e w' ⟨rfl, rfl⟩)
          | (at_builtin; refine wpList_append_own _ rfl _ _ 61 rfl w.heap.size 5 i0 (.int .u8 0) 1 1 Tryd.underlying61 hi hz0 hz1 hz2 rfl (by decide) _ _ _ rfl (World.ownsRow.alloc hU _) ⟨wr.heap.size, 0, none⟩ 2 2 [.int .u8 92, .int .u8 (lett n)] rfl rfl ?y1 ?y2 ?y3 ?y4 ?y5 ?_))
        case y1 => exact new_cells rfl
        case y2 => intro u hu; simp at hu; rcases hu with rfl | rfl <;> rfl
        case y3 => unfold maxLen; simp; omega
        case y4 => simp; omega
        case y5 => simp; omega
        intro v' w5 hown' hgrow' _
        have hfin := qxi_step (v := .slice av (34 :: escL a).length cv) HAB.out HBL.out hbw hbs ((Below.refl _ _).alloc (Nat.le_refl _) _) (by simp; omega) hown' hgrow' HVK.out HES.out HEL.out
        have HF := Lib.hid hfin
        clear hfin hown' hgrow' hU
        go_wp2
        go_roundg g
        case measure => omega
        case rel => exact HF.out
end Go.Proofs.YtomgiicepjakcaaDoor
