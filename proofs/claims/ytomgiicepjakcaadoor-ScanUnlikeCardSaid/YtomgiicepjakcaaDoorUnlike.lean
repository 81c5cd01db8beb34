/-
  ScanUnlike, FOR ANY TWO BYTE STRINGS: unlike texts are quoted unlike, and what is quoted has no control in it: the law returns true, and its arguments read as before. The table 'escapes' starts as the program's text lays it (tied).
-/
import Derived.Test.YtomgiicepjakcaaDoorEsc
import Derived.Test.YtomgiicepjakcaaDoorMeth
import Derived.Test.YtomgiicepjakcaaDoorCards
import Derived.Test.YtomgiicepjakcaaDoorTie
namespace Go.Proofs.YtomgiicepjakcaaDoor
open Go.ChangeShapes Go.WideShapes Go.ChangeAt Go.RowKit
set_option linter.unusedVariables false

theorem ints_cellU {B : Nat} {w : World} {g cap n : Nat} {l : List Int} (h : Ints B w (.slice (some ⟨g, 0, none⟩) n cap) l) (j : Nat) (x : Int) (hx : l[j]? = some x) : w.cell? ⟨g, j, none⟩ = some (.int .i64 x) := by
  have := World.ownsRow.cells h (g := g) rfl j (.int .i64 x) (by simp [intRow, hx])
  by_cases hj : j = 0
  · subst hj; simpa [Addr.add] using this
  · simpa [Addr.add, hj] using this
def LI (w : World) (v : Value) (l : List Int) (g : Nat) (i : Value) (wr : World) : Prop := ∃ k : Nat, k + g = l.length ∧ i = .int .i64 k ∧ Ints w.heap.size wr v l ∧ Below w.heap.size w wr

set_option maxHeartbeats 8000000 in
set_option maxRecDepth 100000 in
theorem unlike_walk (a : ByteArray) (_ha : a.size ≤ maxLen) (b : ByteArray) (_hb : b.size ≤ maxLen) (w : World) (t : TypeId) (fr : Nat × Nat) (htab : w.heap[0]? = some (.cells escCells t fr)) :
    Calls Tryd.prog 10 #[.string a, .string b] w fun e w' => e = .returned (.bool true) ∧ Below w.heap.size w w' := by
  have cA := ever_awake htab
  have hb0 : Below w.heap.size w w := Below.refl _ _
  by_cases hlen : 300 < a.size ∨ 300 < b.size
  · clear htab
    go_enter Tryd.func10, Tryd.ntmps10
    go_wp2_with (go_at_call 13; (with_reducible refine (cA.at (by assumption)).mono ?_); rintro e w1 ⟨rfl, hb1⟩)
    all_goals (first | (go_ret; exact ⟨rfl, by assumption⟩) | (exfalso; omega))
  · have h1 : a.size ≤ 300 := by omega
    have h2 : b.size ≤ 300 := by omega
    clear hlen
    obtain ⟨la, ra, hpa⟩ := parts_of a.data.toList
    obtain ⟨lb, rb, hpb⟩ := parts_of b.data.toList
    have sA : ∀ W, Calls Tryd.prog 14 #[.string a] W (SignsPost W la (decide (ra = []))) := fun W => signs_any a la ra hpa (by omega) W
    have sB : ∀ W, Calls Tryd.prog 14 #[.string b] W (SignsPost W lb (decide (rb = []))) := fun W => signs_any b lb rb hpb (by omega) W
    by_cases hr : ra = [] ∧ rb = []
    · obtain ⟨rfl, rfl⟩ := hr
      have hl1 : la.length ≤ 300 := by have := hpa.size; have := encL_len la; omega
      have hl2 : lb.length ≤ 300 := by have := hpb.size; have := encL_len lb; omega
      have cQa := ever_quote htab hpa (by omega)
      have cQb := ever_quote htab hpb (by omega)
      have p1 := quoteL_len la
      rw [← quo_size] at p1
      have sQ : ∀ W, Calls Tryd.prog 14 #[.string (quo la)] W (SignsPost W (quoS la) true) := fun W => signs_any (quo la) (quoS la) [] (quoS_parts la hpa.all) (by omega) W
      have hqok := quoS_ok la hpa.all
      have hql : (quoS la).length ≤ 6000 := by have := (quoS_parts la hpa.all).size; have := encL_len (quoS la); omega
      have hab : a = b ↔ quo la = quo lb := by
        constructor
        · intro e
          subst e
          rw [(hpa.one hpb).1]
        · intro e
          rw [hpa.text, hpb.text, quo_one la lb hpa.all hpb.all e]
      obtain ⟨p, hp⟩ : ∃ p, p = quo la := ⟨_, rfl⟩
      obtain ⟨q, hq⟩ : ∃ q, q = quo lb := ⟨_, rfl⟩
      obtain ⟨ls, hls⟩ : ∃ ls, ls = quoS la := ⟨_, rfl⟩
      rw [← hp, ← hq] at hab
      rw [← hp] at cQa sQ
      rw [← hq] at cQb
      rw [← hls] at sQ hqok hql
      have HOK := Lib.hid hqok
      have HAB := Lib.hid hab
      clear hp hq hls hpa hpb htab p1 hqok hab
      go_enter Tryd.func10, Tryd.ntmps10
      go_wp2_with (first
        | (go_at_call 13; (with_reducible refine (cA.at (by assumption)).mono ?_); rintro e w1 ⟨rfl, hb1⟩)
        | (go_at_call 14; (with_reducible refine (sA _).mono ?_); rintro e w2 ⟨v2, rfl, hI2, hb2⟩; have hb3 := hb1.trans (hb2.mono hb1.size); clear hI2 hb2)
        | (go_at_call 14; (with_reducible refine (sB _).mono ?_); rintro e w4 ⟨v4, rfl, hI4, hb4⟩; have hb5 := hb3.trans (hb4.mono hb3.size); clear hI4 hb4)
        | (go_at_call 26; (with_reducible refine (cQa.at (by assumption)).mono ?_); rintro e w6 ⟨rfl, hb6⟩)
        | (go_at_call 14; (with_reducible refine (sQ _).mono ?_); rintro e w7 ⟨vI, rfl, hI7, hb7⟩; obtain ⟨aoI, capI, rfl⟩ := ints_shape hI7; have hb8 := hb6.trans (hb7.mono hb6.size); have hI8 := ints_mono hI7 hb6.size; clear hI7 hb7))
      go_loopg [50] ls.length (fun g i wr => LI w (.slice aoI ls.length capI) ls g i wr)
      case atStart => exact ⟨0, by omega, rfl, hI8, hb8⟩
      case round =>
        clear hI8 hb8 hb6 hb5 hb3 hb1 hb0
        obtain ⟨k, hkg, rfl, hI, hbr⟩ := hrel
        cases gk with
        | zero =>
          have hk : k = ls.length := by omega
          subst hk
          clear hI
          by_cases hab : a = b
          · have hpq := HAB.out.1 hab
            subst hab
            subst hpq
            go_wp2_with (first
              | (go_at_call 26; (with_reducible refine (cQa.at (by assumption)).mono ?_); rintro e x1 ⟨rfl, hx1⟩))
            go_ret
            exact ⟨ret_bool (by first | rfl | simp), by assumption⟩
          · have hpq : ¬ p = q := fun e => hab (HAB.out.2 e)
            have e1 : (p.toList == q.toList) = false := by
              rw [beq_eq_false_iff_ne, Lib.toList_data, Lib.toList_data]
              exact fun e => hpq (bytes_ext e)
            have e2 : (a.toList == b.toList) = false := by
              rw [beq_eq_false_iff_ne, Lib.toList_data, Lib.toList_data]
              exact fun e => hab (bytes_ext e)
            go_wp2_with (first
              | (go_at_call 26; (with_reducible refine (cQa.at (by assumption)).mono ?_); rintro e x1 ⟨rfl, hx1⟩)
              | (go_at_call 26; (with_reducible refine (cQb.at (by assumption)).mono ?_); rintro e x2 ⟨rfl, hx2⟩))
            go_ret
            exact ⟨ret_bool (by first | rfl | (rw [e1, e2]; rfl) | simp), by assumption⟩
        | succ g =>
          have hk : k < ls.length := by omega
          obtain ⟨n, hn⟩ : ∃ n, ls[k]? = some n := ⟨_, List.getElem?_eq_getElem hk⟩
          obtain ⟨_, o4, o9, o10, o13⟩ := HOK.out n (List.mem_of_getElem? hn)
          rcases hI.2 with ⟨_, hl0⟩ | ⟨gI, cI, cur, hv, _, _, hcI, _⟩
          · omega
          simp only [Value.slice.injEq] at hv
          obtain ⟨rfl, _, rfl⟩ := hv
          have hcell := ints_cellU hI k n hn
          have hk2 : (k : Int) < (ls.length : Int) := by omega
          have f4 : (cls n == 4) = false := by simpa using o4
          have f9 : (n == 9) = false := by simpa using o9
          have f10 : (n == 10) = false := by simpa using o10
          have f13 : (n == 13) = false := by simpa using o13
          have HI := Lib.hid hI
          clear hn o4 o9 o10 o13 hI
          go_wp2_with (go_at_call 23; (with_reducible refine (refClass_any n _).mono ?_); rintro e w' ⟨rfl, rfl⟩)
          go_roundg g
          case measure => omega
          case rel => exact ⟨k + 1, by omega, by go_num, HI.out, hbr⟩
    · by_cases hra : ra = []
      · have hrb : ¬ rb = [] := fun h => hr ⟨hra, h⟩
        rw [decide_eq_true hra] at sA
        rw [decide_eq_false hrb] at sB
        clear hr hra hrb hpa hpb htab
        go_enter Tryd.func10, Tryd.ntmps10
        go_wp2_with (first
          | (go_at_call 13; (with_reducible refine (cA.at (by assumption)).mono ?_); rintro e w1 ⟨rfl, hb1⟩)
          | (go_at_call 14; (with_reducible refine (sA _).mono ?_); rintro e w2 ⟨v2, rfl, hI2, hb2⟩; have hb3 := hb1.trans (hb2.mono hb1.size); clear hI2 hb2)
          | (go_at_call 14; (with_reducible refine (sB _).mono ?_); rintro e w4 ⟨v4, rfl, hI4, hb4⟩; have hb5 := hb3.trans (hb4.mono hb3.size); clear hI4 hb4))
        all_goals (go_ret; exact ⟨rfl, by assumption⟩)
      · rw [decide_eq_false hra] at sA
        cases hd : decide (rb = []) <;> rw [hd] at sB
        all_goals
          clear hr hra hd hpa hpb htab
          go_enter Tryd.func10, Tryd.ntmps10
          go_wp2_with (first
            | (go_at_call 13; (with_reducible refine (cA.at (by assumption)).mono ?_); rintro e w1 ⟨rfl, hb1⟩)
            | (go_at_call 14; (with_reducible refine (sA _).mono ?_); rintro e w2 ⟨v2, rfl, hI2, hb2⟩; have hb3 := hb1.trans (hb2.mono hb1.size); clear hI2 hb2)
            | (go_at_call 14; (with_reducible refine (sB _).mono ?_); rintro e w4 ⟨v4, rfl, hI4, hb4⟩; have hb5 := hb3.trans (hb4.mono hb3.size); clear hI4 hb4))
          all_goals (go_ret; exact ⟨rfl, by assumption⟩)

namespace ScanUnlikeF
theorem contract (H : Type) (enc : TypeId × Value → H) (W : World) (base : Nat) (args : Array Value) (ds gs : List (DataW H)) (before : List MemPlace)
    (hval : ∀ (j : Nat) t v, Tryd.f10.params[j]? = some t → args[j]? = some v → Value.okWide Tryd.prog W .any base t v)
    (hW : DataW.Whole enc Tryd.prog Tryd.f10.params.toList Rows.scanUnlikeSpec.vars false W args.toList ds gs before) (hL : laidMetH Tryd.prog Rows.scanUnlikeRow.laid W) :
    Calls Tryd.prog 10 args W fun e W' => ∃ v, e = .returned v ∧ Rows.scanUnlikeSpec.post enc Tryd.prog Tryd.f10 false true false false W args v W' := by
  have hW' := hW
  obtain ⟨p, q, hA0, hV, rfl, hfz, hnd⟩ := hW
  have hA : DataW.TrodAll enc Tryd.prog W 0 (fun _ => true) true Tryd.f10.params.toList args.toList ds p := hA0
  rw [Tryd.params10] at hA hval
  obtain ⟨v0, vs0, d0, ds0, p0, q0, hargs, rfl, rfl, h0, r0⟩ := trodAll_cons hA
  obtain ⟨v1, vs1, d1, ds1, p1, q1, rfl, rfl, rfl, h1, r1⟩ := trodAll_cons r0
  obtain ⟨rfl, rfl, rfl⟩ := trodAll_nil r1
  obtain rfl : args = #[v0, v1] := by cases args; simp_all
  obtain ⟨rfl, rfl⟩ := trodVars_none hV
  obtain ⟨x0, rfl, rfl, rfl, w0⟩ := Go.ChangeMaps.open_string Tryd.underlying9 (hval 0 9 v0 rfl rfl) h0
  obtain ⟨x1, rfl, rfl, rfl, w1⟩ := Go.ChangeMaps.open_string Tryd.underlying9 (hval 1 9 v1 rfl rfl) h1
  clear hA0
  simp only [List.append_nil] at hW'
  obtain ⟨t, fr, htab⟩ := table hL
  refine (unlike_walk x0 w0 x1 w1 W t fr htab).mono fun e W' ⟨he, hb⟩ => ?_
  subst he
  exact ⟨_, rfl, _, _, _, [], [], [], hW', trodAll_mk1 (shut_bool Tryd.underlying4 _), trodAll_cons_mk (Go.ChangeMaps.shut_string Tryd.underlying9 w0) (trodAll_cons_mk (Go.ChangeMaps.shut_string Tryd.underlying9 w1) (trodAll_mk0)), rfl, hb.frame _, fun h => by cases h⟩

noncomputable def laidWorld (os : Os) : World :=
  { World.holding Tryd.prog os ⟨#[], #[], []⟩ with heap := (World.holding Tryd.prog os ⟨#[], #[], []⟩).heap.modify 0 fun
      | .cells _ t frozen => .cells escCells t frozen
      | o => o }
theorem laid_met (os : Os) : laidMet Tryd.prog Rows.scanUnlikeRow.laid ((laidWorld os).forCall (fun _ _ => 0) ⟨#[], #[.string ⟨#[]⟩, .string ⟨#[]⟩], []⟩).memory :=
  laidMet_of_run' 8 (by kernel_rfl) (by kernel_rfl)
theorem reads (os : Os) {H : Type} (enc : TypeId × Value → H) : ∃ places, DataW.whole enc Tryd.prog ((laidWorld os).forCall (fun _ _ => 0) ⟨#[], #[.string ⟨#[]⟩, .string ⟨#[]⟩], []⟩).memory Tryd.f10.params.toList Rows.scanUnlikeSpec.vars false (#[.string ⟨#[]⟩, .string ⟨#[]⟩] : Array Value).toList 8 = some ([.lit (.string []), .lit (.string [])], [], places) :=
  ⟨[], by kernel_rfl⟩

set_option maxRecDepth 100000 in
theorem lifted (os : Os) (started : os.Started) (H : Type) (enc : TypeId × Value → H) (F : Stop.Interp) :
    ReturnsInHanded {} Tryd.checked os 10 .any ((OpenSpec.ofChange Rows.scanUnlikeSpec).preRow enc Tryd.prog Tryd.f10 Rows.scanUnlikeRow.domain false Rows.scanUnlikeRow.laid) (((OpenSpec.ofChange Rows.scanUnlikeSpec).at F).post enc Tryd.prog Tryd.f10 false true false false) := by
  obtain ⟨places, hx⟩ := reads os enc
  refine returnsInHanded_of_row (C := Tryd.checked) (s := OpenSpec.ofChange Rows.scanUnlikeSpec) own started (by kernel_rfl) Tryd.func10
    (witness_row_at (enc := enc) (C := Tryd.checked) false (laidWorld os) #[.string ⟨#[]⟩, .string ⟨#[]⟩] rfl (by kernel_rfl) (by kernel_rfl) (by kernel_rfl)
      (OpenSpec.preRow_of_cond 8 hx (by kernel_rfl) (fun k hk => by cases hk) (by kernel_rfl) (laid_met os))) ?_
  intro W base args ds gs before hval hW _ _ _ hL _ _
  exact contract H enc W base args ds gs before hval hW hL

theorem said : Rows.ScanUnlikeSaid :=
  OpenClaim.holds_of_cond 10 Tryd.f10 rfl rfl rfl rfl rfl rfl rfl ⟨rfl, rfl, rfl, rfl, rfl⟩ rfl rfl rfl rfl rfl (by kernel_rfl) Tryd.func10 (by kernel_rfl)
    (of_decide_eq_true (by kernel_rfl)) (by unfold Func.isWrapper; first | (rw [if_pos (by decide +kernel)]; kernel_rfl) | (rw [if_neg (by decide +kernel)]; exact ⟨rfl, rfl⟩))
    (fun os started H enc _ F => by rw [OpenClaim.pre_eq_preRow]; exact lifted os started H enc F)

theorem plain (f : FuncId) (fn : Func) (hf : Tryd.pinned.checked.prog.funcNamed "beck/becklaw01.ScanUnlike" = some f) (hfn : Tryd.pinned.checked.prog.funcs[f]? = some fn) :
    false = Tryd.pinned.checked.prog.looks [] ∧ ∀ (j : Nat) t, fn.params[j]? = some t → Tryd.pinned.checked.prog.wantsStandIn t = false := by
  obtain rfl : f = 10 := Option.some.inj ((show Tryd.prog.funcNamed "beck/becklaw01.ScanUnlike" = some 10 by kernel_rfl).symm.trans hf) |>.symm
  obtain rfl : fn = Tryd.f10 := (Option.some.inj (Tryd.func10.symm.trans hfn)).symm
  refine ⟨by kernel_rfl, fun j t ht => ?_⟩
  rw [Tryd.params10] at ht
  have hm : t ∈ [9, 9] := by simpa using Array.mem_of_getElem? ht
  have hall : ([9, 9].all fun u => !Tryd.prog.wantsStandIn u) = true := by kernel_rfl
  exact (show Tryd.prog.wantsStandIn t = false by simpa using List.all_eq_true.1 hall t hm)
end ScanUnlikeF
theorem scanUnlike_card : Rows.ScanUnlikeCardSaid :=
  Claim7.holds_tied_plain_at .later [] _ _ _ _ ScanUnlikeF.said (fun _ h => by cases h) (by kernel_rfl) (fun _ h => by cases h) scanUnlike_row_tie rfl ⟨rfl, rfl⟩ (by kernel_rfl) rfl ScanUnlikeF.plain (by kernel_rfl)

end Go.Proofs.YtomgiicepjakcaaDoor
