/-
  MERGED (a claim has at most 60 files): VNumb, VStr.
-/
import Derived.Test.YtcllamipcgbfiaaDoorZ23
import Derived.Lib.OthersKept
import Derived.Lib.DecodeN
import Derived.Lib.Strings
import Derived.Test.YtcllamipcgbfiaaDoorZ04
import Derived.Lib.SmallJoins
import Derived.Lib.ItoaLen
import Derived.Lib.AppendIntMem
/-
  'isNumber': whether a text is one of an integer; and the laws' words of bytes.
-/
namespace Go.Proofs.YtcllamipcgbfiaaDoor
open Go.RowKit
set_option linter.unusedVariables false

theorem decN_high (n b0 b1 b2 b3 : Nat) (h : 128 ≤ b0) : 128 ≤ (Lib.decodeN n b0 b1 b2 b3).1 := by
  unfold Lib.decodeN
  repeat' split
  all_goals first | omega | (simp only; omega)
theorem dec_high (s : ByteArray) (i : Nat) (h : 128 ≤ (s.get! i).toNat) : 128 ≤ (Utf8.decode s i).1 := by
  rw [Lib.decode_at]
  exact decN_high _ _ _ _ _ h
def NbI (w : World) (t : ByteArray) (g : Nat) (wr : World) : Prop :=
  ∃ k, k + g = t.size ∧ (t.data.toList.take k).all isD = true ∧ wr.heap[w.heap.size]? = some (.stringIter t k) ∧ Below w.heap.size w wr
theorem body_cons (c : UInt8) (r : List UInt8) : body (c :: r) = if c.toNat = 43 ∨ c.toNat = 45 then r else c :: r := rfl
theorem ret_b' {a b : Bool} (h : a = b) : Ending.returned (.bool a) = .returned (.bool b) := by rw [h]
theorem get_bang (t : ByteArray) (k : Nat) (h : k < t.size) : t.get! k = t[k]'h := by
  simp [ByteArray.get!, ByteArray.getElem_eq_getElem_data, h]
theorem str_ne (t : ByteArray) : (!t.toList.isEmpty) = !t.data.toList.isEmpty := by rw [ByteArray.toList_eq]
set_option maxHeartbeats 8000000 in
theorem isnumber_any (s : ByteArray) (hs : s.size ≤ 1000000) (w : World) : Calls Tryd.prog 105 #[.string s] w fun e w' => e = .returned (.bool (isNum s.data.toList)) ∧ Below w.heap.size w w' := by
  have hsz : s.size = s.data.toList.length := Lib.size_eq s
  cases hl : s.data.toList with
  | nil =>
    have hse : (!s.toList.isEmpty) = false := by rw [ByteArray.toList_eq, hl]; rfl
    have hse2 : s.toList = [] := by rw [ByteArray.toList_eq, hl]
    have HT : Hid (s.data.toList = body s.data.toList) := Lib.hid (by rw [hl]; rfl)
    rw [← hl]
    clear hsz hl
    go_enter Tryd.func105, Tryd.ntmps105
    go_wp2
    clear hse hse2
    go_loopg [] s.size (fun g wr => NbI w s g wr)
    case atStart => exact ⟨0, by omega, by simp, World.iter_heap _ _ _, (Below.refl _ _).alloc (Nat.le_refl _) _⟩
    case round =>
      obtain ⟨k, hkg, hall, hit, hbw⟩ := hrel
      have HALL := Lib.hid hall
      have HBW := Lib.hid hbw
      have hbs := hbw.size
      clear hall hbw
      cases gk with
      | zero =>
        have hnext := fun ty => Lib.run_next_end_at (P := Tryd.prog) wr w.heap.size s k ty hit (by omega)
        have hres : isNum s.data.toList = !s.data.toList.isEmpty := by
          unfold isNum
          rw [← HT.out]
          have h1 := HALL.out
          rw [List.take_of_length_le (by rw [← Lib.size_eq]; omega)] at h1
          rw [h1, Bool.and_true]
        have HR := Lib.hid hres
        clear hres hit
        go_wp2
        go_ret
        exact ⟨ret_b' (by rw [HR.out]; exact (str_ne s)), HBW.out⟩
      | succ g =>
        have hk : k < s.size := by omega
        obtain ⟨c, hc⟩ : ∃ c, s.data.toList[k]? = some c := ⟨_, List.getElem?_eq_getElem (by rw [← Lib.size_eq]; exact hk)⟩
        have hcg : s[k]'hk = c := by
          have := (List.getElem?_eq_some_iff.1 hc).2
          rw [← this]; rfl
        by_cases hd : isD c = true
        · have hcd : 48 ≤ c.toNat ∧ c.toNat ≤ 57 := of_decide_eq_true hd
          have hnext := fun ty => Lib.run_next_ascii_at (P := Tryd.prog) wr w.heap.size s k ty hit hk (by rw [hcg]; omega)
          rw [hcg] at hnext
          obtain ⟨W, hW⟩ : ∃ W, W = wr.iterAt w.heap.size s (k + 1) := ⟨_, rfl⟩
          rw [← hW] at hnext
          have hfin : NbI w s g W := by
            refine ⟨k + 1, by omega, ?_, by rw [hW]; exact Lib.iterAt_heap _ _ _ _ _ hit, by rw [hW]; exact Lib.below_iterAt HBW.out (by omega) _ _⟩
            rw [List.take_add_one, hc, List.all_append, HALL.out]
            simp [hd]
          have HF := Lib.hid hfin
          obtain ⟨x, hx⟩ : ∃ x : Int, x = (c.toNat : Int) := ⟨_, rfl⟩
          rw [← hx] at hnext
          have hx1 : ¬ x < 48 := by omega
          have hx2 : ¬ 57 < x := by omega
          clear hfin hd hcd hcg hc hit hW hx HALL hkg
          go_wp2
          go_roundg g
          case measure => omega
          case rel => exact HF.out
        · have hres : isNum s.data.toList = false := by
            unfold isNum
            rw [← HT.out, Bool.and_eq_false_iff]
            right
            rw [List.all_eq_false]
            exact ⟨c, List.mem_of_getElem? hc, hd⟩
          have HR := Lib.hid hres
          have hcn : ¬ (48 ≤ c.toNat ∧ c.toNat ≤ 57) := fun h => hd (decide_eq_true h)
          obtain ⟨x, W, hnext, hx, hbW⟩ : ∃ (x : Int) (W : World), (∀ ty, (Instr.next (.pointer (some ⟨w.heap.size, 0, none⟩)) true ty).run Tryd.prog wr = .ok (.tuple #[.bool true, .int .i64 k, .int .i32 x]) W) ∧ (x < 48 ∨ 57 < x) ∧ Below w.heap.size w W := by
            by_cases h8 : c.toNat < 128
            · have hnext := fun ty => Lib.run_next_ascii_at (P := Tryd.prog) wr w.heap.size s k ty hit hk (by rw [hcg]; omega)
              rw [hcg] at hnext
              exact ⟨_, _, hnext, by omega, Lib.below_iterAt HBW.out (by omega) _ _⟩
            · have hnext := fun ty => Lib.run_next_any_at (P := Tryd.prog) wr w.heap.size s k ty hit hk
              have hhi := dec_high s k (by rw [show s.get! k = c by rw [← hcg]; exact get_bang s k hk]; omega)
              exact ⟨_, _, hnext, by omega, Lib.below_iterAt HBW.out (by omega) _ _⟩
          have HBW2 := Lib.hid hbW
          clear hres hd hcn hcg hc hit hbW HALL hkg
          rcases hx with hx | hx
          · go_wp2
            go_ret
            exact ⟨ret_b' HR.out.symm, HBW2.out⟩
          · have hx2 : ¬ x < 48 := by omega
            go_wp2
            go_ret
            exact ⟨ret_b' HR.out.symm, HBW2.out⟩
  | cons c r =>
    have h0 : 0 < s.size := by rw [hsz, hl]; simp
    have hse : (!s.toList.isEmpty) = true := by rw [ByteArray.toList_eq, hl]; rfl
    have hse2 : ¬ s.toList = [] := by rw [ByteArray.toList_eq, hl]; simp
    have hc0 : s[0]'h0 = c := by
      have : s.data.toList[0]? = some c := by rw [hl]; rfl
      exact (List.getElem?_eq_some_iff.1 this).2
    obtain ⟨x, hx⟩ : ∃ x : Int, x = (c.toNat : Int) := ⟨_, rfl⟩
    have hcx : ((s[0]'h0).toNat : Int) = x := by rw [hc0, hx]
    have hsg : (x = 43 ∨ x = 45) → (s.extract 1 s.size).data.toList = body s.data.toList := by
      intro h
      rw [Lib.extract_data, hl, body_cons, if_pos (by omega)]
      simp [hsz, hl]
    have hns : ¬ (x = 43 ∨ x = 45) → s.data.toList = body s.data.toList := by
      intro h
      rw [hl, body_cons, if_neg (by omega)]
    rw [← hl]
    by_cases h43 : x = 43
    · have g1 : (x == 43) = true := by simpa using h43
      have HT := Lib.hid (hsg (.inl h43))
      clear hl hsz hc0 hx h43 hsg hns
      go_enter Tryd.func105, Tryd.ntmps105
      go_wp2
      obtain ⟨t, ht⟩ : ∃ t, t = s.extract 1 s.size := ⟨_, rfl⟩
      rw [← ht] at HT ⊢
      clear ht
      go_loopg [] t.size (fun g wr => NbI w t g wr)
      case atStart => exact ⟨0, by omega, by simp, World.iter_heap _ _ _, (Below.refl _ _).alloc (Nat.le_refl _) _⟩
      case round =>
        obtain ⟨k, hkg, hall, hit, hbw⟩ := hrel
        have HALL := Lib.hid hall
        have HBW := Lib.hid hbw
        have hbs := hbw.size
        clear hall hbw
        cases gk with
        | zero =>
          have hnext := fun ty => Lib.run_next_end_at (P := Tryd.prog) wr w.heap.size t k ty hit (by omega)
          have hres : isNum s.data.toList = !t.data.toList.isEmpty := by
            unfold isNum
            rw [← HT.out]
            have h1 := HALL.out
            rw [List.take_of_length_le (by rw [← Lib.size_eq]; omega)] at h1
            rw [h1, Bool.and_true]
          have HR := Lib.hid hres
          clear hres hit
          go_wp2
          go_ret
          exact ⟨ret_b' (by rw [HR.out]; exact (str_ne t)), HBW.out⟩
        | succ g =>
          have hk : k < t.size := by omega
          obtain ⟨c, hc⟩ : ∃ c, t.data.toList[k]? = some c := ⟨_, List.getElem?_eq_getElem (by rw [← Lib.size_eq]; exact hk)⟩
          have hcg : t[k]'hk = c := by
            have := (List.getElem?_eq_some_iff.1 hc).2
            rw [← this]; rfl
          by_cases hd : isD c = true
          · have hcd : 48 ≤ c.toNat ∧ c.toNat ≤ 57 := of_decide_eq_true hd
            have hnext := fun ty => Lib.run_next_ascii_at (P := Tryd.prog) wr w.heap.size t k ty hit hk (by rw [hcg]; omega)
            rw [hcg] at hnext
            obtain ⟨W, hW⟩ : ∃ W, W = wr.iterAt w.heap.size t (k + 1) := ⟨_, rfl⟩
            rw [← hW] at hnext
            have hfin : NbI w t g W := by
              refine ⟨k + 1, by omega, ?_, by rw [hW]; exact Lib.iterAt_heap _ _ _ _ _ hit, by rw [hW]; exact Lib.below_iterAt HBW.out (by omega) _ _⟩
              rw [List.take_add_one, hc, List.all_append, HALL.out]
              simp [hd]
            have HF := Lib.hid hfin
            obtain ⟨x, hx⟩ : ∃ x : Int, x = (c.toNat : Int) := ⟨_, rfl⟩
            rw [← hx] at hnext
            have hx1 : ¬ x < 48 := by omega
            have hx2 : ¬ 57 < x := by omega
            clear hfin hd hcd hcg hc hit hW hx HALL hkg
            go_wp2
            go_roundg g
            case measure => omega
            case rel => exact HF.out
          · have hres : isNum s.data.toList = false := by
              unfold isNum
              rw [← HT.out, Bool.and_eq_false_iff]
              right
              rw [List.all_eq_false]
              exact ⟨c, List.mem_of_getElem? hc, hd⟩
            have HR := Lib.hid hres
            have hcn : ¬ (48 ≤ c.toNat ∧ c.toNat ≤ 57) := fun h => hd (decide_eq_true h)
            obtain ⟨x, W, hnext, hx, hbW⟩ : ∃ (x : Int) (W : World), (∀ ty, (Instr.next (.pointer (some ⟨w.heap.size, 0, none⟩)) true ty).run Tryd.prog wr = .ok (.tuple #[.bool true, .int .i64 k, .int .i32 x]) W) ∧ (x < 48 ∨ 57 < x) ∧ Below w.heap.size w W := by
              by_cases h8 : c.toNat < 128
              · have hnext := fun ty => Lib.run_next_ascii_at (P := Tryd.prog) wr w.heap.size t k ty hit hk (by rw [hcg]; omega)
                rw [hcg] at hnext
                exact ⟨_, _, hnext, by omega, Lib.below_iterAt HBW.out (by omega) _ _⟩
              · have hnext := fun ty => Lib.run_next_any_at (P := Tryd.prog) wr w.heap.size t k ty hit hk
                have hhi := dec_high t k (by rw [show t.get! k = c by rw [← hcg]; exact get_bang t k hk]; omega)
                exact ⟨_, _, hnext, by omega, Lib.below_iterAt HBW.out (by omega) _ _⟩
            have HBW2 := Lib.hid hbW
            clear hres hd hcn hcg hc hit hbW HALL hkg
            rcases hx with hx | hx
            · go_wp2
              go_ret
              exact ⟨ret_b' HR.out.symm, HBW2.out⟩
            · have hx2 : ¬ x < 48 := by omega
              go_wp2
              go_ret
              exact ⟨ret_b' HR.out.symm, HBW2.out⟩
    · have g1 : (x == 43) = false := by simpa using h43
      by_cases h45 : x = 45
      · have g2 : (x == 45) = true := by simpa using h45
        have HT := Lib.hid (hsg (.inr h45))
        clear hl hsz hc0 hx h43 h45 hsg hns
        go_enter Tryd.func105, Tryd.ntmps105
        go_wp2
        obtain ⟨t, ht⟩ : ∃ t, t = s.extract 1 s.size := ⟨_, rfl⟩
        rw [← ht] at HT ⊢
        clear ht
        go_loopg [] t.size (fun g wr => NbI w t g wr)
        case atStart => exact ⟨0, by omega, by simp, World.iter_heap _ _ _, (Below.refl _ _).alloc (Nat.le_refl _) _⟩
        case round =>
          obtain ⟨k, hkg, hall, hit, hbw⟩ := hrel
          have HALL := Lib.hid hall
          have HBW := Lib.hid hbw
          have hbs := hbw.size
          clear hall hbw
          cases gk with
          | zero =>
            have hnext := fun ty => Lib.run_next_end_at (P := Tryd.prog) wr w.heap.size t k ty hit (by omega)
            have hres : isNum s.data.toList = !t.data.toList.isEmpty := by
              unfold isNum
              rw [← HT.out]
              have h1 := HALL.out
              rw [List.take_of_length_le (by rw [← Lib.size_eq]; omega)] at h1
              rw [h1, Bool.and_true]
            have HR := Lib.hid hres
            clear hres hit
            go_wp2
            go_ret
            exact ⟨ret_b' (by rw [HR.out]; exact (str_ne t)), HBW.out⟩
          | succ g =>
            have hk : k < t.size := by omega
            obtain ⟨c, hc⟩ : ∃ c, t.data.toList[k]? = some c := ⟨_, List.getElem?_eq_getElem (by rw [← Lib.size_eq]; exact hk)⟩
            have hcg : t[k]'hk = c := by
              have := (List.getElem?_eq_some_iff.1 hc).2
              rw [← this]; rfl
            by_cases hd : isD c = true
            · have hcd : 48 ≤ c.toNat ∧ c.toNat ≤ 57 := of_decide_eq_true hd
              have hnext := fun ty => Lib.run_next_ascii_at (P := Tryd.prog) wr w.heap.size t k ty hit hk (by rw [hcg]; omega)
              rw [hcg] at hnext
              obtain ⟨W, hW⟩ : ∃ W, W = wr.iterAt w.heap.size t (k + 1) := ⟨_, rfl⟩
              rw [← hW] at hnext
              have hfin : NbI w t g W := by
                refine ⟨k + 1, by omega, ?_, by rw [hW]; exact Lib.iterAt_heap _ _ _ _ _ hit, by rw [hW]; exact Lib.below_iterAt HBW.out (by omega) _ _⟩
                rw [List.take_add_one, hc, List.all_append, HALL.out]
                simp [hd]
              have HF := Lib.hid hfin
              obtain ⟨x, hx⟩ : ∃ x : Int, x = (c.toNat : Int) := ⟨_, rfl⟩
              rw [← hx] at hnext
              have hx1 : ¬ x < 48 := by omega
              have hx2 : ¬ 57 < x := by omega
              clear hfin hd hcd hcg hc hit hW hx HALL hkg
              go_wp2
              go_roundg g
              case measure => omega
              case rel => exact HF.out
            · have hres : isNum s.data.toList = false := by
                unfold isNum
                rw [← HT.out, Bool.and_eq_false_iff]
                right
                rw [List.all_eq_false]
                exact ⟨c, List.mem_of_getElem? hc, hd⟩
              have HR := Lib.hid hres
              have hcn : ¬ (48 ≤ c.toNat ∧ c.toNat ≤ 57) := fun h => hd (decide_eq_true h)
              obtain ⟨x, W, hnext, hx, hbW⟩ : ∃ (x : Int) (W : World), (∀ ty, (Instr.next (.pointer (some ⟨w.heap.size, 0, none⟩)) true ty).run Tryd.prog wr = .ok (.tuple #[.bool true, .int .i64 k, .int .i32 x]) W) ∧ (x < 48 ∨ 57 < x) ∧ Below w.heap.size w W := by
                by_cases h8 : c.toNat < 128
                · have hnext := fun ty => Lib.run_next_ascii_at (P := Tryd.prog) wr w.heap.size t k ty hit hk (by rw [hcg]; omega)
                  rw [hcg] at hnext
                  exact ⟨_, _, hnext, by omega, Lib.below_iterAt HBW.out (by omega) _ _⟩
                · have hnext := fun ty => Lib.run_next_any_at (P := Tryd.prog) wr w.heap.size t k ty hit hk
                  have hhi := dec_high t k (by rw [show t.get! k = c by rw [← hcg]; exact get_bang t k hk]; omega)
                  exact ⟨_, _, hnext, by omega, Lib.below_iterAt HBW.out (by omega) _ _⟩
              have HBW2 := Lib.hid hbW
              clear hres hd hcn hcg hc hit hbW HALL hkg
              rcases hx with hx | hx
              · go_wp2
                go_ret
                exact ⟨ret_b' HR.out.symm, HBW2.out⟩
              · have hx2 : ¬ x < 48 := by omega
                go_wp2
                go_ret
                exact ⟨ret_b' HR.out.symm, HBW2.out⟩
      · have g2 : (x == 45) = false := by simpa using h45
        have HT := Lib.hid (hns (by omega))
        clear hl hsz hc0 hx h43 h45 hsg hns
        go_enter Tryd.func105, Tryd.ntmps105
        go_wp2
        clear hse hse2
        go_loopg [] s.size (fun g wr => NbI w s g wr)
        case atStart => exact ⟨0, by omega, by simp, World.iter_heap _ _ _, (Below.refl _ _).alloc (Nat.le_refl _) _⟩
        case round =>
          obtain ⟨k, hkg, hall, hit, hbw⟩ := hrel
          have HALL := Lib.hid hall
          have HBW := Lib.hid hbw
          have hbs := hbw.size
          clear hall hbw
          cases gk with
          | zero =>
            have hnext := fun ty => Lib.run_next_end_at (P := Tryd.prog) wr w.heap.size s k ty hit (by omega)
            have hres : isNum s.data.toList = !s.data.toList.isEmpty := by
              unfold isNum
              rw [← HT.out]
              have h1 := HALL.out
              rw [List.take_of_length_le (by rw [← Lib.size_eq]; omega)] at h1
              rw [h1, Bool.and_true]
            have HR := Lib.hid hres
            clear hres hit
            go_wp2
            go_ret
            exact ⟨ret_b' (by rw [HR.out]; exact (str_ne s)), HBW.out⟩
          | succ g =>
            have hk : k < s.size := by omega
            obtain ⟨c, hc⟩ : ∃ c, s.data.toList[k]? = some c := ⟨_, List.getElem?_eq_getElem (by rw [← Lib.size_eq]; exact hk)⟩
            have hcg : s[k]'hk = c := by
              have := (List.getElem?_eq_some_iff.1 hc).2
              rw [← this]; rfl
            by_cases hd : isD c = true
            · have hcd : 48 ≤ c.toNat ∧ c.toNat ≤ 57 := of_decide_eq_true hd
              have hnext := fun ty => Lib.run_next_ascii_at (P := Tryd.prog) wr w.heap.size s k ty hit hk (by rw [hcg]; omega)
              rw [hcg] at hnext
              obtain ⟨W, hW⟩ : ∃ W, W = wr.iterAt w.heap.size s (k + 1) := ⟨_, rfl⟩
              rw [← hW] at hnext
              have hfin : NbI w s g W := by
                refine ⟨k + 1, by omega, ?_, by rw [hW]; exact Lib.iterAt_heap _ _ _ _ _ hit, by rw [hW]; exact Lib.below_iterAt HBW.out (by omega) _ _⟩
                rw [List.take_add_one, hc, List.all_append, HALL.out]
                simp [hd]
              have HF := Lib.hid hfin
              obtain ⟨x, hx⟩ : ∃ x : Int, x = (c.toNat : Int) := ⟨_, rfl⟩
              rw [← hx] at hnext
              have hx1 : ¬ x < 48 := by omega
              have hx2 : ¬ 57 < x := by omega
              clear hfin hd hcd hcg hc hit hW hx HALL hkg
              go_wp2
              go_roundg g
              case measure => omega
              case rel => exact HF.out
            · have hres : isNum s.data.toList = false := by
                unfold isNum
                rw [← HT.out, Bool.and_eq_false_iff]
                right
                rw [List.all_eq_false]
                exact ⟨c, List.mem_of_getElem? hc, hd⟩
              have HR := Lib.hid hres
              have hcn : ¬ (48 ≤ c.toNat ∧ c.toNat ≤ 57) := fun h => hd (decide_eq_true h)
              obtain ⟨x, W, hnext, hx, hbW⟩ : ∃ (x : Int) (W : World), (∀ ty, (Instr.next (.pointer (some ⟨w.heap.size, 0, none⟩)) true ty).run Tryd.prog wr = .ok (.tuple #[.bool true, .int .i64 k, .int .i32 x]) W) ∧ (x < 48 ∨ 57 < x) ∧ Below w.heap.size w W := by
                by_cases h8 : c.toNat < 128
                · have hnext := fun ty => Lib.run_next_ascii_at (P := Tryd.prog) wr w.heap.size s k ty hit hk (by rw [hcg]; omega)
                  rw [hcg] at hnext
                  exact ⟨_, _, hnext, by omega, Lib.below_iterAt HBW.out (by omega) _ _⟩
                · have hnext := fun ty => Lib.run_next_any_at (P := Tryd.prog) wr w.heap.size s k ty hit hk
                  have hhi := dec_high s k (by rw [show s.get! k = c by rw [← hcg]; exact get_bang s k hk]; omega)
                  exact ⟨_, _, hnext, by omega, Lib.below_iterAt HBW.out (by omega) _ _⟩
              have HBW2 := Lib.hid hbW
              clear hres hd hcn hcg hc hit hbW HALL hkg
              rcases hx with hx | hx
              · go_wp2
                go_ret
                exact ⟨ret_b' HR.out.symm, HBW2.out⟩
              · have hx2 : ¬ x < 48 := by omega
                go_wp2
                go_ret
                exact ⟨ret_b' HR.out.symm, HBW2.out⟩
end Go.Proofs.YtcllamipcgbfiaaDoor

/-
  'Parse' and 'Text': the program's, by the library's contracts.
-/
namespace Go.Proofs.YtcllamipcgbfiaaDoor
open Go.RowKit
set_option linter.unusedVariables false

abbrev twoP (z : Int) (code : Int) : Value := .tuple #[.int .i64 z, .int .i64 code]
theorem var_below {P : Program} {w w' : World} {n : String} {cs : Array Value} (hb : Below w.heap.size w w') (hv : w.var? P n = some cs) : w'.var? P n = some cs := by
  unfold World.var? at hv ⊢
  cases hg : P.globalNamed n with
  | none => rw [hg] at hv; cases hv
  | some g =>
    rw [hg] at hv
    simp only [Option.bind_some] at hv ⊢
    cases hc : w.heap[g]? with
    | none => rw [hc] at hv; cases hv
    | some o =>
      have hlt := (Array.getElem?_eq_some_iff.1 hc).1
      rw [hb.block g hlt]
      exact hv
/-- What the library's variables hold. -/
def LV (w : World) : Prop := Lib.TabIs Tryd.prog w "internal/strconv.uint64pow10" .u64 Lib.pow10Tab ∧ ∃ tp p, w.var? Tryd.prog "strconv.ErrRange" = some #[.iface tp p]
theorem LV.below {w w' : World} (h : LV w) (hb : Below w.heap.size w w') : LV w' := by
  obtain ⟨h1, tp, p, h2⟩ := h
  exact ⟨var_below hb h1, tp, p, var_below hb h2⟩
theorem fit64 {z : Int} (h : -9223372036854775808 ≤ z ∧ z ≤ 9223372036854775807) : (Lit.int .i64 z).wf = true := by
  have h1 : IntKind.i64.min = -9223372036854775808 := rfl
  have h2 : IntKind.i64.max = 9223372036854775807 := rfl
  simp only [Lit.wf, Bool.and_eq_true, decide_eq_true_eq]
  omega
theorem vparse_form (s : ByteArray) (hs : s.size ≤ 1000000) (h : isNum s.data.toList = false) (w : World) : Calls Tryd.prog 80 #[.string s] w fun e w' => e = .returned (twoP 0 1) ∧ Below w.heap.size w w' := by
  have c1 := isnumber_any s hs w
  rw [h] at c1
  clear h hs
  go_enter Tryd.func80, Tryd.ntmps80
  go_wp2_with (go_at_call 105; (with_reducible refine c1.mono ?_); rintro e w1 ⟨rfl, hb1⟩)
  go_ret2
  exact ⟨rfl, hb1⟩
theorem vparse_ok (s : ByteArray) (hs : s.size ≤ 1000000) (h : isNum s.data.toList = true) (h0 : -9223372036854775808 ≤ numZ s.data.toList) (h1 : numZ s.data.toList ≤ 9223372036854775807) (w : World) :
    Calls Tryd.prog 80 #[.string s] w fun e w' => e = .returned (twoP (numZ s.data.toList) 0) ∧ Below w.heap.size w w' := by
  have c1 := isnumber_any s hs w
  rw [h] at c1
  have c2 : ∀ W, Calls Tryd.prog 106 #[.string s, .int .i64 10, .int .i64 64] W fun e w' => e = .returned (.tuple #[.int .i64 (numZ s.data.toList), .nilIface]) ∧ Below W.heap.size W w' := fun W =>
    (Tryd.strconv_ParseInt_10_at64_ok s (by omega) _ (parse_ok _ h h0 h1) W).mono fun e w' ⟨a, b⟩ => ⟨a, by
      rcases b with rfl | ⟨t, rfl⟩
      · exact Below.refl _ _
      · exact Joins.below_bytesWorld _ _ _ _ (Nat.le_refl _)⟩
  obtain ⟨z, hz⟩ : ∃ z, z = numZ s.data.toList := ⟨_, rfl⟩
  rw [← hz] at c2 ⊢
  clear h h0 h1 hz hs
  go_enter Tryd.func80, Tryd.ntmps80
  go_wp2_with (first
    | (go_at_call 105; (with_reducible refine c1.mono ?_); rintro e w1 ⟨rfl, hb1⟩)
    | (go_at_call 106; (with_reducible refine (c2 _).mono ?_); rintro e w2 ⟨rfl, hb2⟩))
  go_ret2
  exact ⟨rfl, hb1.trans (hb2.mono hb1.size)⟩
theorem vparse_over (s : ByteArray) (hs : s.size ≤ 1000000) (h : isNum s.data.toList = true) (h0 : ¬ (-9223372036854775808 ≤ numZ s.data.toList ∧ numZ s.data.toList ≤ 9223372036854775807)) (w : World) (hv : LV w) :
    Calls Tryd.prog 80 #[.string s] w fun e w' => e = .returned (twoP 0 9) ∧ Below w.heap.size w w' := by
  have c1 := isnumber_any s hs w
  rw [h] at c1
  have c2 : ∀ W, LV W → Calls Tryd.prog 106 #[.string s, .int .i64 10, .int .i64 64] W fun e w' => ∃ N, e = .returned (.tuple #[.int .i64 (Lib.intSat 64 s.data.toList), .iface 195 (.pointer (some ⟨N, 0, none⟩))]) ∧ Below W.heap.size W w' := fun W ⟨_, tp, p, hvar⟩ =>
    (Tryd.strconv_ParseInt_10_at64_range_var s (by omega) (parse_range _ h h0) tp p W hvar).mono fun e w' ⟨N, a, _, _, b⟩ => ⟨N, a, b⟩
  obtain ⟨z, hz⟩ : ∃ z, z = Lib.intSat 64 s.data.toList := ⟨_, rfl⟩
  rw [← hz] at c2
  clear h h0 hz hs
  go_enter Tryd.func80, Tryd.ntmps80
  go_wp2_with (first
    | (go_at_call 105; (with_reducible refine c1.mono ?_); rintro e w1 ⟨rfl, hb1⟩)
    | (go_at_call 106; (with_reducible refine (c2 _ (hv.below hb1)).mono ?_); rintro e w2 ⟨N, rfl, hb2⟩))
  go_ret2
  exact ⟨rfl, hb1.trans (hb2.mono hb1.size)⟩
end Go.Proofs.YtcllamipcgbfiaaDoor
