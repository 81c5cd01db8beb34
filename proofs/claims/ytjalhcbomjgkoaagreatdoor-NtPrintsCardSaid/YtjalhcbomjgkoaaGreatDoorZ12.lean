/-
  MERGED (a claim has at most 60 files): VNumb, VStr, TAsk.
-/
import Derived.Test.YtjalhcbomjgkoaaGreatDoorZ11
import Derived.Lib.OthersKept
import Derived.Lib.DecodeN
import Derived.Lib.Strings
import Derived.Test.YtjalhcbomjgkoaaGreatDoorZ04
import Derived.Lib.SmallJoins
import Derived.Lib.ItoaLen
import Derived.Lib.AppendIntMem
/-
  'isNumber': whether a text is one of an integer; and the laws' words of bytes.
-/
namespace Go.Proofs.YtjalhcbomjgkoaaGreatDoor
open Go.RowKit
set_option linter.unusedVariables false

theorem decN_high (n b0 b1 b2 b3 : Nat) (h : 128 ≤ b0) : 128 ≤ (Lib.decodeN n b0 b1 b2 b3).1 := by
  unfold Lib.decodeN
  repeat' split
  all_goals first | omega | (simp only; omega)
theorem dec_high (s : ByteArray) (i : Nat) (h : 128 ≤ (s.get! i).toNat) : 128 ≤ (Utf8.decode s i).1 := by
  rw [Lib.decode_at]
  exact decN_high _ _ _ _ _ h
def NbI (w : World) (t : ByteArray) (g : Nat) (wr : World) : Prop :=
  ∃ k, k + g = t.size ∧ (t.data.toList.take k).all isD = true ∧ wr.heap[w.heap.size]? = some (.stringIter t k) ∧ Below w.heap.size w wr
theorem body_cons (c : UInt8) (r : List UInt8) : body (c :: r) = if c.toNat = 43 ∨ c.toNat = 45 then r else c :: r := rfl
theorem ret_b' {a b : Bool} (h : a = b) : Ending.returned (.bool a) = .returned (.bool b) := by rw [h]
theorem get_bang (t : ByteArray) (k : Nat) (h : k < t.size) : t.get! k = t[k]'h := by
  simp [ByteArray.get!, ByteArray.getElem_eq_getElem_data, h]
theorem str_ne (t : ByteArray) : (!t.toList.isEmpty) = !t.data.toList.isEmpty := by rw [ByteArray.toList_eq]
set_option maxHeartbeats 8000000 in
theorem isnumber_any (s : ByteArray) (hs : s.size ≤ 1000000) (w : World) : Calls Tryz.prog 72 #[.string s] w fun e w' => e = .returned (.bool (isNum s.data.toList)) ∧ Below w.heap.size w w' := by
  have hsz : s.size = s.data.toList.length := Lib.size_eq s
  cases hl : s.data.toList with
  | nil =>
    have hse : (!s.toList.isEmpty) = false := by rw [ByteArray.toList_eq, hl]; rfl
    have hse2 : s.toList = [] := by rw [ByteArray.toList_eq, hl]
    have HT : Hid (s.data.toList = body s.data.toList) := Lib.hid (by rw [hl]; rfl)
    rw [← hl]
    clear hsz hl
    go_enter Tryz.func72, Tryz.ntmps72
    go_wp2
    clear hse hse2
    go_loopg [] s.size (fun g wr => NbI w s g wr)
    case atStart => exact ⟨0, by omega, by simp, World.iter_heap _ _ _, (Below.refl _ _).alloc (Nat.le_refl _) _⟩
    case round =>
      obtain ⟨k, hkg, hall, hit, hbw⟩ := hrel
      have HALL := Lib.hid hall
      have HBW := Lib.hid hbw
      have hbs := hbw.size
      clear hall hbw
      cases gk with
      | zero =>
        have hnext := fun ty => Lib.run_next_end_at (P := Tryz.prog) wr w.heap.size s k ty hit (by omega)
        have hres : isNum s.data.toList = !s.data.toList.isEmpty := by
          unfold isNum
          rw [← HT.out]
          have h1 := HALL.out
          rw [List.take_of_length_le (by rw [← Lib.size_eq]; omega)] at h1
          rw [h1, Bool.and_true]
        have HR := Lib.hid hres
        clear hres hit
        go_wp2
        go_ret
        exact ⟨ret_b' (by rw [HR.out]; exact (str_ne s)), HBW.out⟩
      | succ g =>
        have hk : k < s.size := by omega
        obtain ⟨c, hc⟩ : ∃ c, s.data.toList[k]? = some c := ⟨_, List.getElem?_eq_getElem (by rw [← Lib.size_eq]; exact hk)⟩
        have hcg : s[k]'hk = c := by
          have := (List.getElem?_eq_some_iff.1 hc).2
          rw [← this]; rfl
        by_cases hd : isD c = true
        · have hcd : 48 ≤ c.toNat ∧ c.toNat ≤ 57 := of_decide_eq_true hd
          have hnext := fun ty => Lib.run_next_ascii_at (P := Tryz.prog) wr w.heap.size s k ty hit hk (by rw [hcg]; omega)
          rw [hcg] at hnext
          obtain ⟨W, hW⟩ : ∃ W, W = wr.iterAt w.heap.size s (k + 1) := ⟨_, rfl⟩
          rw [← hW] at hnext
          have hfin : NbI w s g W := by
            refine ⟨k + 1, by omega, ?_, by rw [hW]; exact Lib.iterAt_heap _ _ _ _ _ hit, by rw [hW]; exact Lib.below_iterAt HBW.out (by omega) _ _⟩
            rw [List.take_add_one, hc, List.all_append, HALL.out]
            simp [hd]
          have HF := Lib.hid hfin
          obtain ⟨x, hx⟩ : ∃ x : Int, x = (c.toNat : Int) := ⟨_, rfl⟩
          rw [← hx] at hnext
          have hx1 : ¬ x < 48 := by omega
          have hx2 : ¬ 57 < x := by omega
          clear hfin hd hcd hcg hc hit hW hx HALL hkg
          go_wp2
          go_roundg g
          case measure => omega
          case rel => exact HF.out
        · have hres : isNum s.data.toList = false := by
            unfold isNum
            rw [← HT.out, Bool.and_eq_false_iff]
            right
            rw [List.all_eq_false]
            exact ⟨c, List.mem_of_getElem? hc, hd⟩
          have HR := Lib.hid hres
          have hcn : ¬ (48 ≤ c.toNat ∧ c.toNat ≤ 57) := fun h => hd (decide_eq_true h)
          obtain ⟨x, W, hnext, hx, hbW⟩ : ∃ (x : Int) (W : World), (∀ ty, (Instr.next (.pointer (some ⟨w.heap.size, 0, none⟩)) true ty).run Tryz.prog wr = .ok (.tuple #[.bool true, .int .i64 k, .int .i32 x]) W) ∧ (x < 48 ∨ 57 < x) ∧ Below w.heap.size w W := by
            by_cases h8 : c.toNat < 128
            · have hnext := fun ty => Lib.run_next_ascii_at (P := Tryz.prog) wr w.heap.size s k ty hit hk (by rw [hcg]; omega)
              rw [hcg] at hnext
              exact ⟨_, _, hnext, by omega, Lib.below_iterAt HBW.out (by omega) _ _⟩
            · have hnext := fun ty => Lib.run_next_any_at (P := Tryz.prog) wr w.heap.size s k ty hit hk
              have hhi := dec_high s k (by rw [show s.get! k = c by rw [← hcg]; exact get_bang s k hk]; omega)
              exact ⟨_, _, hnext, by omega, Lib.below_iterAt HBW.out (by omega) _ _⟩
          have HBW2 := Lib.hid hbW
          clear hres hd hcn hcg hc hit hbW HALL hkg
          rcases hx with hx | hx
          · go_wp2
            go_ret
            exact ⟨ret_b' HR.out.symm, HBW2.out⟩
          · have hx2 : ¬ x < 48 := by omega
            go_wp2
            go_ret
            exact ⟨ret_b' HR.out.symm, HBW2.out⟩
  | cons c r =>
    have h0 : 0 < s.size := by rw [hsz, hl]; simp
    have hse : (!s.toList.isEmpty) = true := by rw [ByteArray.toList_eq, hl]; rfl
    have hse2 : ¬ s.toList = [] := by rw [ByteArray.toList_eq, hl]; simp
    have hc0 : s[0]'h0 = c := by
      have : s.data.toList[0]? = some c := by rw [hl]; rfl
      exact (List.getElem?_eq_some_iff.1 this).2
    obtain ⟨x, hx⟩ : ∃ x : Int, x = (c.toNat : Int) := ⟨_, rfl⟩
    have hcx : ((s[0]'h0).toNat : Int) = x := by rw [hc0, hx]
    have hsg : (x = 43 ∨ x = 45) → (s.extract 1 s.size).data.toList = body s.data.toList := by
      intro h
      rw [Lib.extract_data, hl, body_cons, if_pos (by omega)]
      simp [hsz, hl]
    have hns : ¬ (x = 43 ∨ x = 45) → s.data.toList = body s.data.toList := by
      intro h
      rw [hl, body_cons, if_neg (by omega)]
    rw [← hl]
    by_cases h43 : x = 43
    · have g1 : (x == 43) = true := by simpa using h43
      have HT := Lib.hid (hsg (.inl h43))
      clear hl hsz hc0 hx h43 hsg hns
      go_enter Tryz.func72, Tryz.ntmps72
      go_wp2
      obtain ⟨t, ht⟩ : ∃ t, t = s.extract 1 s.size := ⟨_, rfl⟩
      rw [← ht] at HT ⊢
      clear ht
      go_loopg [] t.size (fun g wr => NbI w t g wr)
      case atStart => exact ⟨0, by omega, by simp, World.iter_heap _ _ _, (Below.refl _ _).alloc (Nat.le_refl _) _⟩
      case round =>
        obtain ⟨k, hkg, hall, hit, hbw⟩ := hrel
        have HALL := Lib.hid hall
        have HBW := Lib.hid hbw
        have hbs := hbw.size
        clear hall hbw
        cases gk with
        | zero =>
          have hnext := fun ty => Lib.run_next_end_at (P := Tryz.prog) wr w.heap.size t k ty hit (by omega)
          have hres : isNum s.data.toList = !t.data.toList.isEmpty := by
            unfold isNum
            rw [← HT.out]
            have h1 := HALL.out
            rw [List.take_of_length_le (by rw [← Lib.size_eq]; omega)] at h1
            rw [h1, Bool.and_true]
          have HR := Lib.hid hres
          clear hres hit
          go_wp2
          go_ret
          exact ⟨ret_b' (by rw [HR.out]; exact (str_ne t)), HBW.out⟩
        | succ g =>
          have hk : k < t.size := by omega
          obtain ⟨c, hc⟩ : ∃ c, t.data.toList[k]? = some c := ⟨_, List.getElem?_eq_getElem (by rw [← Lib.size_eq]; exact hk)⟩
          have hcg : t[k]'hk = c := by
            have := (List.getElem?_eq_some_iff.1 hc).2
            rw [← this]; rfl
          by_cases hd : isD c = true
          · have hcd : 48 ≤ c.toNat ∧ c.toNat ≤ 57 := of_decide_eq_true hd
            have hnext := fun ty => Lib.run_next_ascii_at (P := Tryz.prog) wr w.heap.size t k ty hit hk (by rw [hcg]; omega)
            rw [hcg] at hnext
            obtain ⟨W, hW⟩ : ∃ W, W = wr.iterAt w.heap.size t (k + 1) := ⟨_, rfl⟩
            rw [← hW] at hnext
            have hfin : NbI w t g W := by
              refine ⟨k + 1, by omega, ?_, by rw [hW]; exact Lib.iterAt_heap _ _ _ _ _ hit, by rw [hW]; exact Lib.below_iterAt HBW.out (by omega) _ _⟩
              rw [List.take_add_one, hc, List.all_append, HALL.out]
              simp [hd]
            have HF := Lib.hid hfin
            obtain ⟨x, hx⟩ : ∃ x : Int, x = (c.toNat : Int) := ⟨_, rfl⟩
            rw [← hx] at hnext
            have hx1 : ¬ x < 48 := by omega
            have hx2 : ¬ 57 < x := by omega
            clear hfin hd hcd hcg hc hit hW hx HALL hkg
            go_wp2
            go_roundg g
            case measure => omega
            case rel => exact HF.out
          · have hres : isNum s.data.toList = false := by
              unfold isNum
              rw [← HT.out, Bool.and_eq_false_iff]
              right
              rw [List.all_eq_false]
              exact ⟨c, List.mem_of_getElem? hc, hd⟩
            have HR := Lib.hid hres
            have hcn : ¬ (48 ≤ c.toNat ∧ c.toNat ≤ 57) := fun h => hd (decide_eq_true h)
            obtain ⟨x, W, hnext, hx, hbW⟩ : ∃ (x : Int) (W : World), (∀ ty, (Instr.next (.pointer (some ⟨w.heap.size, 0, none⟩)) true ty).run Tryz.prog wr = .ok (.tuple #[.bool true, .int .i64 k, .int .i32 x]) W) ∧ (x < 48 ∨ 57 < x) ∧ Below w.heap.size w W := by
              by_cases h8 : c.toNat < 128
              · have hnext := fun ty => Lib.run_next_ascii_at (P := Tryz.prog) wr w.heap.size t k ty hit hk (by rw [hcg]; omega)
                rw [hcg] at hnext
                exact ⟨_, _, hnext, by omega, Lib.below_iterAt HBW.out (by omega) _ _⟩
              · have hnext := fun ty => Lib.run_next_any_at (P := Tryz.prog) wr w.heap.size t k ty hit hk
                have hhi := dec_high t k (by rw [show t.get! k = c by rw [← hcg]; exact get_bang t k hk]; omega)
                exact ⟨_, _, hnext, by omega, Lib.below_iterAt HBW.out (by omega) _ _⟩
            have HBW2 := Lib.hid hbW
            clear hres hd hcn hcg hc hit hbW HALL hkg
            rcases hx with hx | hx
            · go_wp2
              go_ret
              exact ⟨ret_b' HR.out.symm, HBW2.out⟩
            · have hx2 : ¬ x < 48 := by omega
              go_wp2
              go_ret
              exact ⟨ret_b' HR.out.symm, HBW2.out⟩
    · have g1 : (x == 43) = false := by simpa using h43
      by_cases h45 : x = 45
      · have g2 : (x == 45) = true := by simpa using h45
        have HT := Lib.hid (hsg (.inr h45))
        clear hl hsz hc0 hx h43 h45 hsg hns
        go_enter Tryz.func72, Tryz.ntmps72
        go_wp2
        obtain ⟨t, ht⟩ : ∃ t, t = s.extract 1 s.size := ⟨_, rfl⟩
        rw [← ht] at HT ⊢
        clear ht
        go_loopg [] t.size (fun g wr => NbI w t g wr)
        case atStart => exact ⟨0, by omega, by simp, World.iter_heap _ _ _, (Below.refl _ _).alloc (Nat.le_refl _) _⟩
        case round =>
          obtain ⟨k, hkg, hall, hit, hbw⟩ := hrel
          have HALL := Lib.hid hall
          have HBW := Lib.hid hbw
          have hbs := hbw.size
          clear hall hbw
          cases gk with
          | zero =>
            have hnext := fun ty => Lib.run_next_end_at (P := Tryz.prog) wr w.heap.size t k ty hit (by omega)
            have hres : isNum s.data.toList = !t.data.toList.isEmpty := by
              unfold isNum
              rw [← HT.out]
              have h1 := HALL.out
              rw [List.take_of_length_le (by rw [← Lib.size_eq]; omega)] at h1
              rw [h1, Bool.and_true]
            have HR := Lib.hid hres
            clear hres hit
            go_wp2
            go_ret
            exact ⟨ret_b' (by rw [HR.out]; exact (str_ne t)), HBW.out⟩
          | succ g =>
            have hk : k < t.size := by omega
            obtain ⟨c, hc⟩ : ∃ c, t.data.toList[k]? = some c := ⟨_, List.getElem?_eq_getElem (by rw [← Lib.size_eq]; exact hk)⟩
            have hcg : t[k]'hk = c := by
              have := (List.getElem?_eq_some_iff.1 hc).2
              rw [← this]; rfl
            by_cases hd : isD c = true
            · have hcd : 48 ≤ c.toNat ∧ c.toNat ≤ 57 := of_decide_eq_true hd
              have hnext := fun ty => Lib.run_next_ascii_at (P := Tryz.prog) wr w.heap.size t k ty hit hk (by rw [hcg]; omega)
              rw [hcg] at hnext
              obtain ⟨W, hW⟩ : ∃ W, W = wr.iterAt w.heap.size t (k + 1) := ⟨_, rfl⟩
              rw [← hW] at hnext
              have hfin : NbI w t g W := by
                refine ⟨k + 1, by omega, ?_, by rw [hW]; exact Lib.iterAt_heap _ _ _ _ _ hit, by rw [hW]; exact Lib.below_iterAt HBW.out (by omega) _ _⟩
                rw [List.take_add_one, hc, List.all_append, HALL.out]
                simp [hd]
              have HF := Lib.hid hfin
              obtain ⟨x, hx⟩ : ∃ x : Int, x = (c.toNat : Int) := ⟨_, rfl⟩
              rw [← hx] at hnext
              have hx1 : ¬ x < 48 := by omega
              have hx2 : ¬ 57 < x := by omega
              clear hfin hd hcd hcg hc hit hW hx HALL hkg
              go_wp2
              go_roundg g
              case measure => omega
              case rel => exact HF.out
            · have hres : isNum s.data.toList = false := by
                unfold isNum
                rw [← HT.out, Bool.and_eq_false_iff]
                right
                rw [List.all_eq_false]
                exact ⟨c, List.mem_of_getElem? hc, hd⟩
              have HR := Lib.hid hres
              have hcn : ¬ (48 ≤ c.toNat ∧ c.toNat ≤ 57) := fun h => hd (decide_eq_true h)
              obtain ⟨x, W, hnext, hx, hbW⟩ : ∃ (x : Int) (W : World), (∀ ty, (Instr.next (.pointer (some ⟨w.heap.size, 0, none⟩)) true ty).run Tryz.prog wr = .ok (.tuple #[.bool true, .int .i64 k, .int .i32 x]) W) ∧ (x < 48 ∨ 57 < x) ∧ Below w.heap.size w W := by
                by_cases h8 : c.toNat < 128
                · have hnext := fun ty => Lib.run_next_ascii_at (P := Tryz.prog) wr w.heap.size t k ty hit hk (by rw [hcg]; omega)
                  rw [hcg] at hnext
                  exact ⟨_, _, hnext, by omega, Lib.below_iterAt HBW.out (by omega) _ _⟩
                · have hnext := fun ty => Lib.run_next_any_at (P := Tryz.prog) wr w.heap.size t k ty hit hk
                  have hhi := dec_high t k (by rw [show t.get! k = c by rw [← hcg]; exact get_bang t k hk]; omega)
                  exact ⟨_, _, hnext, by omega, Lib.below_iterAt HBW.out (by omega) _ _⟩
              have HBW2 := Lib.hid hbW
              clear hres hd hcn hcg hc hit hbW HALL hkg
              rcases hx with hx | hx
              · go_wp2
                go_ret
                exact ⟨ret_b' HR.out.symm, HBW2.out⟩
              · have hx2 : ¬ x < 48 := by omega
                go_wp2
                go_ret
                exact ⟨ret_b' HR.out.symm, HBW2.out⟩
      · have g2 : (x == 45) = false := by simpa using h45
        have HT := Lib.hid (hns (by omega))
        clear hl hsz hc0 hx h43 h45 hsg hns
        go_enter Tryz.func72, Tryz.ntmps72
        go_wp2
        clear hse hse2
        go_loopg [] s.size (fun g wr => NbI w s g wr)
        case atStart => exact ⟨0, by omega, by simp, World.iter_heap _ _ _, (Below.refl _ _).alloc (Nat.le_refl _) _⟩
        case round =>
          obtain ⟨k, hkg, hall, hit, hbw⟩ := hrel
          have HALL := Lib.hid hall
          have HBW := Lib.hid hbw
          have hbs := hbw.size
          clear hall hbw
          cases gk with
          | zero =>
            have hnext := fun ty => Lib.run_next_end_at (P := Tryz.prog) wr w.heap.size s k ty hit (by omega)
            have hres : isNum s.data.toList = !s.data.toList.isEmpty := by
              unfold isNum
              rw [← HT.out]
              have h1 := HALL.out
              rw [List.take_of_length_le (by rw [← Lib.size_eq]; omega)] at h1
              rw [h1, Bool.and_true]
            have HR := Lib.hid hres
            clear hres hit
            go_wp2
            go_ret
            exact ⟨ret_b' (by rw [HR.out]; exact (str_ne s)), HBW.out⟩
          | succ g =>
            have hk : k < s.size := by omega
            obtain ⟨c, hc⟩ : ∃ c, s.data.toList[k]? = some c := ⟨_, List.getElem?_eq_getElem (by rw [← Lib.size_eq]; exact hk)⟩
            have hcg : s[k]'hk = c := by
              have := (List.getElem?_eq_some_iff.1 hc).2
              rw [← this]; rfl
            by_cases hd : isD c = true
            · have hcd : 48 ≤ c.toNat ∧ c.toNat ≤ 57 := of_decide_eq_true hd
              have hnext := fun ty => Lib.run_next_ascii_at (P := Tryz.prog) wr w.heap.size s k ty hit hk (by rw [hcg]; omega)
              rw [hcg] at hnext
              obtain ⟨W, hW⟩ : ∃ W, W = wr.iterAt w.heap.size s (k + 1) := ⟨_, rfl⟩
              rw [← hW] at hnext
              have hfin : NbI w s g W := by
                refine ⟨k + 1, by omega, ?_, by rw [hW]; exact Lib.iterAt_heap _ _ _ _ _ hit, by rw [hW]; exact Lib.below_iterAt HBW.out (by omega) _ _⟩
                rw [List.take_add_one, hc, List.all_append, HALL.out]
                simp [hd]
              have HF := Lib.hid hfin
              obtain ⟨x, hx⟩ : ∃ x : Int, x = (c.toNat : Int) := ⟨_, rfl⟩
              rw [← hx] at hnext
              have hx1 : ¬ x < 48 := by omega
              have hx2 : ¬ 57 < x := by omega
              clear hfin hd hcd hcg hc hit hW hx HALL hkg
              go_wp2
              go_roundg g
              case measure => omega
              case rel => exact HF.out
            · have hres : isNum s.data.toList = false := by
                unfold isNum
                rw [← HT.out, Bool.and_eq_false_iff]
                right
                rw [List.all_eq_false]
                exact ⟨c, List.mem_of_getElem? hc, hd⟩
              have HR := Lib.hid hres
              have hcn : ¬ (48 ≤ c.toNat ∧ c.toNat ≤ 57) := fun h => hd (decide_eq_true h)
              obtain ⟨x, W, hnext, hx, hbW⟩ : ∃ (x : Int) (W : World), (∀ ty, (Instr.next (.pointer (some ⟨w.heap.size, 0, none⟩)) true ty).run Tryz.prog wr = .ok (.tuple #[.bool true, .int .i64 k, .int .i32 x]) W) ∧ (x < 48 ∨ 57 < x) ∧ Below w.heap.size w W := by
                by_cases h8 : c.toNat < 128
                · have hnext := fun ty => Lib.run_next_ascii_at (P := Tryz.prog) wr w.heap.size s k ty hit hk (by rw [hcg]; omega)
                  rw [hcg] at hnext
                  exact ⟨_, _, hnext, by omega, Lib.below_iterAt HBW.out (by omega) _ _⟩
                · have hnext := fun ty => Lib.run_next_any_at (P := Tryz.prog) wr w.heap.size s k ty hit hk
                  have hhi := dec_high s k (by rw [show s.get! k = c by rw [← hcg]; exact get_bang s k hk]; omega)
                  exact ⟨_, _, hnext, by omega, Lib.below_iterAt HBW.out (by omega) _ _⟩
              have HBW2 := Lib.hid hbW
              clear hres hd hcn hcg hc hit hbW HALL hkg
              rcases hx with hx | hx
              · go_wp2
                go_ret
                exact ⟨ret_b' HR.out.symm, HBW2.out⟩
              · have hx2 : ¬ x < 48 := by omega
                go_wp2
                go_ret
                exact ⟨ret_b' HR.out.symm, HBW2.out⟩
end Go.Proofs.YtjalhcbomjgkoaaGreatDoor

/-
  'Parse' and 'Text': the program's, by the library's contracts.
-/
namespace Go.Proofs.YtjalhcbomjgkoaaGreatDoor
open Go.RowKit
set_option linter.unusedVariables false

abbrev twoP (z : Int) (code : Int) : Value := .tuple #[.int .i64 z, .int .i64 code]
theorem var_below {P : Program} {w w' : World} {n : String} {cs : Array Value} (hb : Below w.heap.size w w') (hv : w.var? P n = some cs) : w'.var? P n = some cs := by
  unfold World.var? at hv ⊢
  cases hg : P.globalNamed n with
  | none => rw [hg] at hv; cases hv
  | some g =>
    rw [hg] at hv
    simp only [Option.bind_some] at hv ⊢
    cases hc : w.heap[g]? with
    | none => rw [hc] at hv; cases hv
    | some o =>
      have hlt := (Array.getElem?_eq_some_iff.1 hc).1
      rw [hb.block g hlt]
      exact hv
/-- What the library's variables hold. -/
def LV (w : World) : Prop := Lib.TabIs Tryz.prog w "internal/strconv.uint64pow10" .u64 Lib.pow10Tab ∧ ∃ tp p, w.var? Tryz.prog "strconv.ErrRange" = some #[.iface tp p]
theorem LV.below {w w' : World} (h : LV w) (hb : Below w.heap.size w w') : LV w' := by
  obtain ⟨h1, tp, p, h2⟩ := h
  exact ⟨var_below hb h1, tp, p, var_below hb h2⟩
theorem fit64 {z : Int} (h : -9223372036854775808 ≤ z ∧ z ≤ 9223372036854775807) : (Lit.int .i64 z).wf = true := by
  have h1 : IntKind.i64.min = -9223372036854775808 := rfl
  have h2 : IntKind.i64.max = 9223372036854775807 := rfl
  simp only [Lit.wf, Bool.and_eq_true, decide_eq_true_eq]
  omega
theorem vparse_form (s : ByteArray) (hs : s.size ≤ 1000000) (h : isNum s.data.toList = false) (w : World) : Calls Tryz.prog 40 #[.string s] w fun e w' => e = .returned (twoP 0 1) ∧ Below w.heap.size w w' := by
  have c1 := isnumber_any s hs w
  rw [h] at c1
  clear h hs
  go_enter Tryz.func40, Tryz.ntmps40
  go_wp2_with (go_at_call 72; (with_reducible refine c1.mono ?_); rintro e w1 ⟨rfl, hb1⟩)
  go_ret2
  exact ⟨rfl, hb1⟩
theorem vparse_ok (s : ByteArray) (hs : s.size ≤ 1000000) (h : isNum s.data.toList = true) (h0 : -9223372036854775808 ≤ numZ s.data.toList) (h1 : numZ s.data.toList ≤ 9223372036854775807) (w : World) :
    Calls Tryz.prog 40 #[.string s] w fun e w' => e = .returned (twoP (numZ s.data.toList) 0) ∧ Below w.heap.size w w' := by
  have c1 := isnumber_any s hs w
  rw [h] at c1
  have c2 : ∀ W, Calls Tryz.prog 73 #[.string s, .int .i64 10, .int .i64 64] W fun e w' => e = .returned (.tuple #[.int .i64 (numZ s.data.toList), .nilIface]) ∧ Below W.heap.size W w' := fun W =>
    (Tryz.strconv_ParseInt_10_at64_ok s (by omega) _ (parse_ok _ h h0 h1) W).mono fun e w' ⟨a, b⟩ => ⟨a, by
      rcases b with rfl | ⟨t, rfl⟩
      · exact Below.refl _ _
      · exact Joins.below_bytesWorld _ _ _ _ (Nat.le_refl _)⟩
  obtain ⟨z, hz⟩ : ∃ z, z = numZ s.data.toList := ⟨_, rfl⟩
  rw [← hz] at c2 ⊢
  clear h h0 h1 hz hs
  go_enter Tryz.func40, Tryz.ntmps40
  go_wp2_with (first
    | (go_at_call 72; (with_reducible refine c1.mono ?_); rintro e w1 ⟨rfl, hb1⟩)
    | (go_at_call 73; (with_reducible refine (c2 _).mono ?_); rintro e w2 ⟨rfl, hb2⟩))
  go_ret2
  exact ⟨rfl, hb1.trans (hb2.mono hb1.size)⟩
theorem vparse_over (s : ByteArray) (hs : s.size ≤ 1000000) (h : isNum s.data.toList = true) (h0 : ¬ (-9223372036854775808 ≤ numZ s.data.toList ∧ numZ s.data.toList ≤ 9223372036854775807)) (w : World) (hv : LV w) :
    Calls Tryz.prog 40 #[.string s] w fun e w' => e = .returned (twoP 0 9) ∧ Below w.heap.size w w' := by
  have c1 := isnumber_any s hs w
  rw [h] at c1
  have c2 : ∀ W, LV W → Calls Tryz.prog 73 #[.string s, .int .i64 10, .int .i64 64] W fun e w' => ∃ N, e = .returned (.tuple #[.int .i64 (Lib.intSat 64 s.data.toList), .iface 171 (.pointer (some ⟨N, 0, none⟩))]) ∧ Below W.heap.size W w' := fun W ⟨_, tp, p, hvar⟩ =>
    (Tryz.strconv_ParseInt_10_at64_range_var s (by omega) (parse_range _ h h0) tp p W hvar).mono fun e w' ⟨N, a, _, _, b⟩ => ⟨N, a, b⟩
  obtain ⟨z, hz⟩ : ∃ z, z = Lib.intSat 64 s.data.toList := ⟨_, rfl⟩
  rw [← hz] at c2
  clear h h0 hz hs
  go_enter Tryz.func40, Tryz.ntmps40
  go_wp2_with (first
    | (go_at_call 72; (with_reducible refine c1.mono ?_); rintro e w1 ⟨rfl, hb1⟩)
    | (go_at_call 73; (with_reducible refine (c2 _ (hv.below hb1)).mono ?_); rintro e w2 ⟨N, rfl, hb2⟩))
  go_ret2
  exact ⟨rfl, hb1.trans (hb2.mono hb1.size)⟩
end Go.Proofs.YtjalhcbomjgkoaaGreatDoor

/-
  THE INTEGER AND THE TRUTH OF A TERM; what comes with an error is no truth.
-/
namespace Go.Proofs.YtjalhcbomjgkoaaGreatDoor
open Go.RowKit
set_option linter.unusedVariables false

/-- Truths' numbers. -/
def tru (yes : Bool) (code : Int) : Int := if code = 0 then (if yes then 1 else 0) else 2
theorem truthOf_any (yes : Bool) (code : Int) (w : World) : Calls Tryz.prog 46 #[.bool yes, .int .i64 code] w fun e w' => e = .returned (.int .u8 (tru yes code)) ∧ w = w' := by
  have cO := of_any yes
  obtain ⟨x, hx⟩ : ∃ x : Int, x = if yes then 1 else 0 := ⟨_, rfl⟩
  rw [← hx] at cO
  by_cases hc : code = 0
  · have hb : (code != 0) = false := by simpa using hc
    have H : Hid (tru yes code = x) := Lib.hid (by unfold tru; rw [if_pos hc, hx])
    clear hc hx
    go_enter Tryz.func46, Tryz.ntmps46
    go_wp2_with (go_at_call 47; (with_reducible refine (cO _).mono ?_); rintro e w' ⟨rfl, rfl⟩)
    go_ret
    exact ⟨ret_u8 H.out.symm, rfl⟩
  · have hb : (code != 0) = true := by simpa using hc
    have H : Hid (tru yes code = 2) := Lib.hid (by unfold tru; rw [if_neg hc])
    clear hc hx cO
    go_enter Tryz.func46, Tryz.ntmps46
    go_wp2
    go_ret
    exact ⟨ret_u8 H.out.symm, rfl⟩
/-- What value.Parse says of a text. -/
def prs (s : ByteArray) : Int × Int := if isNum s.data.toList = true then (if -9223372036854775808 ≤ numZ s.data.toList ∧ numZ s.data.toList ≤ 9223372036854775807 then (numZ s.data.toList, 0) else (0, 9)) else (0, 1)
theorem parse_any (s : ByteArray) (hs : s.size ≤ 1000000) (w : World) (hv : LV w) : Calls Tryz.prog 40 #[.string s] w fun e w' => e = .returned (twoP (prs s).1 (prs s).2) ∧ Below w.heap.size w w' := by
  unfold prs
  cases h : isNum s.data.toList
  · rw [if_neg (by decide)]
    exact vparse_form s hs h w
  · rw [if_pos rfl]
    by_cases hr : -9223372036854775808 ≤ numZ s.data.toList ∧ numZ s.data.toList ≤ 9223372036854775807
    · rw [if_pos hr]
      exact vparse_ok s hs h hr.1 hr.2 w
    · rw [if_neg hr]
      exact vparse_over s hs h hr w hv
/-- What AsInt says of a text of type XInt. -/
def asT (s : ByteArray) : Int × Int := if (prs s).2 = 1 then (0, 3) else prs s
def asI (t : Tm) : Int × Int := if t.isLit = true then (if (t.tb.toList == lI) = true then asT t.la else (0, 10)) else (0, 10)
abbrev A3 (a b c : ByteArray) (ok : Bool) : Value := L3 a b c ok
theorem ret_twT {z z' c c' : Int} (h : z = z') (k : c = c') : Ending.returned (twoP z c) = .returned (twoP z' c') := by rw [h, k]
set_option maxRecDepth 100000 in
set_option maxHeartbeats 4000000 in
theorem asInt_any (t : Tm) (hs : t.la.size ≤ 1000000) (w : World) (hv : LV w) : Calls Tryz.prog 11 #[t.val] w fun e w' => e = .returned (twoP (asI t).1 (asI t).2) ∧ Below w.heap.size w w' := by
  have cA := asLit_any t w
  have cP := parse_any t.la hs
  obtain ⟨r, hr⟩ : ∃ r, r = asI t := ⟨_, rfl⟩
  rw [← hr]
  unfold asI at hr
  obtain ⟨a, ha⟩ : ∃ k, k = t.la := ⟨_, rfl⟩
  obtain ⟨b, hb⟩ : ∃ k, k = t.tb := ⟨_, rfl⟩
  obtain ⟨c, hc⟩ : ∃ k, k = t.tc := ⟨_, rfl⟩
  obtain ⟨ok, hok⟩ : ∃ k, k = t.isLit := ⟨_, rfl⟩
  obtain ⟨v, hvv⟩ : ∃ k, k = t.val := ⟨_, rfl⟩
  rw [← ha, ← hb, ← hc, ← hok, ← hvv] at cA
  rw [← ha] at cP
  rw [← ha, ← hb, ← hok] at hr
  rw [← hvv]
  clear ha hb hc hok hvv hs
  have hLV := Lib.hid hv
  cases ok
  · rw [if_neg (by decide)] at hr
    subst hr
    clear cP hv
    go_enter Tryz.func11, Tryz.ntmps11
    go_wp2_with (go_at_call 39; (with_reducible refine cA.mono ?_); rintro e w1 ⟨rfl, hb1⟩)
    go_ret2
    exact ⟨rfl, hb1.alloc hb1.size _⟩
  · rw [if_pos rfl] at hr
    cases hI : (b.toList == lI)
    · rw [hI, if_neg (by decide)] at hr
      subst hr
      clear cP hv
      go_enter Tryz.func11, Tryz.ntmps11
      go_wp2_with (go_at_call 39; (with_reducible refine cA.mono ?_); rintro e w1 ⟨rfl, hb1⟩)
      go_ret2
      exact ⟨rfl, hb1.alloc hb1.size _⟩
    · rw [hI, if_pos rfl] at hr
      unfold asT at hr
      obtain ⟨z, hz⟩ : ∃ z, z = (prs a).1 := ⟨_, rfl⟩
      obtain ⟨code, hcode⟩ : ∃ z, z = (prs a).2 := ⟨_, rfl⟩
      rw [← hz, ← hcode] at cP
      have hp : prs a = (z, code) := by rw [hz, hcode]
      rw [hp] at hr
      clear hz hcode hp hv
      by_cases h1 : code = 1
      · have h1b : (code == 1) = true := by simpa using h1
        have HR : Hid (r = (0, 3)) := Lib.hid (by rw [hr, if_pos h1])
        clear hr h1
        go_enter Tryz.func11, Tryz.ntmps11
        go_wp2_with (first
          | (go_at_call 39; (with_reducible refine cA.mono ?_); rintro e w1 ⟨rfl, hb1⟩; have hb2 := hb1.alloc hb1.size (.cells #[.string a, .string b, .string c] 78))
          | (go_at_call 40; (with_reducible refine (cP _ (hLV.out.below hb2)).mono ?_); rintro e w3 ⟨rfl, hb3⟩))
        go_ret2
        exact ⟨ret_twT (by rw [HR.out]) (by rw [HR.out]), hb2.trans (hb3.mono hb2.size)⟩
      · have h1b : (code == 1) = false := by simpa using h1
        have HR : Hid (r = (z, code)) := Lib.hid (by rw [hr, if_neg h1])
        clear hr h1
        go_enter Tryz.func11, Tryz.ntmps11
        go_wp2_with (first
          | (go_at_call 39; (with_reducible refine cA.mono ?_); rintro e w1 ⟨rfl, hb1⟩; have hb2 := hb1.alloc hb1.size (.cells #[.string a, .string b, .string c] 78))
          | (go_at_call 40; (with_reducible refine (cP _ (hLV.out.below hb2)).mono ?_); rintro e w3 ⟨rfl, hb3⟩))
        go_ret2
        exact ⟨ret_twT (by rw [HR.out]) (by rw [HR.out]), hb2.trans (hb3.mono hb2.size)⟩
/-- What AsBool says. -/
abbrev oT (x : Bool) (code : Int) : Value := .tuple #[.bool x, .int .i64 code]
abbrev wTrue : List UInt8 := [116, 114, 117, 101]
abbrev wFalse : List UInt8 := [102, 97, 108, 115, 101]
abbrev wOne : List UInt8 := [49]
abbrev wNought : List UInt8 := [48]
def bT (s : ByteArray) : Bool × Int := if (s.toList == wTrue) = true then (true, 0) else if (s.toList == wOne) = true then (true, 0) else if (s.toList == wFalse) = true then (false, 0) else if (s.toList == wNought) = true then (false, 0) else (false, 3)
def asB (t : Tm) : Bool × Int := if t.isLit = true then (if (t.tb.toList == lB) = true then bT t.la else (false, 10)) else (false, 10)
theorem ret_obT {z z' : Bool} {c c' : Int} (h : z = z') (k : c = c') : Ending.returned (oT z c) = .returned (oT z' c') := by rw [h, k]
set_option maxRecDepth 100000 in
set_option maxHeartbeats 4000000 in
theorem asBool_any (t : Tm) (w : World) : Calls Tryz.prog 12 #[t.val] w fun e w' => e = .returned (oT (asB t).1 (asB t).2) ∧ Below w.heap.size w w' := by
  have cA := asLit_any t w
  obtain ⟨r, hr⟩ : ∃ r, r = asB t := ⟨_, rfl⟩
  rw [← hr]
  unfold asB at hr
  obtain ⟨a, ha⟩ : ∃ k, k = t.la := ⟨_, rfl⟩
  obtain ⟨b, hb⟩ : ∃ k, k = t.tb := ⟨_, rfl⟩
  obtain ⟨c, hc⟩ : ∃ k, k = t.tc := ⟨_, rfl⟩
  obtain ⟨ok, hok⟩ : ∃ k, k = t.isLit := ⟨_, rfl⟩
  obtain ⟨v, hvv⟩ : ∃ k, k = t.val := ⟨_, rfl⟩
  rw [← ha, ← hb, ← hc, ← hok, ← hvv] at cA
  rw [← ha, ← hb, ← hok] at hr
  rw [← hvv]
  clear ha hb hc hok hvv
  cases ok
  · rw [if_neg (by decide)] at hr
    subst hr
    go_enter Tryz.func12, Tryz.ntmps12
    go_wp2_with (go_at_call 39; (with_reducible refine cA.mono ?_); rintro e w1 ⟨rfl, hb1⟩)
    go_ret2
    exact ⟨rfl, hb1.alloc hb1.size _⟩
  · rw [if_pos rfl] at hr
    cases hB : (b.toList == lB)
    · rw [hB, if_neg (by decide)] at hr
      subst hr
      go_enter Tryz.func12, Tryz.ntmps12
      go_wp2_with (go_at_call 39; (with_reducible refine cA.mono ?_); rintro e w1 ⟨rfl, hb1⟩)
      go_ret2
      exact ⟨rfl, hb1.alloc hb1.size _⟩
    · rw [hB, if_pos rfl] at hr
      unfold bT at hr
      cases h1 : (a.toList == wTrue) <;> cases h2 : (a.toList == wOne) <;> cases h3 : (a.toList == wFalse) <;> cases h4 : (a.toList == wNought)
      all_goals
        rw [h1, h2, h3, h4] at hr
        simp only [if_true, Bool.false_eq_true, if_false] at hr
        have HR := Lib.hid hr
        clear hr
        go_enter Tryz.func12, Tryz.ntmps12
        go_wp2_with (go_at_call 39; (with_reducible refine cA.mono ?_); rintro e w1 ⟨rfl, hb1⟩)
        go_ret2
        exact ⟨ret_obT (by rw [HR.out]) (by rw [HR.out]), hb1.alloc hb1.size _⟩
end Go.Proofs.YtjalhcbomjgkoaaGreatDoor
