/-
  MERGED (a claim has at most 60 files): NGath, RQuote.
-/
import Derived.Test.YtpnfjjgihkmjmaaGreatDoorZ29
import Derived.Test.YtpnfjjgihkmjmaaGreatDoorZ09
import Derived.Test.YtpnfjjgihkmjmaaGreatDoorZ05
import Derived.Deep.AppendLies
/-
  GOOD TRIPLES ARE GATHERED: the loop's relation.
-/
namespace Go.Proofs.YtpnfjjgihkmjmaaGreatDoor
open Go.RowKit
set_option linter.unusedVariables false
set_option linter.unusedSimpArgs false

/-- The world between two rounds. -/
structure J0 (W0 : World) (N1 : Nat) (v9 : Value) (L9 : List (List Tm)) (vf : Value) (F : List (List Tm)) (v10 : Value) (L10 : List (List Tm)) (W : World) : Prop where
  b : Below W0.heap.size W0 W
  n0 : W0.heap.size ≤ N1
  n1 : N1 ≤ W.heap.size
  all : DtV W0.heap.size W v9 L9
  done : TrsV W0.heap.size W vf F
  row : TrsV N1 W v10 L10
  far : ∀ k, vf.ownBlock = some k → k < N1
section
variable {W0 : World} {N1 : Nat} {v9 vf v10 : Value} {L9 F L10 : List (List Tm)}
theorem Jw.j0 {g : Nat} {cs : Array Value} {W : World} (h : Jw W0 N1 g cs v9 L9 vf F v10 L10 W) : J0 W0 N1 v9 L9 vf F v10 L10 W := ⟨h.b, h.n0, h.n1, h.all, h.done, h.row, h.far⟩
theorem J0.boxed {W : World} (h : J0 W0 N1 v9 L9 vf F v10 L10 W) (cs : Array Value) : Jw W0 N1 W.heap.size cs v9 L9 vf F v10 L10 (W.alloc (.cells cs 38)) :=
  have hb : Below W.heap.size W (W.alloc (.cells cs 38)) := (Below.refl _ _).alloc (Nat.le_refl _) _
  ⟨h.b.alloc h.b.size _, h.n0, Nat.le_trans h.n1 hb.size, Fb.new _ _ _, h.all.below hb, h.done.below hb, h.row.below hb, h.far, fun e => by have := (World.ownsRow.lt h.all _ e).2; omega⟩
theorem J0.below {W W' : World} (h : J0 W0 N1 v9 L9 vf F v10 L10 W) (hb : Below W.heap.size W W') : J0 W0 N1 v9 L9 vf F v10 L10 W' :=
  ⟨h.b.trans (hb.mono h.b.size), h.n0, Nat.le_trans h.n1 hb.size, h.all.below hb, h.done.below hb, h.row.below hb, h.far⟩
theorem j0_of {W : World} {f : Nat} {args : Array Value} {y : Value} (h : J0 W0 N1 v9 L9 vf F v10 L10 W) (k : Calls Tryz.prog f args W fun e w' => e = .returned y ∧ Below W.heap.size W w') :
    Calls Tryz.prog f args W fun e w' => e = .returned y ∧ J0 W0 N1 v9 L9 vf F v10 L10 w' := k.mono fun _ _ ⟨x, z⟩ => ⟨x, h.below z⟩
/-- The row that was gathered is done; the next one begins. -/
theorem J0.turn {W : World} (h : J0 W0 N1 v9 L9 vf F v10 L10 W) : J0 W0 W.heap.size v9 L9 v10 L10 (.slice none 0 0) [] W :=
  ⟨h.b, h.b.size, Nat.le_refl _, h.all, ⟨h.row.1, by
    rcases id h.row.2 with x | ⟨g, cap, cur, hv, hge, r⟩
    · exact .inl x
    · exact .inr ⟨g, cap, cur, hv, Nat.le_trans h.n0 hge, r⟩⟩, trsV_nil _ _, fun k hk => (World.ownsRow.lt h.row k hk).2⟩
theorem j0_start (W : World) : J0 W W.heap.size (.slice none 0 0) [] (.slice none 0 0) [] (.slice none 0 0) [] W :=
  ⟨Below.refl _ _, Nat.le_refl _, Nat.le_refl _, dtV_nil _ _, trsV_nil _ _, trsV_nil _ _, fun k hk => by cases hk⟩
end
def LpI (W0 : World) (N1 : Nat) (P La : List (List Tm)) (vf : Value) (F : List (List Tm)) (g : Nat) (s9 s10 s39 : Value) (wr : World) : Prop :=
  ∃ (i : Nat) (A : Option Addr) (c : Nat) (A' : Option Addr) (c' : Nat), i + g = La.length ∧ s39 = .int .i64 i ∧ s9 = .slice A (P ++ goodL (La.take i)).length c ∧ s10 = .slice A' (goodL (La.take i)).length c' ∧
    J0 W0 N1 (.slice A (P ++ goodL (La.take i)).length c) (P ++ goodL (La.take i)) vf F (.slice A' (goodL (La.take i)).length c') (goodL (La.take i)) wr
theorem lp_bad {W0 : World} {N1 : Nat} {P La : List (List Tm)} {vf : Value} {F : List (List Tm)} {g i : Nat} {ts : List Tm} (hig : i + (g + 1) = La.length) (hts : La[i]? = some ts) (hok : okL ts = false) {A A' : Option Addr} {c c' : Nat} {s39 : Value} {W : World}
    (hs : s39 = .int .i64 ((i + 1 : Nat) : Int)) (h : J0 W0 N1 (.slice A (P ++ goodL (La.take i)).length c) (P ++ goodL (La.take i)) vf F (.slice A' (goodL (La.take i)).length c') (goodL (La.take i)) W) :
    LpI W0 N1 P La vf F g (.slice A (P ++ goodL (La.take i)).length c) (.slice A' (goodL (La.take i)).length c') s39 W := by
  have e : goodL (La.take (i + 1)) = goodL (La.take i) := by
    rw [List.take_add_one, hts]
    show goodL (La.take i ++ [ts]) = _
    rw [goodL_snoc, if_neg (by rw [hok]; decide)]
  refine ⟨i + 1, A, c, A', c', by omega, hs, ?_, ?_, ?_⟩
  · rw [e]
  · rw [e]
  · rw [e]; exact h
theorem lp_good {W0 : World} {N1 : Nat} {P La : List (List Tm)} {vf : Value} {F : List (List Tm)} {g i : Nat} {ts : List Tm} (hig : i + (g + 1) = La.length) (hts : La[i]? = some ts) (hok : okL ts = true) {A A' : Option Addr} {c c' : Nat} {s39 : Value} {W : World}
    (hs : s39 = .int .i64 ((i + 1 : Nat) : Int)) (h : J0 W0 N1 (.slice A ((P ++ goodL (La.take i)).length + 1) c) (P ++ goodL (La.take i) ++ [ts]) vf F (.slice A' ((goodL (La.take i)).length + 1) c') (goodL (La.take i) ++ [ts]) W) :
    LpI W0 N1 P La vf F g (.slice A ((P ++ goodL (La.take i)).length + 1) c) (.slice A' ((goodL (La.take i)).length + 1) c') s39 W := by
  have e : goodL (La.take (i + 1)) = goodL (La.take i) ++ [ts] := by
    rw [List.take_add_one, hts]
    show goodL (La.take i ++ [ts]) = _
    rw [goodL_snoc, if_pos hok]
  have e9 : (P ++ goodL (La.take (i + 1))).length = (P ++ goodL (La.take i)).length + 1 := by rw [e, ← List.append_assoc, List.length_append]; rfl
  have e10 : (goodL (La.take (i + 1))).length = (goodL (La.take i)).length + 1 := by rw [e, List.length_append]; rfl
  refine ⟨i + 1, A, c, A', c', by omega, hs, ?_, ?_, ?_⟩
  · rw [e9]
  · rw [e10]
  · rw [e9, e10, e, ← List.append_assoc]; exact h
theorem few_true {l : List Dt} (h : fewB l = true) (hok : ∀ t ∈ l, t.ok) (A : Option Addr) (cap : Nat) (hc : l.length ≤ cap) (hm : cap ≤ maxLen) (w : World) (hs : SlAt w A 12 (l.map Dt.cells)) {W : World} (hb : Below w.heap.size w W) :
    Calls Tryz.prog 11 #[.slice A l.length cap] W fun e w' => ∃ A' c', e = .returned (.tuple #[.slice A' (fewL l).length c', .bool true]) ∧ DtV W.heap.size w' (.slice A' (fewL l).length c') (fewL l) ∧ Below W.heap.size W w' :=
  (nfew_any l hok A cap hc hm W (hs.below hb)).mono fun e w' ⟨v, e1, h1, h2⟩ => by
    obtain ⟨A', c', rfl⟩ := (h1 h).shape
    exact ⟨A', c', by rw [e1, h], h1 h, h2⟩
theorem few_false {l : List Dt} (h : fewB l = false) (hok : ∀ t ∈ l, t.ok) (A : Option Addr) (cap : Nat) (hc : l.length ≤ cap) (hm : cap ≤ maxLen) (w : World) (hs : SlAt w A 12 (l.map Dt.cells)) {W : World} (hb : Below w.heap.size w W) :
    Calls Tryz.prog 11 #[.slice A l.length cap] W fun e w' => ∃ v, e = .returned (.tuple #[v, .bool false]) ∧ Below W.heap.size W w' :=
  (nfew_any l hok A cap hc hm W (hs.below hb)).mono fun e w' ⟨v, e1, h1, h2⟩ => ⟨v, by rw [e1, h], h2⟩
theorem few_any {l : List Dt} (hok : ∀ t ∈ l, t.ok) (A : Option Addr) (cap : Nat) (hc : l.length ≤ cap) (hm : cap ≤ maxLen) (w : World) (hs : SlAt w A 12 (l.map Dt.cells)) {W : World} (hb : Below w.heap.size w W) :
    Calls Tryz.prog 11 #[.slice A l.length cap] W fun e w' => ∃ v, e = .returned (.tuple #[v, .bool (fewB l)]) ∧ Below W.heap.size W w' :=
  (nfew_any l hok A cap hc hm W (hs.below hb)).mono fun e w' ⟨v, e1, h1, h2⟩ => ⟨v, e1, h2⟩
/-- Lines of good triples, behind one another, parsed. -/
theorem parse_lines {F : List (List Tm)} (hF : ∀ ts ∈ F, Sm ts ∧ Gd ts) (hn : F.length ≤ 30) {s : ByteArray} (hs : s = textOf (lnsS F)) (W : World) (t : TypeId) (fr : Nat × Nat) (htab : W.heap[0]? = some (.cells escCells t fr)) :
    Calls Tryz.prog 7 #[.string s] W fun e w' => ∃ A c, e = .returned (.tuple #[.slice A F.length c, .int .i64 0, .int .i64 0]) ∧ TrsV W.heap.size w' (.slice A F.length c) F ∧ Below W.heap.size W w' := by
  have h1 := lns_size F hF
  have hp := nparse_any s (lnsS F) [] (by rw [hs]; exact parts_text (lnsS_all F)) (by rw [hs]; omega) W t fr htab
  rw [prsB_lines F fun ts h => (hF ts h).2] at hp
  exact hp.mono fun e w' ⟨v, e1, h1, h2⟩ => by
    obtain ⟨A, c, rfl⟩ := h1.shape
    exact ⟨A, c, e1, h1, h2⟩
end Go.Proofs.YtpnfjjgihkmjmaaGreatDoor

/-
  THE DOCUMENT's 'Quote' of signs: what the program's Quote writes of their text.
-/
namespace Go.Proofs.YtpnfjjgihkmjmaaGreatDoor
open Go.RowKit
set_option linter.unusedVariables false

def QXI (B : Nat) (w : World) (l : List Int) (g : Nat) (v i : Value) (wr : World) : Prop :=
  ∃ a b, l = a ++ b ∧ b.length = g ∧ i = .int .i64 a.length ∧ U8s B wr v (34 :: escL a) ∧ Below B w wr
theorem qxi_step {B : Nat} {w wr W w5 : World} {l a b : List Int} {n : Int} {g m : Nat} {v v' : Value} {news : List Value} (hl : l = a ++ n :: b) (hg : (n :: b).length = g + 1) (hb : Below B w wr) (hbs : B ≤ wr.heap.size) (hW : Below wr.heap.size wr W) (hWB : B ≤ W.heap.size)
    (hown : w5.ownsRow B 5 1 v' ((34 :: escL a).length + m) (Lib.byteCells (34 :: escL a) ++ news)) (hgr : W.grownBy w5 v.ownBlock) (hv : ∀ k, v.ownBlock = some k → B ≤ k) (hnews : news = Lib.byteCells (esc n)) (hm : m = (esc n).length) :
    QXI B w l g v' (.int .i64 ((a.length : Int) + 1)) w5 := by
  refine ⟨a ++ [n], b, by rw [hl]; simp, by simpa using hg, by simp, ?_, ((hb.trans (hW.mono hbs)).grown hgr hWB hv)⟩
  subst hnews hm
  unfold U8s
  rw [escL_append, escL_one, ← List.cons_append, Lib.byteCells_append, List.length_append]
  exact hown
theorem new_cells {wr : World} {cs : Array Value} {news : List Value} (h : cs.toList = news) : ∀ j u, news[j]? = some u → (wr.alloc (.cells cs 5)).cell? ((⟨wr.heap.size, 0, none⟩ : Addr).add j) = some u := by
  intro j u hj
  have hh : (wr.alloc (.cells cs 5)).heap[wr.heap.size]? = some (.cells cs 5 (0, 0)) := heap_alloc_new _ _
  have ha : (⟨wr.heap.size, 0, none⟩ : Addr).add j = ⟨wr.heap.size, j, none⟩ := by
    by_cases hj0 : j = 0
    · subst hj0; simp [Addr.add]
    · simp [Addr.add, hj0]
  rw [ha, Lib.cell_of_heap hh, ← Array.getElem?_toList, h]
  exact hj

set_option maxHeartbeats 8000000 in
set_option maxRecDepth 100000 in
theorem rquote_any (l : List Int) (hall : AllS l) (hl : l.length ≤ 1000000) (ao : Option Addr) (gc oc cap : Nat) (w : World) (hao : 0 < l.length → ao = some ⟨gc, oc, none⟩ ∧ gc < w.heap.size)
    (hc : ∀ (j : Nat) (x : Int), l[j]? = some x → w.cell? ⟨gc, oc + j, none⟩ = some (.int .i64 x)) :
    Calls Tryz.prog 76 #[.slice ao l.length cap] w fun e w' => e = .returned (.string (quo l)) ∧ Below w.heap.size w w' := by
  have HC := Lib.hid hc
  have HA := Lib.hid hall
  have HO := Lib.hid hao
  obtain ⟨i0, hi, hz0, hz1, hz2⟩ := info_parts byteInfo
  clear hc hall hao
  go_enter Tryz.func76, Tryz.ntmps76
  go_wp2
  go_loopg [4, 11] l.length (fun g v i wr => QXI w.heap.size w l g v i wr)
  case atStart =>
    refine ⟨[], l, rfl, rfl, rfl, ⟨rfl, .inr ⟨w.heap.size, 1, #[.int .u8 34], rfl, Nat.le_refl _, heap_alloc_new _ _, Nat.le_refl _, by unfold maxLen; omega, rfl, rfl⟩⟩, (Below.refl _ _).alloc (Nat.le_refl _) _⟩
  case round =>
    obtain ⟨a, b, hab, hbl, rfl, hU, hbw⟩ := hrel
    obtain ⟨av, cv, rfl⟩ := u8s_shape hU
    have hla : a.length + b.length = l.length := by rw [hab]; simp
    have hen := escL_len a
    have HAB := Lib.hid hab
    have HBL := Lib.hid hbl
    have hbs := hbw.size
    cases gk with
    | zero =>
      obtain rfl : b = [] := List.length_eq_zero_iff.1 hbl
      have hal : a.length = l.length := by simp at hla; omega
      have hge : ¬ ((a.length : Int) < (l.length : Int)) := by omega
      have HU := Lib.hid hU
      have hla2 : l = a := by rw [hab, List.append_nil]
      have HLA := Lib.hid hla2
      have hal2 : a.length ≤ 1000000 := by omega
      clear hab hbl hla hal hla2
      go_wp2_with (at_builtin; refine wpList_append_own _ rfl _ _ 92 rfl w.heap.size 5 i0 (.int .u8 0) 1 1 Tryz.underlying92 hi hz0 hz1 hz2 rfl (by decide) _ _ _ rfl (World.ownsRow.alloc hU _) ⟨wr.heap.size, 0, none⟩ 1 1 [.int .u8 34] rfl rfl ?z1 ?z2 ?z3 ?z4 ?z5 ?_)
      case z2 => first | rfl | (intro u hu; simp at hu; subst hu; rfl)
      case z3 => unfold maxLen; simp; omega
      case z4 => first | omega | (simp; omega)
      case z5 => first | omega | (simp; omega)
      intro v' w5 hown' hgrow' _
      have hU5 : U8s w.heap.size w5 v' (quoteL a) := by
        unfold U8s quoteL
        rw [List.length_append, Lib.byteCells_append]
        exact hown'
      have hcv := bytes_text hU5
      obtain ⟨av5, cv5, rfl⟩ := u8s_shape hU5
      have hb5 : Below w.heap.size w w5 := (hbw.alloc hbs _).grown hgrow' (by simp; omega) (fun k hk => (World.ownsRow.lt HU.out k hk).1)
      have hres : (⟨(quoteL a).toArray⟩ : ByteArray) = quo l := by rw [HLA.out]; rfl
      rw [hres] at hcv
      clear hown' hgrow' hU5 hU hres
      go_wp2
      go_ret
      exact ⟨rfl, hb5⟩
    | succ g =>
      obtain ⟨n, b', rfl⟩ : ∃ n b', b = n :: b' := by
        match b, hbl with
        | n :: b', _ => exact ⟨n, b', rfl⟩
      have hlt : (a.length : Int) < (l.length : Int) := by simp at hla; omega
      have hn : l[a.length]? = some n := by rw [hab]; simp
      obtain ⟨rfl, hgc⟩ := HO.out (by simp at hla; omega)
      have hcell : wr.cell? ⟨gc, oc + a.length, none⟩ = some (.int .i64 n) := (hbw.cell (p := ⟨gc, oc + a.length, none⟩) hgc).trans (HC.out _ _ hn)
      have hsg := HA.out n (List.mem_of_getElem? hn)
      have HSG := Lib.hid hsg
      have hB := bytes_any n hsg wr
      have HU := Lib.hid hU
      have hvk : ∀ k, (Value.slice av (34 :: escL a).length cv).ownBlock = some k → w.heap.size ≤ k := fun k hk => (World.ownsRow.lt hU k hk).1
      have HVK := Lib.hid hvk
      clear hab hbl hla hn hsg hvk
      by_cases hlt0 : lett n = 0
      · by_cases hc4 : cls n = 4
        · have e1 : (lett n == 0) = true := by simpa using hlt0
          have e1' : (lett n != 0) = false := by simpa using hlt0
          have e2 : (cls n == 4) = true := by simpa using hc4
          have hr4 := cls4_range n hc4
          have hes4 : esc n = numL n := by unfold esc; rw [if_neg (by simpa using hlt0), if_pos hc4]
          have HES4 : Hid ([Value.int .u8 92, .int .u8 117, .int .u8 48, .int .u8 48, .int .u8 ((hexd (n / 16)).toNat : Int), .int .u8 ((hexd (n % 16)).toNat : Int)] = Lib.byteCells (esc n)) := Lib.hid (by rw [hes4]; rfl)
          have HEL4 : Hid (6 = (esc n).length) := Lib.hid (by rw [hes4]; rfl)
          clear hlt0 hc4 hes4
          go_wp2_with (first
            | (go_at_call 94; (with_reducible refine (refLetter_any n _).mono ?_); rintro e w' ⟨rfl, rfl⟩)
            | (go_at_call 88; (with_reducible refine (refClass_any n _).mono ?_); rintro e w' ⟨rfl, rfl⟩))
          have q0 : (0 : Int) ≤ n / 16 := by omega
          have q1 : n / 16 < 16 := by omega
          have q2 : (0 : Int) ≤ n % 16 := by omega
          have q3 : n % 16 < 16 := by omega
          have d2 := hexd_atZ (n / 16) (by omega) (by omega)
          have d3 := hexd_atZ (n % 16) (by omega) (by omega)
          have t1 : n.tdiv 16 = n / 16 := Int.tdiv_eq_ediv_of_nonneg hr4.1
          have t2 : n.tmod 16 = n % 16 := Int.tmod_eq_emod_of_nonneg hr4.1
          have t3 : IntKind.i64.wrap (n / 16) = n / 16 := IntWalk.i64_in _ (by omega)
          have t4 : IntKind.i64.wrap (n % 16) = n % 16 := IntWalk.i64_in _ (by omega)
          have hn1 : ∀ j u, [Value.int .u8 92, .int .u8 117, .int .u8 48, .int .u8 48, .int .u8 ((hexd (n / 16)).toNat : Int), .int .u8 ((hexd (n % 16)).toNat : Int)][j]? = some u → (wr.alloc (.cells #[Value.int .u8 92, .int .u8 117, .int .u8 48, .int .u8 48, .int .u8 ((hexd (n / 16)).toNat : Int), .int .u8 ((hexd (n % 16)).toNat : Int)] 5)).drew.cell? ((⟨wr.heap.size, 0, none⟩ : Addr).add j) = some u := new_cells rfl
          have hn2 : ∀ u ∈ [Value.int .u8 92, .int .u8 117, .int .u8 48, .int .u8 48, .int .u8 ((hexd (n / 16)).toNat : Int), .int .u8 ((hexd (n % 16)).toNat : Int)], u.oneCell' = true := by
            intro u hu
            simp at hu
            rcases hu with rfl | rfl | rfl | rfl | rfl <;> rfl
          have hown0 := (World.ownsRow.alloc hU (.cells #[Value.int .u8 92, .int .u8 117, .int .u8 48, .int .u8 48, .int .u8 ((hexd (n / 16)).toNat : Int), .int .u8 ((hexd (n % 16)).toNat : Int)] 5)).drew
          have N1 := Lib.hid hn1
          have N2 := Lib.hid hn2
          have N0 := Lib.hid hown0
          have hsz1 : (34 :: escL a).length + 6 ≤ 10000000 := by simp; omega
          have N3 := Lib.hid hsz1
          clear hn1 hn2 hown0 hU hsz1
          go_region_law (refine step_append_lies _ rfl (.tmp 29) (.tmp 38) 92 rfl w.heap.size 5 i0 (.int .u8 0) 1 1 Tryz.underlying92 hi hz0 hz1 hz2 rfl (by decide) (.slice av (34 :: escL a).length cv) (34 :: escL a).length (Lib.byteCells (34 :: escL a)) (by simp [Act.eval]) N0.out ⟨wr.heap.size, 0, none⟩ 6 6 [Value.int .u8 92, .int .u8 117, .int .u8 48, .int .u8 48, .int .u8 ((hexd (n / 16)).toNat : Int), .int .u8 ((hexd (n % 16)).toNat : Int)] (by simp [Act.eval]) rfl N1.out N2.out (by decide) (by have := N3.out; unfold maxLen; omega) (by have := N3.out; omega) (by simp; omega) (wr.heap.size + 1) (by simp) ?_; intro g5 cap5 w5 hown' hgrow' _ _)
          all_goals
            have hfin := qxi_step (v := .slice av (34 :: escL a).length cv) HAB.out HBL.out hbw hbs (((Below.refl _ _).alloc (Nat.le_refl _) _).drew) (by simp; omega) hown' hgrow' HVK.out HES4.out HEL4.out
            have HF := Lib.hid hfin
            clear hfin hown' hgrow'
            go_wp2
            go_roundg g
            case measure => omega
            case rel => exact HF.out
        · have e1 : (lett n == 0) = true := by simpa using hlt0
          have e1' : (lett n != 0) = false := by simpa using hlt0
          have e2 : (cls n == 4) = false := by simpa using hc4
          have hes : Lib.runeCells n = Lib.byteCells (esc n) := by unfold esc; rw [if_neg (by simpa using hlt0), if_neg hc4, Lib.byteCells_encodeRune]
          have hel : (Lib.encodeRune n).length = (esc n).length := by unfold esc; rw [if_neg (by simpa using hlt0), if_neg hc4]
          have HES := Lib.hid hes
          have HEL := Lib.hid hel
          have hk := enc_len n
          clear hlt0 hc4 hes hel
          go_wp2_with (first
            | (go_at_call 94; (with_reducible refine (refLetter_any n _).mono ?_); rintro e w' ⟨rfl, rfl⟩)
            | (go_at_call 88; (with_reducible refine (refClass_any n _).mono ?_); rintro e w' ⟨rfl, rfl⟩)
            | (go_at_call 78; (with_reducible refine hB.mono ?_); rintro e w2 ⟨rfl, rfl⟩)
            | (at_builtin; refine wpList_append_own _ rfl _ _ 92 rfl w.heap.size 5 i0 (.int .u8 0) 1 1 Tryz.underlying92 hi hz0 hz1 hz2 rfl (by decide) _ _ _ rfl (World.ownsRow.alloc hU _) ⟨wr.heap.size, 0, none⟩ (Lib.encodeRune n).length (Lib.encodeRune n).length (Lib.runeCells n) rfl ?c0 ?c1 ?c2 ?c3 ?c4 ?c5 ?_))
          case c0 => rw [Lib.runeCells_length, Nat.mul_one]
          case c1 => exact new_cells (by simp [rowOf])
          case c2 =>
            intro u hu
            simp only [Lib.runeCells, List.mem_map] at hu
            obtain ⟨x, _, rfl⟩ := hu
            rfl
          case c3 => unfold maxLen; simp; omega
          case c4 => simp; omega
          case c5 => simp; omega
          intro v' w5 hown' hgrow' _
          have hfin := qxi_step (v := .slice av (34 :: escL a).length cv) HAB.out HBL.out hbw hbs ((Below.refl _ _).alloc (Nat.le_refl _) _) (by simp; omega) hown' hgrow' HVK.out HES.out HEL.out
          have HF := Lib.hid hfin
          clear hfin hown' hgrow' hU
          go_wp2
          go_roundg g
          case measure => omega
          case rel => exact HF.out
      · have e1 : (lett n == 0) = false := by simpa using hlt0
        have e1' : (lett n != 0) = true := by simpa using hlt0
        have hlr := lett_range n hlt0
        have hes : [Value.int .u8 92, .int .u8 (lett n)] = Lib.byteCells (esc n) := by
          unfold esc
          rw [if_pos hlt0]
          have : (((lett n).toNat.toUInt8).toNat : Int) = lett n := by rw [u8n _ hlr.1 (by omega)]; omega
          simp only [Lib.byteCells, List.map_cons, List.map_nil, this]
          rfl
        have hel : 2 = (esc n).length := by unfold esc; rw [if_pos hlt0]; rfl
        have HES := Lib.hid hes
        have HEL := Lib.hid hel
        clear hlt0 hes hel
        go_wp2_with (first
          | (go_at_call 94; (with_reducible refine (refLetter_any n _).mono ?_); rintro e w' ⟨rfl, rfl⟩)
          | (at_builtin; refine wpList_append_own _ rfl _ _ 92 rfl w.heap.size 5 i0 (.int .u8 0) 1 1 Tryz.underlying92 hi hz0 hz1 hz2 rfl (by decide) _ _ _ rfl (World.ownsRow.alloc hU _) ⟨wr.heap.size, 0, none⟩ 2 2 [.int .u8 92, .int .u8 (lett n)] rfl rfl ?y1 ?y2 ?y3 ?y4 ?y5 ?_))
        case y1 => exact new_cells rfl
        case y2 => intro u hu; simp at hu; rcases hu with rfl | rfl <;> rfl
        case y3 => unfold maxLen; simp; omega
        case y4 => simp; omega
        case y5 => simp; omega
        intro v' w5 hown' hgrow' _
        have hfin := qxi_step (v := .slice av (34 :: escL a).length cv) HAB.out HBL.out hbw hbs ((Below.refl _ _).alloc (Nat.le_refl _) _) (by simp; omega) hown' hgrow' HVK.out HES.out HEL.out
        have HF := Lib.hid hfin
        clear hfin hown' hgrow' hU
        go_wp2
        go_roundg g
        case measure => omega
        case rel => exact HF.out
end Go.Proofs.YtpnfjjgihkmjmaaGreatDoor
