/-
  MERGED (a claim has at most 60 files): NgDn, NgBl, NgDp.
-/
import Derived.Test.YtghlajfalgdkfaaZ09
import Derived.Test.YtghlajfalgdkfaaZ01
import Derived.LaidEqlPtr
import Derived.Deep.QuietTactic
import Derived.Maps.RangeRun
/-
  Levels of any path: plain; keys that are pointers.
-/
namespace Go.Proofs.Ytghlajfalgdkfaa
open Go.RowKit
set_option linter.unusedVariables false
set_option linter.unusedSimpArgs false
set_option maxRecDepth 100000

theorem rowP_fun {W : World} {s s' : Value} {ps ps' : List Pa} (h : RowP W s ps) (h' : RowP W s' ps') {g n n' c c' : Nat} (hs : s = .slice (some ⟨g, 0, none⟩) n c) (hs' : s' = .slice (some ⟨g, 0, none⟩) n' c') (hn : n ≤ n') : ps = ps'.take n := by
  rcases h with ⟨rfl, A, c2, e⟩ | ⟨g1, c1, cs, e1, e2, e3⟩
  · rw [hs] at e
    have := (Value.slice.inj e).2.1
    subst this
    simp
  · rcases h' with ⟨rfl, A, c2, e⟩ | ⟨g1', c1', cs', e1', e2', e3'⟩
    · rw [hs'] at e
      have h0 := (Value.slice.inj e).2.1
      rw [hs] at e1
      have h1 := (Value.slice.inj e1).2.1
      have : ps = [] := List.length_eq_zero_iff.1 (by omega)
      subst this
      simp
    · rw [hs] at e1
      rw [hs'] at e1'
      obtain ⟨a1, a2, a3⟩ := Value.slice.inj e1
      obtain ⟨b1, b2, b3⟩ := Value.slice.inj e1'
      have hg : g1 = g := by simpa using a1.symm
      have hg' : g1' = g := by simpa using b1.symm
      subst hg hg'
      have hcs : cs = cs' := by
        unfold Fb at e2 e2'
        rw [e2] at e2'
        injection e2' with e2'
        injection e2'
      subst hcs
      refine List.ext_getElem? fun j => ?_
      rw [List.getElem?_take]
      by_cases hj : j < n
      · rw [if_pos hj]
        have k1 := List.getElem?_eq_getElem (show j < ps.length by omega)
        have k2 := List.getElem?_eq_getElem (show j < ps'.length by omega)
        obtain ⟨x1, x2, x3⟩ := e3 j _ k1
        obtain ⟨y1, y2, y3⟩ := e3' j _ k2
        rw [k1, k2]
        rw [x1] at y1
        rw [x2] at y2
        rw [x3] at y3
        have z1 : ps[j].kd = ps'[j].kd := by simpa using y1
        have z2 : ps[j].n = ps'[j].n := by simpa using y2
        have z3 : ps[j].s = ps'[j].s := by simpa using y3
        generalize ps[j] = a at z1 z2 z3 ⊢
        generalize ps'[j] = b at z1 z2 z3 ⊢
        cases a
        cases b
        simp_all
      · rw [if_neg hj]
        exact List.getElem?_eq_none (by omega)
theorem pth_fun {W : World} : ∀ (t t' : PT) (p : Pa), Pth W t p → Pth W t' p → t = t' := by
  refine PT.ind fun k n ts ih t' p h h' => ?_
  cases t' with
  | mk k' n' ts' =>
    unfold Pth at h h'
    obtain ⟨h1, h2, ps, h3, h4⟩ := h
    obtain ⟨h1', h2', ps', h3', h4'⟩ := h'
    obtain ⟨e, hof⟩ := Pths.of h4
    obtain ⟨e', hof'⟩ := Pths.of h4'
    have hps : ps = ps' := by
      obtain ⟨A, c, e1, e2⟩ := h3.shape
      obtain ⟨A', c', e1', e2'⟩ := h3'.shape
      have hl : ps.length = ps'.length := by
        rw [e1] at e1'
        exact (Value.slice.inj e1').2.1
      rcases e2 with rfl | ⟨g, rfl⟩
      · exact (List.length_eq_zero_iff.1 (by simpa using hl.symm)).symm
      · have hA : A' = some ⟨g, 0, none⟩ := by
          rw [e1] at e1'
          exact (Value.slice.inj e1').1.symm
        subst hA
        have := rowP_fun h3 h3' e1 e1' (by omega)
        rw [hl, List.take_length] at this
        exact this
    subst hps
    have hts : ts = ts' := by
      refine List.ext_getElem? fun j => ?_
      by_cases hj : j < ts.length
      · have k1 := List.getElem?_eq_getElem hj
        have k2 := List.getElem?_eq_getElem (show j < ts'.length by omega)
        have k3 := List.getElem?_eq_getElem (show j < ps.length by omega)
        rw [k1, k2]
        exact congrArg some (ih _ (List.getElem_mem hj) _ _ (hof j _ _ k1 k3) (hof' j _ _ k2 k3))
      · rw [List.getElem?_eq_none (by omega), List.getElem?_eq_none (by omega)]
    subst hts
    rw [← h1, ← h2, ← h1', ← h2']
/-- A row of trees. -/
def RwT (W : World) (v : Value) (ts : List PT) : Prop := ∃ ps, RowP W v ps ∧ Pths W ts ps
theorem RwT.below {W W' : World} {v : Value} {ts : List PT} (h : RwT W v ts) (hb : Below W.heap.size W W') : RwT W' v ts := by
  obtain ⟨ps, h1, h2⟩ := h
  exact ⟨ps, h1.keep fun g cs hf => hf.below hb, Pths.mk (Pths.of h2).1 fun j t p a b => ((Pths.of h2).2 j t p a b).below hb⟩
/-- Of two rows that begin at one place the shorter one's trees are the longer one's first ones. -/
theorem rwT_pre {W : World} {g n n' c c' : Nat} {ts ts' : List PT} (h : RwT W (.slice (some ⟨g, 0, none⟩) n c) ts) (h' : RwT W (.slice (some ⟨g, 0, none⟩) n' c') ts') (hn : n ≤ n') : ∀ u ∈ ts, u ∈ ts' := by
  obtain ⟨ps, h1, h2⟩ := h
  obtain ⟨ps', h1', h2'⟩ := h'
  obtain ⟨e, hof⟩ := Pths.of h2
  obtain ⟨e', hof'⟩ := Pths.of h2'
  have hp := rowP_fun h1 h1' rfl rfl hn
  intro u hu
  obtain ⟨j, hj⟩ := List.mem_iff_getElem?.1 hu
  have hjl := (List.getElem?_eq_some_iff.1 hj).1
  have k1 := List.getElem?_eq_getElem (show j < ps.length by omega)
  have hjn : j < (ps'.take n).length := by rw [← hp]; omega
  have hjn' : j < ps'.length := by rw [List.length_take] at hjn; omega
  have hjn2 : j < n := by rw [List.length_take] at hjn; omega
  have k2 := List.getElem?_eq_getElem hjn'
  have hpe : ps'[j]? = some ps[j] := by
    rw [← k1, hp, List.getElem?_take, if_pos hjn2]
  have k3 := List.getElem?_eq_getElem (show j < ts'.length by omega)
  have : u = ts'[j] := pth_fun _ _ _ (hof j u _ hj k1) (hof' j _ _ k3 hpe)
  rw [this]
  exact List.getElem_mem _
def pts : PT → List PT
  | .mk _ _ ts => ts
/-- A key that is told apart: nil, or a row of paths. -/
def gdK (W : World) (k : Option Nat) : Prop := ∀ b, k = some b → ∃ cs, Fb W b 28 cs
theorem gdK.below {W W' : World} {k : Option Nat} (h : gdK W k) (hb : Below W.heap.size W W') : gdK W' k := fun b hk => by
  obtain ⟨cs, hc⟩ := h b hk
  exact ⟨cs, hc.below hb⟩
theorem pathSize : (Try.prog.info? 28).map (·.size) = some 3 := by kernel_rfl
theorem upP : Try.prog.underlying 111 = some (.pointer 28) := by kernel_rfl
set_option maxHeartbeats 4000000 in
theorem ptrEq {W : World} {a b : Option Nat} (ha : gdK W a) (hb : gdK W b) : (Op.equal 111 (ptE a) (ptE b)).run Try.prog W = .ok (decide (a = b)) W := by
  obtain ⟨j, hj⟩ : ∃ j, Try.prog.info? 28 = some j := Option.isSome_iff_exists.1 (by kernel_rfl)
  have hsz : j.size ≠ 0 := by
    have := pathSize
    rw [hj] at this
    have : j.size = 3 := by simpa using this
    omega
  have hn1 : ∀ (d : Nat) (q : Option Addr), (Op.equalIn (d + 1) 111 (.pointer none) (.pointer q)).run Try.prog W = .ok q.isNone W := fun d q => by
    cases q <;> simp [Op.equalIn, run_underlying upP]
  have hn2 : ∀ (d : Nat) (p : Addr), (Op.equalIn (d + 1) 111 (.pointer (some p)) (.pointer none)).run Try.prog W = .ok false W := fun d p => by
    simp [Op.equalIn, run_underlying upP]
  have hE : ∀ x y : Value, (Op.equal 111 x y) = Op.equalIn (9999 + 1) 111 x y := fun _ _ => rfl
  rw [hE]
  cases a with
  | none =>
    cases b with
    | none => exact hn1 9999 none
    | some y => exact hn1 9999 _
  | some x =>
    cases b with
    | none => exact hn2 9999 _
    | some y =>
      by_cases h : x = y
      · subst h
        have h9 : ∀ d : Nat, (Op.equalIn (d + 1) 111 (.pointer (some ⟨x, 0, none⟩)) (.pointer (some ⟨x, 0, none⟩))).run Try.prog W = .ok true W := fun d => by
          simp [Op.equalIn, run_underlying upP, sizeOf, typeInfo, hj, run_sameAddr_same]
        rw [decide_eq_true rfl]
        exact h9 9999
      · obtain ⟨ca, hca⟩ := ha x rfl
        obtain ⟨cb, hcb⟩ := hb y rfl
        have hne : (⟨x, 0, none⟩ : Addr) ≠ ⟨y, 0, none⟩ := fun e => h (congrArg Addr.block e)
        have h9 : ∀ d : Nat, (Op.equalIn (d + 1) 111 (.pointer (some ⟨x, 0, none⟩)) (.pointer (some ⟨y, 0, none⟩))).run Try.prog W = .ok false W := fun d => by
          simp [Op.equalIn, run_underlying upP, sizeOf, typeInfo, hj, hsz, run_sameAddr_other W hne hca hcb]
        rw [decide_eq_false (by simpa using h)]
        exact h9 9999
abbrev Ent := Option Nat × (Value × List PT)
def encT (x : Value × List PT) : Value := x.1
theorem findP {W : World} {k : Option Nat} (hk : gdK W k) {E : List Ent} (hE : ∀ x ∈ E, gdK W x.1) {es : List MapEntry} (h : es.map kv = E.map (ce ptE encT)) : (Instr.findKey 111 (ptE k) es).run Try.prog W = .ok ((posM k E).map fun q => (q.1, encT q.2)) W := by
  have ask : ∀ (E : List Ent) (es : List MapEntry) (i : Nat), (∀ x ∈ E, gdK W x.1) → es.map kv = E.map (ce ptE encT) → (Instr.findAsking 111 (ptE k) es i).run Try.prog W = .ok ((posM k E).map fun q => (i + q.1, encT q.2)) W := by
    intro E
    induction E with
    | nil =>
      intro es i _ h
      cases es with
      | nil => simp [Instr.findAsking, posM]
      | cons e es => simp at h
    | cons p E ih =>
      intro es i hE h
      cases es with
      | nil => simp at h
      | cons e es =>
        simp only [List.map_cons, List.cons.injEq, kv, ce, Prod.mk.injEq] at h
        obtain ⟨⟨h1, h2⟩, h3⟩ := h
        have hv := ptrEq hk (hE p (List.mem_cons_self ..))
        by_cases hp : p.1 = k
        · rw [decide_eq_true hp.symm] at hv
          rw [← h1] at hv
          simp only [Instr.findAsking, Sem.run_bind, hv, posM, hp, Result.andThen, if_true]
          simp [h2]
        · rw [decide_eq_false (fun e => hp e.symm)] at hv
          rw [← h1] at hv
          simp [Instr.findAsking, hv, posM, hp, Result.andThen, ih es (i + 1) (fun x hx => hE x (List.mem_cons_of_mem _ hx)) h3]
          cases posM k E with
          | none => rfl
          | some q => simp; omega
  have ha := ask E es 0 hE h
  simp only [Nat.zero_add] at ha
  have hs : ∀ a b : Option Nat, Instr.sameNow (.pointer 28) (ptE a) (ptE b) = none := fun a b => rfl
  cases es with
  | nil =>
    cases E with
    | nil => simp [Instr.findKey, run_underlying upP, Instr.findNow, posM, Result.andThen]
    | cons p E => simp at h
  | cons e es =>
    cases E with
    | nil => simp at h
    | cons p E =>
      have h' := h
      simp only [List.map_cons, List.cons.injEq, kv, ce, Prod.mk.injEq] at h
      have hs' : Instr.sameNow (.pointer 28) (ptE k) e.key = none := by rw [h.1.1]; exact hs k p.1
      simp [Instr.findKey, run_underlying upP, Instr.findNow, hs', ha, Result.andThen]
theorem zeroP (w : World) : (zeroValue 26).run Try.prog w = .ok (.slice none 0 0) w := by kernel_rfl
theorem stayP (k : Option Nat) (w : World) : (Instr.keyThatStays (ptE k) (ptE k)).run Try.prog w = .ok (ptE k) w := by
  cases k <;> simp [Instr.keyThatStays, Instr.sameBits, ptE]
theorem lookP {W : World} {m : Nat} {E : List Ent} (h : Mq ptE encT W m E) {k : Option Nat} (hk : gdK W k) (hE : ∀ x ∈ E, gdK W x.1) :
    (Instr.lookup 100 (.map (some m)) (ptE k) false).run Try.prog W = .ok (((getM k E).map encT).getD (.slice none 0 0)) W := by
  obtain ⟨es, clock, hb, he, _⟩ := h
  have hf := findP hk hE he
  rw [get_pos]
  cases hp : posM k E with
  | none =>
    rw [hp] at hf
    simp [Instr.lookup, run_underlying mapP, MapKept.run_getObj_map hb, ckP, hf, zeroP, Result.andThen]
  | some q =>
    rw [hp] at hf
    simp [Instr.lookup, run_underlying mapP, MapKept.run_getObj_map hb, ckP, hf, Result.andThen]
theorem updP {W : World} {m : Nat} {E : List Ent} (h : Mq ptE encT W m E) {k : Option Nat} (hk : gdK W k) (hE : ∀ x ∈ E, gdK W x.1) (v : Value × List PT) :
    ∃ o, (Instr.mapUpdate 100 (.map (some m)) (ptE k) (encT v)).run Try.prog W = .ok () (putBlock W m o) ∧ ∀ W2 : World, m < W2.heap.size → Mq ptE encT (putBlock W2 m o) m (putM k v E) := by
  obtain ⟨es, clock, hb, he, hn, hc⟩ := h
  have hf := findP hk hE he
  cases hp : posM k E with
  | none =>
    rw [hp] at hf
    refine ⟨.map (es.push { key := ptE k, val := encT v, born := clock }) (clock + 1), ?_, fun W2 hm => ⟨_, _, putBlock_at (Array.getElem?_eq_getElem hm), ?_, ?_, ?_⟩⟩
    · simp [Instr.mapUpdate, run_underlying mapP, MapKept.run_getObj_map hb, ckP, hf, MapKept.run_setObj_map _ hb, Result.andThen, putBlock]
    · rw [put_none v hp]; simp [he, kv, ce]
    · simp only [Array.toList_push, List.map_append, List.map_cons, List.map_nil]
      refine List.nodup_append.2 ⟨hn, by simp, fun a ha c hcc e1 => ?_⟩
      simp only [List.mem_singleton] at hcc
      obtain ⟨x, hx, rfl⟩ := List.mem_map.1 ha
      have := hc x hx
      omega
    · intro x hx
      simp only [Array.toList_push, List.mem_append, List.mem_singleton] at hx
      rcases hx with hx | rfl
      · have := hc x hx; omega
      · exact Nat.lt_succ_self _
  | some q =>
    obtain ⟨j, u⟩ := q
    rw [hp] at hf
    obtain ⟨e0, h0, h1, h2⟩ := entry_at he hp
    have h0' : es.toList[j]? = some e0 := by simpa using h0
    have hmod : (es.modify j fun e => { e with key := ptE k, val := encT v }).toList = es.toList.set j { e0 with key := ptE k, val := encT v } := by rw [Array.toList_modify, modify_set _ _ _ _ h0']
    refine ⟨.map (es.modify j fun e => { e with key := ptE k, val := encT v }) clock, ?_, fun W2 hm => ⟨_, _, putBlock_at (Array.getElem?_eq_getElem hm), ?_, ?_, ?_⟩⟩
    · simp [Instr.mapUpdate, run_underlying mapP, MapKept.run_getObj_map hb, ckP, stayP, hf, h0, h1, MapKept.run_setObj_map _ hb, Result.andThen, putBlock]
    · rw [hmod, map_set, he, put_some v hp, map_set]; rfl
    · rw [hmod, map_set, set_same _ _ _ (by rw [List.getElem?_map, h0']; rfl)]; exact hn
    · intro x hx
      rw [hmod] at hx
      rcases List.mem_or_eq_of_mem_set hx with hx | rfl
      · exact hc x hx
      · exact hc e0 (List.mem_of_getElem? h0')
/-- What is in a map behind a put: what was there, but for what had that key first. -/
theorem put_mem {α β : Type} [DecidableEq α] {k : α} {v : β} : ∀ {E : List (α × β)} {x : α × β}, x ∈ putM k v E → x = (k, v) ∨ x ∈ E
  | [], x, h => by
    unfold putM at h
    exact .inl (by simpa using h)
  | p :: E, x, h => by
    unfold putM at h
    by_cases hp : p.1 = k
    · rw [if_pos hp] at h
      rcases List.mem_cons.1 h with h | h
      · left; rw [h, hp]
      · exact .inr (List.mem_cons_of_mem _ h)
    · rw [if_neg hp] at h
      rcases List.mem_cons.1 h with h | h
      · exact .inr (h ▸ List.mem_cons_self ..)
      · exact (put_mem h).imp id (List.mem_cons_of_mem _)
theorem put_has {α β : Type} [DecidableEq α] {k : α} {v : β} : ∀ {E : List (α × β)}, ∃ k', (k', v) ∈ putM k v E ∧ k' = k
  | [] => ⟨k, by unfold putM; simp, rfl⟩
  | p :: E => by
    unfold putM
    by_cases hp : p.1 = k
    · rw [if_pos hp]; exact ⟨p.1, List.mem_cons_self .., hp⟩
    · rw [if_neg hp]
      obtain ⟨k', h1, h2⟩ := put_has (k := k) (v := v) (E := E)
      exact ⟨k', List.mem_cons_of_mem _ h1, h2⟩
theorem put_keep {α β : Type} [DecidableEq α] {k : α} {v : β} : ∀ {E : List (α × β)} {x : α × β}, x ∈ E → x ∈ putM k v E ∨ getM k E = some x.2
  | [], x, h => by cases h
  | p :: E, x, h => by
    unfold putM getM
    by_cases hp : p.1 = k
    · rw [if_pos hp, if_pos hp]
      rcases List.mem_cons.1 h with h | h
      · right; rw [h]
      · left; exact List.mem_cons_of_mem _ h
    · rw [if_neg hp, if_neg hp]
      rcases List.mem_cons.1 h with h | h
      · left; rw [h]; exact List.mem_cons_self ..
      · exact (put_keep h).imp (List.mem_cons_of_mem _) id
theorem get_mem {α β : Type} [DecidableEq α] {k : α} : ∀ {E : List (α × β)} {v : β}, getM k E = some v → (k, v) ∈ E
  | [], v, h => by cases h
  | p :: E, v, h => by
    unfold getM at h
    by_cases hp : p.1 = k
    · rw [if_pos hp] at h
      injection h with h
      rw [← h, ← hp]
      exact List.mem_cons_self ..
    · rw [if_neg hp] at h
      exact List.mem_cons_of_mem _ (get_mem h)
end Go.Proofs.Ytghlajfalgdkfaa

/-
  below: the lists of parts of a level, any.
-/
namespace Go.Proofs.Ytghlajfalgdkfaa
open Go.RowKit
set_option linter.unusedVariables false
set_option linter.unusedSimpArgs false
set_option maxRecDepth 100000

/-- All lists of paths stay. -/
def Kt (W W' : World) : Prop := ∀ g cs, Fb W g 28 cs → Fb W' g 28 cs
theorem Kt.below {W W' : World} (hb : Below W.heap.size W W') : Kt W W' := fun g cs hf => hf.below hb
theorem Kt.trans {W W' W'' : World} (h : Kt W W') (h' : Kt W' W'') : Kt W W'' := fun g cs hf => h' g cs (h g cs hf)
theorem RwT.kt {W W' : World} (hk : Kt W W') {v : Value} {ts : List PT} (h : RwT W v ts) : RwT W' v ts := by
  obtain ⟨ps, h1, h2⟩ := h
  exact ⟨ps, h1.keep hk, Pths.mk (Pths.of h2).1 fun j t p a b => Pth.keep hk t p ((Pths.of h2).2 j t p a b)⟩
theorem gdK.kt {W W' : World} (hk : Kt W W') {k : Option Nat} (h : gdK W k) : gdK W' k := fun b e => by
  obtain ⟨cs, hc⟩ := h b e
  exact ⟨cs, hk b cs hc⟩
/-- A level's lists. -/
structure Lvr (W : World) (D : PT → Prop) (E : List Ent) : Prop where
  r : ∀ x ∈ E, RwT W x.2.1 x.2.2 ∧ x.2.2 ≠ [] ∧ x.2.2.length ≤ 1000 ∧ ∀ u ∈ x.2.2, D u ∧ Wd u
  k : ∀ x ∈ E, gdK W x.1 ∧ ∀ b, x.1 = some b → ∃ n c, x.2.1 = .slice (some ⟨b, 0, none⟩) n c
theorem Lvr.kt {W W' : World} {D : PT → Prop} {E : List Ent} (hk : Kt W W') (h : Lvr W D E) : Lvr W' D E := ⟨fun x hx => by
  obtain ⟨h1, h2⟩ := h.r x hx
  exact ⟨h1.kt hk, h2⟩, fun x hx => by
  obtain ⟨h1, h2⟩ := h.k x hx
  exact ⟨h1.kt hk, h2⟩⟩
def Cv (E' : List Ent) (u : PT) : Prop := ∀ u' ∈ pts u, ∃ y ∈ E', u' ∈ y.2.2
def nx (D : PT → Prop) : PT → Prop := fun u' => ∃ u, D u ∧ u' ∈ pts u
theorem fake {W : World} {A : Option Addr} {n c : Nat} {ts : List PT} (h : RwT W (.slice A n c) ts) : Pth W (.mk 0 0 ts) ⟨0, 0, .slice A n c⟩ := by
  obtain ⟨ps, h1, h2⟩ := h
  unfold Pth
  exact ⟨rfl, rfl, ps, h1, h2⟩
theorem RwT.shape {W : World} {v : Value} {ts : List PT} (h : RwT W v ts) : ∃ A c, v = .slice A ts.length c := by
  obtain ⟨ps, h1, h2⟩ := h
  obtain ⟨A, c, e, _⟩ := h1.shape
  exact ⟨A, c, by rw [e, (Pths.of h2).1]⟩
theorem pth_row {W : World} {u : PT} {kd nn : Int} {A : Option Addr} {m c : Nat} (h : Pth W u ⟨kd, nn, .slice A m c⟩) : RwT W (.slice A m c) (pts u) ∧ m = (pts u).length ∧ (m ≠ 0 → ∃ b cs, A = some ⟨b, 0, none⟩ ∧ Fb W b 28 cs) := by
  cases u with
  | mk k n ts =>
    have hm := (pth_part h).2.2.1
    unfold Pth at h
    obtain ⟨_, _, ps, h3, h4⟩ := h
    refine ⟨⟨ps, h3, h4⟩, hm, fun h0 => ?_⟩
    rcases h3 with ⟨rfl, _⟩ | ⟨g, c', cs, e1, e2, _⟩
    · have := (Pths.of h4).1
      simp at this
      rw [hm, this] at h0
      exact absurd rfl h0
    · exact ⟨g, cs, (Value.slice.inj e1).1, e2⟩
/-- One more list. -/
theorem Lvr.put {W : World} {D : PT → Prop} {E : List Ent} (h : Lvr W (nx D) E) {u : PT} (hu : D u) (hw : Wd u) {b m c : Nat} (hr : RwT W (.slice (some ⟨b, 0, none⟩) m c) (pts u)) (hm : m = (pts u).length) (h0 : m ≠ 0) {cs : Array Value} (hb : Fb W b 28 cs) : Lvr W (nx D) (putM (some b) (.slice (some ⟨b, 0, none⟩) m c, pts u) E) := by
  have hw' : (pts u).length ≤ 1000 ∧ Wds (pts u) := by
    cases u with
    | mk k n ts => unfold Wd at hw; exact hw
  refine ⟨fun x hx => ?_, fun x hx => ?_⟩
  · rcases put_mem hx with rfl | hx
    · exact ⟨hr, fun e => h0 (by have e' : pts u = [] := e; rw [hm, e']; rfl), hw'.1, fun u' hu' => ⟨⟨u, hu, hu'⟩, Wds.mem hw'.2 u' hu'⟩⟩
    · exact h.r x hx
  · rcases put_mem hx with rfl | hx
    · exact ⟨fun b' e => ⟨cs, by injection e with e; subst e; exact hb⟩, fun b' e => ⟨m, c, by injection e with e; subst e; rfl⟩⟩
    · exact h.k x hx
/-- What was covered is so still. -/
theorem put_cover {W : World} {D : PT → Prop} {E : List Ent} (h : Lvr W (nx D) E) {b m c : Nat} {ts : List PT} (hr : RwT W (.slice (some ⟨b, 0, none⟩) m c) ts) (ho : ∀ v, getM (some b) E = some v → ∃ n' c', v.1 = .slice (some ⟨b, 0, none⟩) n' c' ∧ n' ≤ m) {u' : PT} (hc : ∃ y ∈ E, u' ∈ y.2.2) : ∃ y ∈ putM (some b) (.slice (some ⟨b, 0, none⟩) m c, ts) E, u' ∈ y.2.2 := by
  obtain ⟨y, hy, hu⟩ := hc
  rcases put_keep (k := some b) (v := (.slice (some ⟨b, 0, none⟩) m c, ts)) hy with h1 | h1
  · exact ⟨y, h1, hu⟩
  · obtain ⟨n', c', e, hle⟩ := ho _ h1
    have hyr := (h.r y hy).1
    rw [e] at hyr
    obtain ⟨k', h2, _⟩ := put_has (k := some b) (v := ((.slice (some ⟨b, 0, none⟩) m c, ts) : Value × List PT)) (E := E)
    exact ⟨_, h2, rwT_pre hyr hr hle u' hu⟩
theorem take_snocP {l : List PT} {a : Nat} {x : PT} (h : l[a]? = some x) : l.take (a + 1) = l.take a ++ [x] := by
  obtain ⟨hlt, rfl⟩ := List.getElem?_eq_some_iff.1 h
  rw [List.take_succ_eq_append_getElem hlt]
def BlO (W : World) (m : Nat) (D : PT → Prop) (E : List Ent) (gk : Nat) (wr : World) : Prop := ∃ left E', Rg ptE encT wr m (W.heap.size + 1) left ∧ left.length ≤ gk ∧ Below W.heap.size W wr ∧ Kt W wr ∧ Mq ptE encT wr W.heap.size E' ∧ (∀ x ∈ left, x ∈ E) ∧ Lvr wr (nx D) E' ∧ ∀ x ∈ E, x ∈ left ∨ ∀ u ∈ x.2.2, Cv E' u
def BlI (W : World) (m : Nat) (D : PT → Prop) (E left : List Ent) (p : Ent) (gk : Nat) (s : Value) (wr : World) : Prop := ∃ (j : Nat) (E' : List Ent), j + gk = p.2.2.length ∧ s = .int .i64 (j : Int) ∧ Rg ptE encT wr m (W.heap.size + 1) left ∧ Below W.heap.size W wr ∧ Kt W wr ∧ Mq ptE encT wr W.heap.size E' ∧ Lvr wr (nx D) E' ∧ (∀ x ∈ E, x ∈ left ∨ x = p ∨ ∀ u ∈ x.2.2, Cv E' u) ∧ ∀ u ∈ p.2.2.take j, Cv E' u
theorem bl_pre {W : World} {m : Nat} {E : List Ent} (h : Mq ptE encT W m E) :
    ∃ W2, (Instr.range 100 (.map (some m))).run Try.prog (W.alloc (.map #[] 0)) = .ok (.pointer (some ⟨W.heap.size + 1, 0, none⟩)) W2 ∧ Rg ptE encT W2 m (W.heap.size + 1) E ∧ Below W.heap.size W W2 ∧ Mq ptE encT W2 W.heap.size ([] : List Ent) := by
  have hB1 : Below W.heap.size W (W.alloc (.map #[] 0)) := (Below.refl _ _).alloc (Nat.le_refl _) _
  have hM1 : Mq ptE encT (W.alloc (.map #[] 0)) W.heap.size ([] : List Ent) := Mq.new W
  have h2 : Mq ptE encT (W.alloc (.map #[] 0)) m E := h.of (hB1.block m h.lt)
  obtain ⟨o, hr, hR⟩ := h2.range (t := 100) mapP
  rw [World.size_alloc] at hr hR
  exact ⟨_, hr, hR, hB1.alloc hB1.size _, hM1.of (heap_alloc_old _ _ hM1.lt)⟩
def BlQ (W : World) (D : PT → Prop) (e : Ending) (w' : World) : Prop := ∃ m' E', e = .returned (.map (some m')) ∧ Below W.heap.size W w' ∧ Mq ptE encT w' m' E' ∧ Lvr w' (nx D) E' ∧ ∀ u, nx D u → ∃ y ∈ E', u ∈ y.2.2
set_option maxHeartbeats 32000000 in
theorem below_gen {W : World} {m : Nat} {D : PT → Prop} {E : List Ent} (h : Mq ptE encT W m E) (hL : Lvr W D E) (hC : ∀ u, D u → ∃ x ∈ E, u ∈ x.2.2) :
    Calls Try.prog 59 #[.map (some m)] W (BlQ W D) := by
  have hm := mkMapP W
  have hm9 := h.lt
  obtain ⟨W2, hr, hR, hB2, hM2⟩ := bl_pre h
  have H0 := Lib.hid (show BlO W m D E E.length W2 from ⟨E, [], hR, Nat.le_refl _, hB2, Kt.below hB2, hM2, fun x hx => hx, ⟨fun x hx => by simp at hx, fun x hx => by simp at hx⟩, fun x hx => .inl hx⟩)
  have HM9 := Lib.hid hm9
  have HLv := Lib.hid hL
  have HCv := Lib.hid hC
  clear h hL hC hR hB2 hM2 hm9
  go_enter Try.func59, Try.ntmps59
  go_wp2
  go_loopg [5] E.length (fun g s wr => BlO W m D E g wr)
  case atStart => exact H0.out
  case round =>
    obtain ⟨left, E', hR, hlen, hB, hK, hM, hin, hLv, hcov⟩ := hrel
    rcases hR.next 0 with ⟨rfl, hn⟩ | ⟨p, A, B, V, o2, rfl, hV, hn, hL2, he⟩
    · have HE := Lib.hid (show BlQ W D (.returned (.map (some W.heap.size))) wr from ⟨W.heap.size, E', rfl, hB, hM, hLv, fun u' ⟨u, hu, hu'⟩ => by
        obtain ⟨x, hx, hux⟩ := HCv.out u hu
        rcases hcov x hx with h | h
        · cases h
        · exact h u hux u' hu'⟩)
      clear hR hlen hB hK hM hin hLv hcov
      go_wp2
      go_ret
      exact HE.out
    · obtain ⟨key, v, ts⟩ := p
      have hpE := hin (key, (v, ts)) (by simp)
      obtain ⟨hrw0, hne, hl9, hD⟩ := HLv.out.r _ hpE
      dsimp only at hrw0 hne hl9 hD
      obtain ⟨Av, cv, rfl⟩ := hrw0.shape
      obtain ⟨nv, hnv⟩ : ∃ nv, nv = ts.length := ⟨_, rfl⟩
      rw [← hnv] at hrw0 hn he hin hcov hlen hR
      simp only [encT] at hn he
      obtain ⟨W3, hW3⟩ : ∃ W3, W3 = putBlock V (W.heap.size + 1) o2 := ⟨_, rfl⟩
      rw [← hW3] at hn hL2 he
      have far : ∀ y, y ≠ W.heap.size + 1 → W3.heap[y]? = wr.heap[y]? := fun y hy => by
        rw [hW3, putBlock_far hy]
        rcases hV with rfl | rfl <;> rfl
      have hB3 : Below W.heap.size W W3 := by
        rw [hW3]
        rcases hV with rfl | rfl
        · exact below_put hB (Nat.le_succ _) _
        · exact below_put hB.drew (Nat.le_succ _) _
      have hK3 : Kt wr W3 := fun g cs hf => (far g (fun e => by
        obtain ⟨es, ck, si, se, c0, q1, q2, _⟩ := hR
        unfold Fb at hf
        rw [e, q2] at hf; cases hf)).trans hf
      have HI0 := Lib.hid (show BlI W m D E (A ++ B) (key, (.slice Av nv cv, ts)) ts.length (.int .i64 0) W3 from ⟨0, E', by simp, rfl, hL2, hB3, hK.trans hK3, hM.of (far _ (by omega)), hLv.kt hK3, fun x hx => by
        rcases hcov x hx with h | h
        · rcases List.mem_append.1 h with h | h
          · exact .inl (List.mem_append_left _ h)
          · rcases List.mem_cons.1 h with h | h
            · exact .inr (.inl h)
            · exact .inl (List.mem_append_right _ h)
        · exact .inr (.inr h), fun u hu => by simp at hu⟩)
      have HP := Lib.hid (And.intro hpE (And.intro hlen (And.intro hin hnv)))
      have HRw := Lib.hid hrw0
      have HD := Lib.hid hD
      have nvI : (nv : Int) ≤ 1000 := by omega
      have nv0 : (0 : Int) ≤ (nv : Int) := by omega
      clear hR hlen hB hK hM hin hLv hcov hL2 hpE hrw0 hne hl9 hD hW3 far hB3 hK3 hV hnv
      go_wp2
      go_loopg [17] ts.length (fun g s wr => BlI W m D E (A ++ B) (key, (.slice Av nv cv, ts)) g s wr)
      case atStart => exact HI0.out
      case round =>
        obtain ⟨j, E1, hj, rfl, hR, hB, hK, hM, hLv, hcov, hdone⟩ := hrel
        dsimp only at hj hdone
        have hnv := HP.out.2.2.2
        by_cases hlt : j < ts.length
        · obtain ⟨u, hu⟩ : ∃ u, ts[j]? = some u := ⟨_, List.getElem?_eq_getElem hlt⟩
          obtain ⟨g, kd', nn', A', m', c', hAv, hpt, x0, x1, x2⟩ := (pth_part (fake (HRw.out.kt hK))).2.2.2 j u hu
          subst hAv
          obtain ⟨hrow, hml, hbl⟩ := pth_row hpt
          obtain ⟨hDu, hWu⟩ := HD.out u (List.mem_of_getElem? hu)
          have hw1 : (pts u).length ≤ 1000 := by
            cases u with
            | mk k n ts => unfold Wd at hWu; exact hWu.1
          have j0 : (0 : Int) ≤ (j : Int) := by omega
          have j1 : (j : Int) < (nv : Int) := by omega
          have mI : (m' : Int) ≤ 1000 := by omega
          have mI0 : (0 : Int) ≤ (m' : Int) := by omega
          obtain ⟨W4, hW4⟩ : ∃ W4, W4 = wr.alloc (.cells #[.int .i64 kd', .int .i64 nn', .slice A' m' c'] 28) := ⟨_, rfl⟩
          have z2 : W4.cell? ⟨wr.heap.size, 2, none⟩ = some (.slice A' m' c') := by rw [hW4]; exact (Fb.new wr 28 #[.int .i64 kd', .int .i64 nn', .slice A' m' c']).cell 2
          have h4 : ∀ n y, y < wr.heap.size → (W4.drewN n).heap[y]? = wr.heap[y]? := fun n y hy => by rw [hW4]; exact Below.heap_alloc _ _ y hy
          have hK4 : ∀ n, Kt wr (W4.drewN n) := fun n g cs hf => (h4 n g hf.lt).trans hf
          have hB4 : ∀ n, Below W.heap.size W (W4.drewN n) := fun n => below_drewP (by rw [hW4]; exact hB.alloc hB.size _) n
          have hM4 : ∀ n, Mq ptE encT (W4.drewN n) W.heap.size E1 := fun n => hM.of (h4 n _ hM.lt)
          have hR4 : ∀ n, Rg ptE encT (W4.drewN n) m (W.heap.size + 1) (A ++ B) := fun n => by
            obtain ⟨es, ck, si, se, c0, q1, q2, _⟩ := id hR
            exact hR.of (h4 n _ (Array.getElem?_eq_some_iff.1 q1).1) (h4 n _ (Array.getElem?_eq_some_iff.1 q2).1)
          have HJ := Lib.hid (And.intro hj (And.intro hlt hu))
          have HR4 := Lib.hid hR4
          have HM4 := Lib.hid hM4
          have HB4 := Lib.hid hB4
          have HK4 := Lib.hid (fun n => hK.trans (hK4 n))
          have HK4' := Lib.hid hK4
          have HLv1 := Lib.hid hLv
          have HCov := Lib.hid hcov
          have HDn := Lib.hid hdone
          have HRow := Lib.hid hrow
          have HML := Lib.hid hml
          have HDu := Lib.hid (And.intro hDu hWu)
          -- what comes of a round that changes nothing
          have HSkip : Hid ((∀ u' ∈ pts u, ∃ y ∈ E1, u' ∈ y.2.2) → ∀ n, BlI W m D E (A ++ B) (key, (.slice (some ⟨g, 0, none⟩) nv cv, ts)) (ts.length - (j + 1)) (.int .i64 ((j + 1 : Nat) : Int)) (W4.drewN n)) := Lib.hid fun hc n => ⟨j + 1, E1, by show j + 1 + (ts.length - (j + 1)) = ts.length; have := HJ.out.2.1; omega, rfl, HR4.out n, HB4.out n, HK4.out n, HM4.out n, HLv1.out.kt (HK4'.out n), HCov.out, fun w hw => by
            dsimp only at hw
            rw [take_snocP HJ.out.2.2, List.mem_append] at hw
            rcases hw with hw | hw
            · exact HDn.out w hw
            · obtain rfl := List.mem_singleton.1 hw
              exact hc⟩
          by_cases hm0 : m' = 0
          · have hnil : pts u = [] := List.length_eq_zero_iff.1 (by omega)
            have HE := Lib.hid (HSkip.out (fun u' hu' => by rw [hnil] at hu'; cases hu'))
            have z3 : ¬ ((0 : Int) < (m' : Int)) := by omega
            have z3n : ¬ (0 < m') := by omega
            clear hj hR hB hK hM hLv hcov hdone hnv hlt hu hpt hrow hml hbl hDu hWu hw1 h4 hK4 hB4 hM4 hR4 hm0 hnil
            go_wp2
            rw [← hW4]
            clear hW4
            go_quiet (fail)
            go_wp2
            go_roundg (ts.length - (j + 1))
            case measure => have := HJ.out; omega
            case rel => rw [show ((j : Int) + 1) = ((j + 1 : Nat) : Int) by omega]; exact HE.out _
          · obtain ⟨b', cs', hA', hfb⟩ := hbl hm0
            subst hA'
            have z3 : ((0 : Int) < (m' : Int)) := by omega
            have z3n : 0 < m' := by omega
            have hgk : ∀ n, gdK (W4.drewN n) (some b') := fun n b e => ⟨cs', by injection e with e; subst e; exact hK4 n _ _ hfb⟩
            have hgE : ∀ n, ∀ x ∈ E1, gdK (W4.drewN n) x.1 := fun n x hx => ((hLv.k x hx).1).kt (hK4 n)
            obtain ⟨Ao, no, co, hvl, hsome, hnone⟩ : ∃ Ao no co, (((getM (some b') E1).map encT).getD (.slice none 0 0) = .slice Ao no co) ∧ (∀ v, getM (some b') E1 = some v → v.1 = .slice (some ⟨b', 0, none⟩) no co) ∧ (getM (some b') E1 = none → no = 0) := by
              cases hg : getM (some b') E1 with
              | none => exact ⟨none, 0, 0, rfl, (fun v e => by cases e), fun _ => rfl⟩
              | some v =>
                obtain ⟨n, c, e⟩ := (hLv.k _ (get_mem hg)).2 b' rfl
                dsimp only at e
                exact ⟨some ⟨b', 0, none⟩, n, c, by simp [encT, e], fun v' e' => by injection e' with e'; rw [← e']; exact e, fun e' => by cases e'⟩
            have hlk : ∀ n, (Instr.lookup 100 (.map (some W.heap.size)) (.pointer (some ⟨b', 0, none⟩)) false).run Try.prog (W4.drewN n) = .ok (.slice Ao no co) (W4.drewN n) := fun n => by
              have := lookP (hM4 n) (hgk n) (hgE n)
              rw [hvl] at this
              exact this
            have HGk := Lib.hid hgk
            have HGe := Lib.hid hgE
            have HSo := Lib.hid (And.intro hsome hnone)
            have HFb := Lib.hid hfb
            have noI0 : (0 : Int) ≤ (no : Int) := by omega
            by_cases hcmp : no < m'
            · have z4 : (no : Int) < (m' : Int) := by omega
              have z4n : no < m' := by omega
              have HM0 := Lib.hid hm0
              have HCmp := Lib.hid hcmp
              clear hj hR hB hK hM hLv hcov hdone hnv hlt hu hpt hrow hml hbl hDu hWu hw1 h4 hK4 hB4 hM4 hR4 hm0 hcmp hgk hgE hvl hsome hnone hfb
              go_wp2
              rw [← hW4]
              clear hW4
              go_quiet (fail)
              clear hlk
              obtain ⟨ob, hup, hM5⟩ := updP (HM4.out (nq + 1)) (HGk.out (nq + 1)) (HGe.out (nq + 1)) (.slice (some ⟨b', 0, none⟩) m' c', pts u)
              unfold ptE encT at hup
              simp only [Option.map_some] at hup
              have HM5 := Lib.hid hM5
              clear hM5
              go_wp2
              go_region
              all_goals
                go_wp2
                go_roundg (ts.length - (j + 1))
                case measure => have := HJ.out; omega
                case rel =>
                  have hm4 := (HM4.out (nq + 1)).lt
                  have hb5 : Below W.heap.size W (putBlock (W4.drewN (nq + 1)) W.heap.size ob) := below_put (HB4.out _) (Nat.le_refl _) _
                  have hml := HM9.out
                  have hmn := HM4.out (nq + 1)
                  have hk5 : Kt (W4.drewN (nq + 1)) (putBlock (W4.drewN (nq + 1)) W.heap.size ob) := fun g cs hf => (putBlock_far (hmn.ne hf)).trans hf
                  have hLv4 := HLv1.out.kt (HK4'.out (nq + 1))
                  have hrow4 := HRow.out.kt (HK4'.out (nq + 1))
                  have hho : ∀ v, getM (some b') E1 = some v → ∃ n' c', v.1 = .slice (some ⟨b', 0, none⟩) n' c' ∧ n' ≤ m' := fun v e => ⟨no, co, HSo.out.1 v e, Nat.le_of_lt HCmp.out⟩
                  have hcover : ∀ w, Cv E1 w → Cv (putM (some b') (.slice (some ⟨b', 0, none⟩) m' c', pts u) E1) w := fun w hw u' hu' => put_cover hLv4 hrow4 hho (hw u' hu')
                  refine ⟨j + 1, putM (some b') (.slice (some ⟨b', 0, none⟩) m' c', pts u) E1, by show j + 1 + (ts.length - (j + 1)) = ts.length; have := HJ.out.2.1; omega, by rw [Int.natCast_add]; rfl, ?_, hb5, (HK4.out _).trans hk5, HM5.out _ hm4, (hLv4.put HDu.out.1 HDu.out.2 hrow4 HML.out HM0.out (HK4'.out _ _ _ HFb.out)).kt hk5, fun x hx => ?_, fun w hw => ?_⟩
                  · obtain ⟨es, ck, si, se, c0, q1, q2, _⟩ := id (HR4.out (nq + 1))
                    exact (HR4.out (nq + 1)).of (putBlock_far (by omega)) (putBlock_far (by omega))
                  · rcases HCov.out x hx with h | h | h
                    · exact .inl h
                    · exact .inr (.inl h)
                    · exact .inr (.inr fun u2 hu2 => hcover u2 (h u2 hu2))
                  · dsimp only at hw
                    rw [take_snocP HJ.out.2.2, List.mem_append] at hw
                    rcases hw with hw | hw
                    · exact hcover w (HDn.out w hw)
                    · obtain rfl := List.mem_singleton.1 hw
                      obtain ⟨k', h2, _⟩ := put_has (k := some b') (v := ((.slice (some ⟨b', 0, none⟩) m' c', pts w) : Value × List PT)) (E := E1)
                      exact fun u' hu' => ⟨_, h2, hu'⟩
            · have z4 : ¬ ((no : Int) < (m' : Int)) := by omega
              have z4n : ¬ (no < m') := by omega
              have hcu : ∀ u' ∈ pts u, ∃ y ∈ E1, u' ∈ y.2.2 := fun u' hu' => by
                cases hg : getM (some b') E1 with
                | none => have := hnone hg; omega
                | some v =>
                  have e := hsome v hg
                  have hmem := get_mem hg
                  have hrv := (hLv.r _ hmem).1
                  dsimp only at hrv
                  rw [e] at hrv
                  exact ⟨_, hmem, rwT_pre hrow hrv (by omega) u' hu'⟩
              have HE := Lib.hid (HSkip.out hcu)
              clear hj hR hB hK hM hLv hcov hdone hnv hlt hu hpt hrow hml hbl hDu hWu hw1 h4 hK4 hB4 hM4 hR4 hm0 hcmp hgk hgE hvl hsome hnone hfb hcu
              go_wp2
              rw [← hW4]
              clear hW4
              go_quiet (fail)
              go_wp2
              go_roundg (ts.length - (j + 1))
              case measure => have := HJ.out; omega
              case rel => rw [show ((j : Int) + 1) = ((j + 1 : Nat) : Int) by omega]; exact HE.out _
        · have hje : j = ts.length := by omega
          have j1 : ¬ ((j : Int) < (nv : Int)) := by omega
          have HE := Lib.hid (show BlO W m D E (A ++ B).length wr from ⟨A ++ B, E1, hR, Nat.le_refl _, hB, hK, hM, fun x hx => HP.out.2.2.1 x (by
            rcases List.mem_append.1 hx with h | h
            · exact List.mem_append_left _ h
            · exact List.mem_append_right _ (List.mem_cons_of_mem _ h)), hLv, fun x hx => by
            rcases hcov x hx with h | h | h
            · exact .inl h
            · refine .inr fun u hu => hdone u ?_
              rw [h] at hu
              rw [hje, List.take_length]
              exact hu
            · exact .inr h⟩)
          clear hj hR hB hK hM hLv hcov hdone hnv hlt hje
          go_wp2
          go_roundg (A ++ B).length
          case measure => have := HP.out.2.1; simp at this ⊢; omega
          case rel => exact HE.out
end Go.Proofs.Ytghlajfalgdkfaa

/-
  deeper, of any path.
-/
namespace Go.Proofs.Ytghlajfalgdkfaa
open Go.RowKit
set_option linter.unusedVariables false
set_option linter.unusedSimpArgs false
set_option maxRecDepth 100000

/-- The paths that are so far down. -/
def lvl (t : PT) : Nat → PT → Prop
  | 0 => fun u => u = t
  | i + 1 => nx (lvl t i)
mutual
/-- How deep it is. -/
def hgt : PT → Nat
  | .mk _ _ ts => hgts ts
def hgts : List PT → Nat
  | [] => 0
  | t :: ts => max (hgt t + 1) (hgts ts)
end
theorem lvl_down : ∀ (i : Nat) (t u : PT), lvl t (i + 1) u ↔ ∃ s ∈ pts t, lvl s i u
  | 0, t, u => by
    constructor
    · rintro ⟨x, hx, hu⟩
      have hx : x = t := hx
      subst hx
      exact ⟨u, hu, rfl⟩
    · rintro ⟨s, hs, hu⟩
      have hu : u = s := hu
      subst hu
      exact ⟨t, rfl, hs⟩
  | i + 1, t, u => by
    constructor
    · rintro ⟨x, hx, hu⟩
      obtain ⟨s, hs, h⟩ := (lvl_down i t x).1 hx
      exact ⟨s, hs, x, h, hu⟩
    · rintro ⟨s, hs, x, h, hu⟩
      exact ⟨x, (lvl_down i t x).2 ⟨s, hs, h⟩, hu⟩
theorem hgts_iff (i : Nat) : ∀ ts : List PT, i + 1 ≤ hgts ts ↔ ∃ s ∈ ts, i ≤ hgt s
  | [] => by simp [hgts]
  | t :: ts => by
    have := hgts_iff i ts
    rw [hgts]
    constructor
    · intro h
      by_cases h1 : i ≤ hgt t
      · exact ⟨t, List.mem_cons_self .., h1⟩
      · obtain ⟨s, hs, h2⟩ := this.1 (by omega)
        exact ⟨s, List.mem_cons_of_mem _ hs, h2⟩
    · rintro ⟨s, hs, h⟩
      rcases List.mem_cons.1 hs with rfl | hs
      · omega
      · have := this.2 ⟨s, hs, h⟩
        omega
theorem lvl_hgt : ∀ (i : Nat) (t : PT), (∃ u, lvl t i u) ↔ i ≤ hgt t
  | 0, t => ⟨fun _ => Nat.zero_le _, fun _ => ⟨t, rfl⟩⟩
  | i + 1, t => by
    have e : hgt t = hgts (pts t) := by cases t with | mk k n ts => rw [hgt]; rfl
    rw [e, hgts_iff]
    constructor
    · rintro ⟨u, hu⟩
      obtain ⟨s, hs, h⟩ := (lvl_down i t u).1 hu
      exact ⟨s, hs, (lvl_hgt i s).1 ⟨u, h⟩⟩
    · rintro ⟨s, hs, h⟩
      obtain ⟨u, hu⟩ := (lvl_hgt i s).2 h
      exact ⟨u, (lvl_down i t u).2 ⟨s, hs, hu⟩⟩
def Lev (W : World) (t : PT) (i m : Nat) (E : List Ent) : Prop := Mq ptE encT W m E ∧ Lvr W (lvl t i) E ∧ ∀ u, lvl t i u → ∃ x ∈ E, u ∈ x.2.2
theorem Lev.nil {W : World} {t : PT} {i m : Nat} {E : List Ent} (h : Lev W t i m E) : E = [] ↔ ¬ i ≤ hgt t := by
  obtain ⟨h1, h2, h3⟩ := h
  rw [← lvl_hgt]
  constructor
  · rintro rfl ⟨u, hu⟩
    obtain ⟨x, hx, _⟩ := h3 u hu
    cases hx
  · intro h
    cases E with
    | nil => rfl
    | cons x E =>
      obtain ⟨_, hne, _, hD⟩ := h2.r x (List.mem_cons_self ..)
      obtain ⟨u, hu⟩ := List.exists_mem_of_ne_nil _ hne
      exact absurd ⟨u, (hD u hu).1⟩ h
theorem lenE {W : World} {m : Nat} {E : List Ent} (h : Mq ptE encT W m E) (ty : TypeId) : (Builtin.len_ #[100] ty #[.map (some m)]).run Try.prog W = .ok (.int .i64 (E.length : Int)) W := by
  obtain ⟨es, c, hb, he⟩ := h.len
  simp [Builtin.len_, run_underlying mapP, MapKept.run_getObj_map hb, goInt, Result.andThen, he]
def DgR (W : World) (t : PT) (L g : Nat) (s5 s11 : Value) (wr : World) : Prop :=
  ∃ (m i : Nat) (E : List Ent), s5 = .map (some m) ∧ s11 = .int .i64 (i : Int) ∧ i + g = L ∧ Lev wr t i m E ∧ Below W.heap.size W wr
theorem dg_start {W W1 : World} {t : PT} (hw : Wd t) {kd nn : Int} {A : Option Addr} {m c : Nat} {L : Nat} (hp : Pth W t ⟨kd, nn, .slice A m c⟩) (hW1 : W1 = ((W.alloc (.cells #[.int .i64 kd, .int .i64 nn, .slice A m c] 28)).alloc (.map #[] 0)).alloc (.cells #[.int .i64 kd, .int .i64 nn, .slice A m c] 28)) :
    ∃ ob, (Instr.mapUpdate 100 (.map (some (W.heap.size + 1))) (.pointer none) (.slice (some ⟨W.heap.size + 2, 0, none⟩) 1 1)).run Try.prog W1 = .ok () (putBlock W1 (W.heap.size + 1) ob) ∧ DgR W t L L (.map (some (W.heap.size + 1))) (.int .i64 0) (putBlock W1 (W.heap.size + 1) ob) := by
  have hB1 : Below W.heap.size W W1 := by
    rw [hW1]
    exact (((Below.refl _ _).alloc (Nat.le_refl _) _).alloc (by simp) _).alloc (by simp; omega) _
  have hM1 : Mq ptE encT W1 (W.heap.size + 1) ([] : List Ent) := by
    have := Mq.new (enc := ptE) (encV := encT) (W.alloc (.cells #[.int .i64 kd, .int .i64 nn, .slice A m c] 28))
    rw [World.size_alloc] at this
    exact this.of (by rw [hW1]; exact heap_alloc_old _ _ (by simp))
  have hF1 : Fb W1 (W.heap.size + 2) 28 #[.int .i64 kd, .int .i64 nn, .slice A m c] := by
    have := Fb.new ((W.alloc (.cells #[.int .i64 kd, .int .i64 nn, .slice A m c] 28)).alloc (.map #[] 0)) 28 #[.int .i64 kd, .int .i64 nn, .slice A m c]
    simp only [World.size_alloc] at this
    rw [hW1]; exact this
  have hsz : W1.heap.size = W.heap.size + 3 := by rw [hW1]; simp
  obtain ⟨ob, hu, hM⟩ := updP hM1 (k := none) (fun b e => by cases e) (fun x hx => by cases hx) (.slice (some ⟨W.heap.size + 2, 0, none⟩) 1 1, [t])
  have hB2 : Below W.heap.size W (putBlock W1 (W.heap.size + 1) ob) := below_put hB1 (by omega) _
  have hF2 : Fb (putBlock W1 (W.heap.size + 1) ob) (W.heap.size + 2) 28 #[.int .i64 kd, .int .i64 nn, .slice A m c] := (putBlock_far (by omega)).trans hF1
  have hM' := hM W1 hM1.lt
  unfold putM at hM'
  refine ⟨ob, hu, _, 0, _, rfl, rfl, by omega, ⟨hM', ⟨fun x hx => ?_, fun x hx => ?_⟩, fun u hu => ⟨_, List.mem_singleton.2 rfl, List.mem_singleton.2 hu⟩⟩, hB2⟩
  · obtain rfl := List.mem_singleton.1 hx
    refine ⟨⟨[⟨kd, nn, .slice A m c⟩], .inr ⟨W.heap.size + 2, 1, _, rfl, hF2, fun j p hj => ?_⟩, Pths.mk rfl fun j s p hj hq => ?_⟩, by simp, by simp, fun u hu => ?_⟩
    · cases j with
      | zero =>
        simp at hj
        subst hj
        exact ⟨rfl, rfl, rfl⟩
      | succ j => simp at hj
    · cases j with
      | zero =>
        simp at hj hq
        subst hj hq
        exact hp.below hB2
      | succ j => simp at hj
    · have hu : u ∈ [t] := hu
      obtain rfl := List.mem_singleton.1 hu
      exact ⟨rfl, hw⟩
  · obtain rfl := List.mem_singleton.1 hx
    exact ⟨fun b e => (by cases e), fun b e => (by cases e)⟩
set_option maxHeartbeats 16000000 in
theorem deeper_gen {t : PT} (hw : Wd t) {kd nn : Int} {A : Option Addr} {m c : Nat} {W : World} {L : Nat} (hp : Pth W t ⟨kd, nn, .slice A m c⟩) (hL : L ≤ 1000) :
    Calls Try.prog 38 #[.agg #[.int .i64 kd, .int .i64 nn, .slice A m c], .int .i64 (L : Int)] W fun e w' => e = .returned (.bool (decide (L ≤ hgt t))) ∧ Below W.heap.size W w' := by
  obtain ⟨W1, hW1⟩ : ∃ W1, W1 = ((W.alloc (.cells #[.int .i64 kd, .int .i64 nn, .slice A m c] 28)).alloc (.map #[] 0)).alloc (.cells #[.int .i64 kd, .int .i64 nn, .slice A m c] 28) := ⟨_, rfl⟩
  have hm := mkMapP (W.alloc (.cells #[.int .i64 kd, .int .i64 nn, .slice A m c] 28))
  rw [World.size_alloc] at hm
  obtain ⟨ob, hu, hst⟩ := dg_start (L := L) hw hp hW1
  have HS := Lib.hid hst
  have HL := Lib.hid hL
  rw [hW1] at hu
  obtain ⟨r, hr⟩ : ∃ r, r = decide (L ≤ hgt t) := ⟨_, rfl⟩
  rw [← hr]
  have HR := Lib.hid hr
  clear hr hp hst hL hw
  go_enter Try.func38, Try.ntmps38
  go_wp2
  rw [← hW1]
  clear hW1 hu hm
  go_loopg [5, 11] L (fun g s5 s11 wr => DgR W t L g s5 s11 wr)
  case atStart => exact HS.out
  case round =>
    obtain ⟨m', i, E, rfl, rfl, hi, hLv, hB⟩ := hrel
    have hl9 := HL.out
    by_cases hiL : i < L
    · have hc := below_gen hLv.1 hLv.2.1 hLv.2.2
      have z1 : (i : Int) < (L : Int) := by omega
      have z2 : (L : Int) ≤ 1000 := by omega
      have z0 : (0 : Int) ≤ (i : Int) := by omega
      have HB := Lib.hid hB
      have HI := Lib.hid hi
      clear hB hi hLv
      go_wp2_with (go_at_call 59; (with_reducible refine hc.mono ?_); rintro e w5 ⟨m5, E5, rfl, hb5, hM5, hL5, hC5⟩; have HB5 := Lib.hid hb5; have HL5 := Lib.hid (And.intro hM5 (And.intro hL5 hC5)); clear hb5 hM5 hL5 hC5)
      go_roundg (L - (i + 1))
      case measure => have := HI.out; omega
      case rel => exact ⟨m5, i + 1, E5, rfl, by rw [Int.natCast_add]; rfl, by omega, HL5.out, HB.out.trans (HB5.out.mono HB.out.size)⟩
    · obtain rfl : i = L := by omega
      have z1 : ¬ ((i : Int) < (i : Int)) := by omega
      have HB := Lib.hid hB
      have HI := Lib.hid hi
      have hln := lenE hLv.1 3
      have hnil := hLv.nil
      clear hB hi hLv
      by_cases hk : i ≤ hgt t
      · have hne : E ≠ [] := fun e => hnil.1 e hk
        obtain ⟨q, hq⟩ : ∃ q, q = E.length := ⟨_, rfl⟩
        have q0 : 0 < q := by rw [hq]; exact List.length_pos_iff.2 hne
        have q1 : (0 : Int) < (q : Int) := by omega
        rw [← hq] at hln
        have HRR := Lib.hid (HR.out.trans (decide_eq_true hk))
        clear hq hne hnil hk
        go_wp2
        go_ret
        exact ⟨congrArg (fun x => Ending.returned (.bool x)) HRR.out.symm, HB.out⟩
      · obtain rfl : E = [] := hnil.2 hk
        have HRR := Lib.hid (HR.out.trans (decide_eq_false hk))
        have hln : (Builtin.len_ #[100] 3 #[.map (some m')]).run Try.prog wr = .ok (.int .i64 0) wr := hln
        clear hnil hk
        go_wp2
        go_ret
        exact ⟨congrArg (fun x => Ending.returned (.bool x)) HRR.out.symm, HB.out⟩
end Go.Proofs.Ytghlajfalgdkfaa
