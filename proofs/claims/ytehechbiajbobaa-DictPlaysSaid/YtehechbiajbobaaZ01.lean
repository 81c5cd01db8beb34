/-
  MERGED (a claim has at most 60 files): DPut, Utf, Dec.
-/
import Derived.Test.YtehechbiajbobaaZ00
import Derived.Laws.Rows
import Derived.Maps.AppendAt
import Derived.Lib.MapLaws
import Derived.Lib.RuneBytes
import Derived.Laws.RangeAny
/-
  A DICTIONARY's CALLS: putGood, Put, Find.
-/
namespace Go.Proofs.Ytehechbiajbobaa
open Go.RowKit
set_option linter.unusedVariables false
set_option linter.unusedSimpArgs false
set_option maxRecDepth 100000

theorem val_iface (t : Tm) (h : t.kind < 3) : ∃ ty x, t.val = .iface ty x := by
  cases t with
  | blank s => exact ⟨_, _, rfl⟩
  | iri s => exact ⟨_, _, rfl⟩
  | lit a b c => exact ⟨_, _, rfl⟩
  | odd n => exact absurd h (by simp [Tm.kind])
  | none => exact absurd h (by simp [Tm.kind])
/-- A good term put: the terms behind, its number, the error. -/
def putG (room : Int) (L : List Tm) (t : Tm) : List Tm × Int × Int :=
  match nm t L with
  | some j => (L, j, 0)
  | none => if room ≤ L.length then (L, 0, 6) else (L ++ [t], L.length, 0)
theorem d_free {w : World} {g : Nat} {t : TypeId} {cs : Array Value} (h : Fb w g t cs) (i : Nat) : w.frozen? ⟨g, i, none⟩ = false := Lib.frozen_of_heap h i
section
variable {B d m : Nat} {room : Int} {v : Value} {L : List Tm}
theorem Dc.look {W : World} (h : Dc B d m room v L W) (t : Tm) (ht : t.kind < 3) :
    (Instr.lookup 75 (.map (some m)) t.val true).run Try.prog W = .ok (.tuple #[.int .i64 (match nm t L with | some j => (j : Int) | none => 0), .bool (nm t L).isSome]) W := by
  have := h.mp.look h.ks.zip t ht
  rw [posV_zip] at this
  cases hn : nm t L with
  | none => rw [hn] at this; exact this
  | some j => rw [hn] at this; simpa using this
/-- Stored in the map, appended to the list, and that stored. -/
theorem Dc.put_end {W W1 W2 W5 : World} {t : Tm} {n cap g : Nat} {news : List Value} (h : Dc B d m room v L W) (ht : t.kind < 3) (hn0 : nm t L = none) {o : Obj} (hW1 : W1 = putBlock W m o) (hmp : Mp W1 m (L.zipIdx ++ [(t, L.length)]))
    (hb : Below W1.heap.size W1 W2) (hn : n = L.length + 1) (hnews : news = [t.val]) (hown : W5.ownsRow B 41 1 (.slice (some ⟨g, 0, none⟩) n cap) n (L.map Tm.val ++ news)) (hg : W2.grownBy W5 v.ownBlock) (hloc : v.ownBlock = some g ∨ g = W2.heap.size) :
    Dc B d m room (.slice (some ⟨g, 0, none⟩) n cap) (L ++ [t]) (W5.setCell ⟨d, 1, none⟩ (.slice (some ⟨g, 0, none⟩) n cap)) ∧ Tn d m v (.slice (some ⟨g, 0, none⟩) n cap) W (W5.setCell ⟨d, 1, none⟩ (.slice (some ⟨g, 0, none⟩) n cap)) := by
  subst hn hnews
  have hsz : W1.heap.size = W.heap.size := by rw [hW1]; simp [putBlock]
  have hk : ∀ k, k ≠ m → W1.heap[k]? = W.heap[k]? := fun k hk => by rw [hW1]; exact putBlock_far hk
  have hdm := h.d_m
  have hdl := h.st.lt
  have hml := h.mp.lt
  have hrd := h.row_d
  have hrm := h.row_m
  have b25 := hg.size
  have b12 := hb.size
  have d1 : W5.heap[d]? = W.heap[d]? := (hg.block d (by omega) (fun e => hrd e.symm)).trans ((hb.block d (by omega)).trans (hk d hdm))
  have m1 : W5.heap[m]? = W1.heap[m]? := (hg.block m (by omega) (fun e => hrm e.symm)).trans (hb.block m (by omega))
  have hdz : W5.heap[d]? = some (.cells #[.int .i64 room, v, .map (some m)] 78 (0, 0)) := d1.trans h.st
  have hgd : g ≠ d := fun e => by
    rcases hloc with x | x
    · exact hrd (by rw [x, e])
    · omega
  have hs5 : (W5.setCell ⟨d, 1, none⟩ (.slice (some ⟨g, 0, none⟩) (L.length + 1) cap)).heap.size = W5.heap.size := by simp [World.setCell]
  refine ⟨⟨?_, ?_, ?_, h.gd, h.gm, h.ks.snoc ht, List.nodup_append.2 ⟨h.nd, by simp, fun a ha b hb e => nm_fresh hn0 ht (by simp at hb; subst hb; subst e; exact ha)⟩⟩, ⟨?_, ?_, ?_, ?_, ?_, ?_⟩⟩
  · exact heap_setCell_same W5 d 1 _ _ _ hdz
  · have := hown.kept (d_grown_set W5 d 1 (.slice (some ⟨g, 0, none⟩) (L.length + 1) cap)) (.inr fun e => hgd (Option.some.inj e))
    rw [List.length_append, List.map_append]
    exact this
  · refine (show Mp W5 m _ from ?_).of (Below.heap_setCell _ _ _ _ (Ne.symm hdm))
    rw [List.zipIdx_append]
    simpa using hmp.of m1
  · exact hg.os.trans (hb.os.trans (by rw [hW1]; rfl))
  · exact hg.tape.trans (hb.tape.trans (by rw [hW1]; rfl))
  · exact hg.output.trans (hb.output.trans (by rw [hW1]; rfl))
  · rw [hs5]; omega
  · intro k e
    have e : some g = some k := e
    rcases hloc with x | x
    · exact .inl (by rw [x, e])
    · have := Option.some.inj e; right; omega
  · intro k hk1 hkd hkm hkv
    exact (Below.heap_setCell _ _ _ _ hkd).trans ((hg.block k (by omega) (fun e => hkv e.symm)).trans ((hb.block k (by omega)).trans (hk k hkm)))
/-- putGood. -/
def PutPost (B d m : Nat) (room : Int) (v : Value) (W : World) (r : List Tm × Int × Int) (e : Ending) (w' : World) : Prop :=
  ∃ v', e = .returned (.tuple #[.int .i64 r.2.1, .int .i64 r.2.2]) ∧ Dc B d m room v' r.1 w' ∧ Tn d m v v' W w'
set_option maxHeartbeats 4000000 in
theorem dputGood_any {W : World} (h : Dc B d m room v L W) (hB : B ≤ W.heap.size) (hl : L.length ≤ 100000) (t : Tm) (ht : t.kind < 3) :
    Calls Try.prog 28 #[.pointer (some ⟨d, 0, none⟩), t.val] W (PutPost B d m room v W (putG room L t)) := by
  obtain ⟨A, c, rfl⟩ := h.shape
  have hlk := h.look t ht
  have cL := dlen_any h hl
  obtain ⟨c0, c1, c2⟩ := h.cells
  obtain ⟨ty, x, hv⟩ := val_iface t ht
  unfold putG
  cases hn : nm t L with
  | some j =>
    rw [hn] at hlk
    rw [hv] at hlk ⊢
    have hj : (0 : Int) ≤ (j : Int) := by omega
    dsimp only [Option.isSome] at hlk
    have HD := Lib.hid h
    clear h cL hn hv hl hB
    go_enter Try.func28, Try.ntmps28
    go_wp2
    go_ret2
    exact ⟨_, rfl, HD.out, Tn.refl _⟩
  | none =>
    rw [hn] at hlk
    dsimp only [Option.isSome] at hlk
    have hnz : posV t L.zipIdx = none := by rw [posV_zip, hn]; rfl
    obtain ⟨o, hup, hmp⟩ := h.mp.put h.ks.zip t ht hnz L.length
    obtain ⟨W1, hW1⟩ : ∃ W1, W1 = putBlock W m o := ⟨_, rfl⟩
    rw [← hW1] at hup hmp
    have d1 : Fb W1 d 78 #[.int .i64 room, .slice A L.length c, .map (some m)] := by
      unfold Fb
      rw [hW1, putBlock_far h.d_m]
      exact h.st
    have r1 : W1.ownsRow B 41 1 (.slice A L.length c) L.length (L.map Tm.val) := h.row.kept (w' := W1) (row := some m) ⟨by rw [hW1]; rfl, by rw [hW1]; rfl, by rw [hW1]; rfl, by rw [hW1]; simp [putBlock], fun k _ hk => by rw [hW1]; exact putBlock_far (fun e => hk (by rw [e]))⟩ (.inr h.row_m)
    have s1 : W1.heap.size = W.heap.size := by rw [hW1]; simp [putBlock]
    have hend := fun (W2 W5 : World) (n cap g : Nat) (news : List Value) => h.put_end (W2 := W2) (W5 := W5) (n := n) (cap := cap) (g := g) (news := news) ht hn hW1 hmp
    obtain ⟨i0, hi0, hi1, hi2, hi3⟩ := info_parts termInfo
    rw [hv] at hlk hup hend ⊢
    have e0 := d1.cell 0
    have e1 := d1.cell 1
    have e2 := d1.cell 2
    have hrd := h.row_d
    have FZ := Lib.hid (show ∀ w6, (W1.alloc (.cells #[.iface ty x] 41)).grownBy w6 (Value.ownBlock (.slice A L.length c)) → w6.frozen? ⟨d, 1, none⟩ = false from fun w6 hg => by
      rw [hg.frozen_far _ (by have := d1.lt; simp; omega) (fun e => hrd e.symm)]
      exact d_free (d1.alloc _) 1)
    have FC := Lib.hid (show ∀ w6, (W1.alloc (.cells #[.iface ty x] 41)).grownBy w6 (Value.ownBlock (.slice A L.length c)) → w6.cell? ⟨d, 1, none⟩ = some (.slice A L.length c) from fun w6 hg => by
      rw [hg.cell_far _ (by have := d1.lt; simp; omega) (fun e => hrd e.symm)]
      exact (d1.alloc _).cell 1)
    have HD := Lib.hid h
    have HE := Lib.hid hend
    have HR := Lib.hid r1
    have HB := Lib.hid (show B ≤ W1.heap.size by omega)
    have HL := Lib.hid hl
    have hlz : (0 : Int) ≤ (L.length : Int) := by omega
    clear hn hnz hmp hend r1 hv h hB hW1 s1 hrd
    by_cases hr : room ≤ L.length
    · rw [if_pos hr]
      clear hup e0 e1 e2 d1 HE HR hl
      go_enter Try.func28, Try.ntmps28
      go_wp2_with (go_at_call 25; (with_reducible refine cL.mono ?_); rintro e w1 ⟨rfl, rfl⟩)
      go_ret2
      exact ⟨_, rfl, HD.out, Tn.refl _⟩
    · rw [if_neg hr]
      clear hl
      go_enter Try.func28, Try.ntmps28
      go_wp2_with (first
        | (go_at_call 25; (with_reducible refine cL.mono ?_); rintro e w1 ⟨rfl, rfl⟩)
        | (at_builtin; refine wpList_append_lies _ rfl _ _ 76 rfl B 41 i0 .nilIface 1 16 Try.underlying76 hi0 hi1 hi2 hi3 rfl (by decide) _ _ _ rfl (HR.out.alloc _) ⟨W1.heap.size, 0, none⟩ 1 1 [.iface ty x] rfl rfl (cell_one_new _ _ _) (fun u hu => by simp at hu; subst hu; rfl) (by decide) (by have := HL.out; unfold maxLen; omega) (by have := HL.out; omega) (by have := HB.out; simp; omega) _ rfl ?_; intro g5 c7 w6 hown hgrow hloc hg5; have hdf : w6.frozen? ⟨d, 1, none⟩ = false := FZ.out w6 hgrow; have q1 := FC.out w6 hgrow))
      go_ret2
      obtain ⟨r1, r2⟩ := HE.out (W1.alloc (.cells #[.iface ty x] 41)) w6 _ c7 g5 _ ((Below.refl _ _).alloc (Nat.le_refl _) _) rfl rfl hown hgrow hloc
      exact ⟨_, rfl, r1, r2⟩
theorem putG_len {t : Tm} : L.length ≤ (putG room L t).1.length ∧ (putG room L t).1.length ≤ L.length + 1 := by
  unfold putG
  cases nm t L with
  | some j => exact ⟨Nat.le_refl _, Nat.le_succ _⟩
  | none =>
    dsimp only
    split
    · exact ⟨Nat.le_refl _, Nat.le_succ _⟩
    · simp
end
end Go.Proofs.Ytehechbiajbobaa

/-
  PLAIN LEAN, NO RUN: texts as lists of signs and their UTF-8 bytes: what is decoded is what was encoded; every list of bytes is the bytes of some signs and a rest that is empty or begins with what is no sign's.
-/
namespace Go.Proofs.Ytehechbiajbobaa
open Go.Lib

def sgn (n : Int) : Bool := decide (0 ≤ n ∧ n ≤ 1114111 ∧ (n < 55296 ∨ 57343 < n))
def AllS (l : List Int) : Prop := ∀ n ∈ l, sgn n = true
def encL (l : List Int) : List UInt8 := l.flatMap encodeRune
def Bad (r : List UInt8) : Prop := r ≠ [] ∧ (decodeL r).1 = 65533 ∧ (decodeL r).2 = 1

theorem sgn_iff (n : Int) : sgn n = true ↔ 0 ≤ n ∧ n ≤ 1114111 ∧ (n < 55296 ∨ 57343 < n) := by unfold sgn; simp
theorem encL_nil : encL [] = [] := rfl
theorem encL_cons (n : Int) (l : List Int) : encL (n :: l) = encodeRune n ++ encL l := by simp [encL]
theorem encL_append (a b : List Int) : encL (a ++ b) = encL a ++ encL b := by simp [encL]
theorem enc_len (n : Int) : 1 ≤ (encodeRune n).length ∧ (encodeRune n).length ≤ 4 := by
  have := runeCells_le n
  rwa [runeCells_length] at this
theorem encL_len (l : List Int) : l.length ≤ (encL l).length ∧ (encL l).length ≤ 4 * l.length := by
  induction l with
  | nil => simp [encL]
  | cons n t ih => rw [encL_cons]; have := enc_len n; simp; omega
theorem AllS.tail {n : Int} {l : List Int} (h : AllS (n :: l)) : AllS l := fun m hm => h m (List.mem_cons_of_mem _ hm)
theorem AllS.head {n : Int} {l : List Int} (h : AllS (n :: l)) : sgn n = true := h n List.mem_cons_self
theorem AllS.append {a b : List Int} (h : AllS a) (k : AllS b) : AllS (a ++ b) := fun n hn => by
  rcases List.mem_append.1 hn with x | x
  · exact h n x
  · exact k n x
theorem AllS.left {a b : List Int} (h : AllS (a ++ b)) : AllS a := fun n hn => h n (List.mem_append.2 (.inl hn))
theorem AllS.right {a b : List Int} (h : AllS (a ++ b)) : AllS b := fun n hn => h n (List.mem_append.2 (.inr hn))
theorem allS_nil : AllS [] := fun _ h => by cases h
theorem u8n (z : Int) (_h0 : 0 ≤ z) (h1 : z < 256) : (z.toNat.toUInt8).toNat = z.toNat := by simp; omega

/-- What was encoded is decoded, whatever stands behind. -/
theorem dec_enc (n : Int) (t : List UInt8) (h : sgn n = true) : decodeL (encodeRune n ++ t) = (n.toNat, (encodeRune n).length) := by
  obtain ⟨h0, h1, h2⟩ := (sgn_iff n).1 h
  rw [decodeL_N]
  unfold encodeRune
  by_cases a : n ≤ 127
  · rw [encodeRuneZ_one h0 a]
    simp only [List.map_cons, List.map_nil, List.cons_append, List.nil_append, List.getD_cons_zero, List.length_cons, List.length_nil]
    rw [u8n n h0 (by omega), decodeN_ascii _ _ _ _ _ (by omega)]
  by_cases b : n ≤ 2047
  · rw [encodeRuneZ_two (by omega) b]
    simp only [List.map_cons, List.map_nil, List.cons_append, List.nil_append, List.getD_cons_zero, List.getD_cons_succ, List.length_cons, List.length_nil]
    rw [u8n _ (by omega) (by omega), u8n _ (by omega) (by omega)]
    unfold decodeN
    rw [if_neg (by omega), if_pos ⟨by omega, by omega, by omega⟩, if_pos (by omega)]
    congr 1; omega
  by_cases c : n ≤ 65535
  · rw [encodeRuneZ_three (by omega)]
    simp only [List.map_cons, List.map_nil, List.cons_append, List.nil_append, List.getD_cons_zero, List.getD_cons_succ, List.length_cons, List.length_nil]
    rw [u8n _ (by omega) (by omega), u8n _ (by omega) (by omega), u8n _ (by omega) (by omega)]
    unfold decodeN
    rw [if_neg (by omega), if_neg (by omega), if_pos ⟨by omega, ⟨by omega, by omega⟩, by omega, by omega⟩, if_pos (by omega)]
    congr 1; omega
  · rw [encodeRuneZ_four (by omega) h1]
    simp only [List.map_cons, List.map_nil, List.cons_append, List.nil_append, List.getD_cons_zero, List.getD_cons_succ, List.length_cons, List.length_nil]
    rw [u8n _ (by omega) (by omega), u8n _ (by omega) (by omega), u8n _ (by omega) (by omega), u8n _ (by omega) (by omega)]
    unfold decodeN
    rw [if_neg (by omega), if_neg (by omega), if_neg (by omega), if_pos ⟨by omega, ⟨by omega, by omega⟩, ⟨by omega, by omega⟩, by omega, by omega⟩, if_pos (by omega)]
    congr 1; omega

/-- A sign's own bytes are no bad ones. -/
theorem dec_good (n : Int) (t : List UInt8) (h : sgn n = true) : ¬ ((decodeL (encodeRune n ++ t)).1 = 65533 ∧ (decodeL (encodeRune n ++ t)).2 = 1) := by
  rw [dec_enc n t h]
  rintro ⟨h1, h2⟩
  have : n = 65533 := by have := (sgn_iff n).1 h; simp at h1; omega
  subst this
  simp [encodeRune, encodeRuneZ] at h2
theorem dec_sgn (l : List UInt8) (_hne : l ≠ []) (hv : ¬ ((decodeL l).1 = 65533 ∧ (decodeL l).2 = 1)) : sgn (decodeL l).1 = true := by
  rw [decodeL_N] at hv ⊢
  rw [sgn_iff]
  rcases decodeN_shape l.length (l.getD 0 0).toNat (l.getD 1 0).toNat (l.getD 2 0).toNat (l.getD 3 0).toNat with ⟨c, e⟩ | ⟨c1, c2, c3, cv, e⟩ | ⟨c1, c2, c3, c4, cv, cs, e⟩ | ⟨c1, c2, c3, c4, c5, cv, cw, e⟩ | e <;> rw [e] at hv ⊢
  · dsimp only; omega
  · dsimp only; omega
  · dsimp only; omega
  · dsimp only; omega
  · exact absurd ⟨rfl, rfl⟩ hv

/-- Every list of bytes: some signs' bytes, and a rest that is empty or begins badly. -/
theorem split_any : ∀ (f : Nat) (l : List UInt8), l.length ≤ f → ∃ sl rest, l = encL sl ++ rest ∧ AllS sl ∧ (rest = [] ∨ Bad rest)
  | 0, l, h => ⟨[], l, rfl, allS_nil, .inl (List.length_eq_zero_iff.1 (by omega))⟩
  | f + 1, l, h => by
    by_cases hne : l = []
    · exact ⟨[], [], by simp [hne, encL], allS_nil, .inl rfl⟩
    by_cases hv : (decodeL l).1 = 65533 ∧ (decodeL l).2 = 1
    · exact ⟨[], l, rfl, allS_nil, .inr ⟨hne, hv⟩⟩
    · have hw := decodeL_width l
      obtain ⟨sl, rest, h1, h2, h3⟩ := split_any f (l.drop (decodeL l).2) (by simp; omega)
      refine ⟨((decodeL l).1 : Int) :: sl, rest, ?_, ?_, h3⟩
      · rw [encL_cons, encode_decode l hne hv, List.append_assoc, ← h1, List.take_append_drop]
      · intro n hn
        rcases List.mem_cons.1 hn with rfl | hn
        · exact dec_sgn l hne hv
        · exact h2 n hn
theorem split_bytes (l : List UInt8) : ∃ sl rest, l = encL sl ++ rest ∧ AllS sl ∧ (rest = [] ∨ Bad rest) := split_any _ l (Nat.le_refl _)

/-- The signs of a text, and the rest, are its own. -/
theorem split_one : ∀ (a b : List Int) (r t : List UInt8), encL a ++ r = encL b ++ t → AllS a → AllS b → (r = [] ∨ Bad r) → (t = [] ∨ Bad t) → a = b ∧ r = t
  | [], [], r, t, h, _, _, _, _ => ⟨rfl, by simpa [encL] using h⟩
  | [], n :: b, r, t, h, _, hb, hr, _ => by
    exfalso
    rw [encL_nil, List.nil_append, encL_cons, List.append_assoc] at h
    rcases hr with rfl | hr
    · have := enc_len n
      have := congrArg List.length h
      simp at this; omega
    · exact dec_good n (encL b ++ t) hb.head (h ▸ hr.2)
  | n :: a, [], r, t, h, ha, _, _, ht => by
    exfalso
    rw [encL_nil, List.nil_append, encL_cons, List.append_assoc] at h
    rcases ht with rfl | ht
    · rw [List.append_eq_nil_iff] at h
      have := enc_len n
      rw [h.1] at this
      simp at this
    · exact dec_good n (encL a ++ r) ha.head (h ▸ ht.2)
  | n :: a, m :: b, r, t, h, ha, hb, hr, ht => by
    rw [encL_cons, List.append_assoc, encL_cons, List.append_assoc] at h
    have e1 := dec_enc n (encL a ++ r) ha.head
    have e2 := dec_enc m (encL b ++ t) hb.head
    rw [h, e2] at e1
    have h1 := (sgn_iff n).1 ha.head
    have h2 := (sgn_iff m).1 hb.head
    have : m = n := by have := congrArg Prod.fst e1; simp at this; omega
    subst this
    obtain ⟨x, y⟩ := split_one a b r t (List.append_cancel_left h) ha.tail hb.tail hr ht
    exact ⟨by rw [x], y⟩
end Go.Proofs.Ytehechbiajbobaa

/-
  PLAIN LEAN, NO RUN: the document's way to read one sign of bytes, arithmetic by arithmetic, against the decoder.
-/
namespace Go.Proofs.Ytehechbiajbobaa
open Go.Lib

theorem dA (N b0 b1 b2 b3 : Nat) (h : b0 < 128) : decodeN N b0 b1 b2 b3 = (b0, 1) := decodeN_ascii _ _ _ _ _ h
theorem dE (N b0 b1 b2 b3 : Nat) (h : (128 ≤ b0 ∧ b0 < 192) ∨ 248 ≤ b0) (h0 : b0 < 256) : decodeN N b0 b1 b2 b3 = (65533, 1) := by
  unfold decodeN
  rw [if_neg (by omega), if_neg (by omega), if_neg (by omega), if_neg (by omega)]
theorem dB (N b0 b1 b2 b3 n : Nat) (h : 192 ≤ b0 ∧ b0 < 224) (hn : 1 < N) (h1 : 128 ≤ b1 ∧ b1 ≤ 191) (e : n + 128 = (b0 - 192) * 64 + b1) (k : 128 ≤ n) : decodeN N b0 b1 b2 b3 = (n, 2) := by
  unfold decodeN
  rw [if_neg (by omega), if_pos ⟨by omega, by omega, by omega⟩, if_pos (by omega)]
  congr 1; omega
theorem dBbad (N b0 b1 b2 b3 : Nat) (h : 192 ≤ b0 ∧ b0 < 224) (g : N ≤ 1 ∨ b1 < 128 ∨ 191 < b1 ∨ (b0 - 192) * 64 + b1 < 256) : decodeN N b0 b1 b2 b3 = (65533, 1) := by
  unfold decodeN
  rw [if_neg (by omega)]
  split
  · rw [if_neg (by omega)]
  · rw [if_neg (by omega), if_neg (by omega)]
theorem dC (N b0 b1 b2 b3 n : Nat) (h : 224 ≤ b0 ∧ b0 < 240) (hn : 2 < N) (h1 : 128 ≤ b1 ∧ b1 ≤ 191) (h2 : 128 ≤ b2 ∧ b2 ≤ 191) (e : n + 128 * 64 + 128 = (b0 - 224) * 4096 + b1 * 64 + b2) (k : 2048 ≤ n) (g : n < 55296 ∨ 57343 < n) : decodeN N b0 b1 b2 b3 = (n, 3) := by
  unfold decodeN
  rw [if_neg (by omega), if_neg (by omega), if_pos ⟨by omega, ⟨by omega, by omega⟩, by omega, by omega⟩, if_pos (by omega)]
  congr 1; omega
theorem dCbad (N b0 b1 b2 b3 : Nat) (h : 224 ≤ b0 ∧ b0 < 240) (g : N ≤ 2 ∨ b1 < 128 ∨ 191 < b1 ∨ b2 < 128 ∨ 191 < b2 ∨ (b0 - 224) * 4096 + b1 * 64 + b2 < 2048 + 8320 ∨ (55296 + 8320 ≤ (b0 - 224) * 4096 + b1 * 64 + b2 ∧ (b0 - 224) * 4096 + b1 * 64 + b2 ≤ 57343 + 8320)) (c1 : b1 < 256) (c2 : b2 < 256) : decodeN N b0 b1 b2 b3 = (65533, 1) := by
  unfold decodeN
  rw [if_neg (by omega), if_neg (by omega)]
  split
  · rw [if_neg (by omega)]
  · rw [if_neg (by omega)]
theorem dD (N b0 b1 b2 b3 n : Nat) (h : 240 ≤ b0 ∧ b0 < 248) (hn : 3 < N) (h1 : 128 ≤ b1 ∧ b1 ≤ 191) (h2 : 128 ≤ b2 ∧ b2 ≤ 191) (h3 : 128 ≤ b3 ∧ b3 ≤ 191) (e : n + 532608 = (b0 - 240) * 262144 + b1 * 4096 + b2 * 64 + b3) (k : 65536 ≤ n) (g : n ≤ 1114111) : decodeN N b0 b1 b2 b3 = (n, 4) := by
  unfold decodeN
  rw [if_neg (by omega), if_neg (by omega), if_neg (by omega), if_pos ⟨by omega, ⟨by omega, by omega⟩, ⟨by omega, by omega⟩, by omega, by omega⟩, if_pos (by omega)]
  congr 1; omega
theorem dDbad (N b0 b1 b2 b3 : Nat) (h : 240 ≤ b0 ∧ b0 < 248) (g : N ≤ 3 ∨ b1 < 128 ∨ 191 < b1 ∨ b2 < 128 ∨ 191 < b2 ∨ b3 < 128 ∨ 191 < b3 ∨ (b0 - 240) * 262144 + b1 * 4096 + b2 * 64 + b3 < 65536 + 532608 ∨ 1114111 + 532608 < (b0 - 240) * 262144 + b1 * 4096 + b2 * 64 + b3) (c1 : b1 < 256) (c2 : b2 < 256) (c3 : b3 < 256) : decodeN N b0 b1 b2 b3 = (65533, 1) := by
  unfold decodeN
  rw [if_neg (by omega), if_neg (by omega), if_neg (by omega)]
  split
  · rw [if_neg (by omega)]
  · rfl

/-- What 'first' answers. -/
def fstF (s : ByteArray) : Int := if Utf8.decode s 0 = (65533, 1) then -1 else (Utf8.decode s 0).1
def sndF (s : ByteArray) : Int := if Utf8.decode s 0 = (65533, 1) then 0 else (Utf8.decode s 0).2
theorem F_bad (s : ByteArray) (h : Utf8.decode s 0 = (65533, 1)) : (-1 : Int) = fstF s ∧ (0 : Int) = sndF s := by unfold fstF sndF; rw [if_pos h, if_pos h]; exact ⟨rfl, rfl⟩
theorem F_ok (s : ByteArray) (n k : Nat) (h : Utf8.decode s 0 = (n, k)) (hk : k = 1 → n ≠ 65533) (a b : Int) (ha : a = n) (hb : b = k) : a = fstF s ∧ b = sndF s := by
  unfold fstF sndF
  rw [h, if_neg, if_neg]
  · exact ⟨ha, hb⟩
  · intro e; simp only [Prod.mk.injEq] at e; exact hk e.2 e.1
  · intro e; simp only [Prod.mk.injEq] at e; exact hk e.2 e.1
/-- A byte of s, or 0 behind its end. -/
def byteAt (s : ByteArray) (i : Nat) : Nat := (s.get! i).toNat
theorem byteAt_lt (s : ByteArray) (i : Nat) : byteAt s i < 256 := (s.get! i).toNat_lt
theorem byteAt_eq (s : ByteArray) (i : Nat) (h : i < s.size) : (s[i]'h).toNat = byteAt s i := by
  unfold byteAt
  have := get_at s i h
  rw [Nat.add_zero] at this
  rw [this]
theorem dec0 (s : ByteArray) : Utf8.decode s 0 = decodeN s.size (byteAt s 0) (byteAt s 1) (byteAt s 2) (byteAt s 3) := by
  rw [decode_at]; rfl
end Go.Proofs.Ytehechbiajbobaa
