/-
  THE DOCUMENT's Scan, plain: keys put in their places; the same list as what the program tells.
-/
import Derived.Test.YtoiigplflmejmaaSScanG
import Derived.Test.YtoiigplflmejmaaSKaddC
namespace Go.Proofs.Ytoiigplflmejmaa
open Go.RowKit Go.Shelf
set_option linter.unusedVariables false
set_option linter.unusedSimpArgs false
set_option maxRecDepth 100000

/-- A key put ahead of the first that isn't less. -/
def insD (o : Int) (k : Kt) : List Kt → List Kt
  | [] => [k]
  | x :: l => if ltK o x k = true then x :: insD o k l else k :: x :: l
def scanD (p : Kt) (L : List Kt) : List Kt := L.foldl (fun out k => if fitK p k = true then insD (ordK p) k out else out) []
theorem insD_perm (o : Int) (k : Kt) : ∀ l : List Kt, (insD o k l).Perm (k :: l)
  | [] => .refl _
  | x :: l => by
    show (if ltK o x k = true then x :: insD o k l else k :: x :: l).Perm _
    split
    · exact ((insD_perm o k l).cons x).trans (List.Perm.swap k x l)
    · exact .refl _
/-- Where it is put. -/
theorem insD_at (o : Int) (k : Kt) : ∀ l : List Kt, insD o k l = l.takeWhile (fun x => ltK o x k) ++ k :: l.dropWhile (fun x => ltK o x k)
  | [] => rfl
  | x :: l => by
    show (if ltK o x k = true then x :: insD o k l else k :: x :: l) = _
    rw [List.takeWhile_cons, List.dropWhile_cons]
    split
    · rw [insD_at o k l]; rfl
    · rfl
theorem insD_rs {o : Int} {k : Kt} : ∀ {l : List Kt}, Rs o l → k ∉ l → Rs o (insD o k l)
  | [], _, _ => List.pairwise_singleton _ _
  | x :: l, h, hk => by
    have hx := List.pairwise_cons.1 h
    show Rs o (if ltK o x k = true then x :: insD o k l else k :: x :: l)
    split
    · rename_i hlt
      refine List.pairwise_cons.2 ⟨fun z hz => ?_, insD_rs hx.2 (fun e => hk (.tail _ e))⟩
      rcases List.mem_cons.1 ((insD_perm o k l).mem_iff.1 hz) with rfl | hz
      · exact hlt
      · exact hx.1 z hz
    · rename_i hlt
      have hkx : ltK o k x = true := by
        cases e : ltK o k x with
        | true => rfl
        | false =>
          have := ltK_tot e (by simpa using hlt)
          exact absurd (this ▸ List.Mem.head _) hk
      refine List.pairwise_cons.2 ⟨fun z hz => ?_, h⟩
      rcases List.mem_cons.1 hz with rfl | hz
      · exact hkx
      · exact ltK_tr hkx (hx.1 z hz)
theorem scan_fold {p : Kt} : ∀ {L acc : List Kt}, (L.foldl (fun out k => if fitK p k = true then insD (ordK p) k out else out) acc).Perm (L.filter (fitK p) ++ acc)
  | [], acc => .refl _
  | k :: L, acc => by
    rw [List.foldl_cons, List.filter_cons]
    split
    · refine scan_fold.trans ?_
      refine ((insD_perm (ordK p) k acc).append_left _).trans ?_
      exact List.perm_middle
    · exact scan_fold
theorem scan_perm (p : Kt) (L : List Kt) : (scanD p L).Perm (L.filter (fitK p)) := by
  have := scan_fold (p := p) (L := L) (acc := [])
  rwa [List.append_nil] at this
theorem scan_len (p : Kt) (L : List Kt) : (scanD p L).length = (L.filter (fitK p)).length := (scan_perm p L).length_eq
theorem scan_rsF {p : Kt} : ∀ {L acc : List Kt}, L.Nodup → Rs (ordK p) acc → (∀ k ∈ L, k ∉ acc) → Rs (ordK p) (L.foldl (fun out k => if fitK p k = true then insD (ordK p) k out else out) acc)
  | [], acc, _, h, _ => h
  | k :: L, acc, hn, h, hd => by
    have hn := List.nodup_cons.1 hn
    rw [List.foldl_cons]
    split
    · refine scan_rsF hn.2 (insD_rs h (hd k (.head _))) (fun z hz e => ?_)
      rcases List.mem_cons.1 ((insD_perm _ _ _).mem_iff.1 e) with rfl | e
      · exact hn.1 hz
      · exact hd z (.tail _ hz) e
    · exact scan_rsF hn.2 h (fun z hz => hd z (.tail _ hz))
theorem scan_rs {p : Kt} {L : List Kt} (h : L.Nodup) : Rs (ordK p) (scanD p L) := scan_rsF h List.Pairwise.nil (fun k _ e => by cases e)
theorem rs_one {o : Int} {a b : List Kt} (ha : Rs o a) (hb : Rs o b) (h : a.Perm b) : a = b :=
  List.Perm.eq_of_pairwise (fun x y _ _ h1 h2 => by have := ltK_tr h1 h2; rw [ltK_irr] at this; cases this) ha hb h
/-- What the program tells is the document's list. -/
theorem told_scan {p : Kt} {m L xs : List Kt} (h : ToldS p m xs) (hp : L.Perm m) (hn : ∀ k ∈ m, nnK k) : xs = scanD p L := by
  obtain ⟨l, i, hlm, hsi, hrs, rfl⟩ := h
  have hnl : l.Nodup := hrs.nodup
  have hnL : L.Nodup := (hlm.trans hp.symm).nodup hnl
  have htr : Rs (ordK p) (toldK l i p) := (List.Pairwise.sublist (List.drop_sublist _ _) hrs).sublist (List.takeWhile_sublist _)
  refine rs_one htr (scan_rs hnL) ?_
  refine List.Perm.trans ?_ (scan_perm p L).symm
  refine (List.perm_ext_iff_of_nodup (told_nodup hrs) (hnL.sublist List.filter_sublist)).2 fun k => ?_
  rw [List.mem_filter]
  constructor
  · intro hk
    have hkl : k ∈ l := List.mem_of_mem_drop (List.IsPrefix.subset (List.takeWhile_prefix _) hk)
    have := (told_mem hrs hsi (hn k (hlm.mem_iff.1 hkl))).1 hk
    exact ⟨hp.mem_iff.2 (hlm.mem_iff.1 this.1), this.2⟩
  · rintro ⟨h1, h2⟩
    have hkm := hp.mem_iff.1 h1
    exact (told_mem hrs hsi (hn k hkm)).2 ⟨hlm.mem_iff.2 hkm, h2⟩
end Go.Proofs.Ytoiigplflmejmaa
