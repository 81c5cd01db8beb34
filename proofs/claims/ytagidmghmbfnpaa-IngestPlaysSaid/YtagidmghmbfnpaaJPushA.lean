/-
  THE DOCUMENT's Push, all ways.
-/
import Derived.Test.YtagidmghmbfnpaaJPushK
import Derived.Test.YtagidmghmbfnpaaJPushL
namespace Go.Proofs.Ytagidmghmbfnpaa
open Go.RowKit
set_option linter.unusedVariables false

theorem jpush_any {B : Nat} {m : Mb} {vw vs vh : Value} {W : World} (h : Mm B m vw vs vh W) (ho : m.ok) (hn : (0 ≤ m.num ∧ m.num ≤ 100000) ∧ 0 ≤ m.late ∧ m.late ≤ 100000) (hB : B ≤ W.heap.size) (t q0 q1 q2 : Int) :
    Calls Try.prog 6 #[.agg (m.cells vw vs vh), .int .i64 t, .agg #[.int .i64 q0, .int .i64 q1, .int .i64 q2]] W (JPost B (m.push t q0 q1 q2) W) := by
  unfold Mb.push
  by_cases hc : m.closed = true
  · rw [if_pos hc]; exact jpush_closed h ho hn hB t q0 q1 q2 hc
  · rw [if_neg hc]
    have hc' : m.closed = false := by simpa using hc
    by_cases hi : instB t = false
    · rw [if_pos hi]; exact jpush_range h ho hn hB t q0 q1 q2 hc' hi
    · rw [if_neg hi]
      have hi' : instB t = true := by simpa using hi
      by_cases hm : (mkM m.lat (m.seen ++ m.shown)).2 = true ∧ t < (mkM m.lat (m.seen ++ m.shown)).1
      · rw [if_pos hm]; exact jpush_late h ho hn hB t q0 q1 q2 hc' hi' hm.1 hm.2
      · rw [if_neg hm]
        by_cases hf : m.room ≤ (m.wait.length : Int)
        · rw [if_pos hf]; exact jpush_full h ho hn hB t q0 q1 q2 hc' hi' hm hf
        · rw [if_neg hf]
          cases hK : (mkM m.lat (m.seen ++ m.shown)).2 with
          | false => exact jpush_ok1 h ho hn hB t q0 q1 q2 hc' hi' hf hK
          | true => exact jpush_ok2 h ho hn hB t q0 q1 q2 hc' hi' hf hK fun e => hm ⟨hK, e⟩
end Go.Proofs.Ytagidmghmbfnpaa
