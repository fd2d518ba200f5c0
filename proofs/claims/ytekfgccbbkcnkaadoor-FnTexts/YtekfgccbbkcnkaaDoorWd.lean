/- Contracts of the weekdays, the program's and the model's. -/
import Derived.Test.YtekfgccbbkcnkaaDoorBasic
namespace Go.Proofs.YtekfgccbbkcnkaaDoor
open Go.RowKit

/-- the weekday of a day's number, -1 outside. -/
def wdv (n : Int) : Int := if isB n (-719162) 2932896 = true then (n + 719163) % 7 else -1
theorem wdv_ok {n : Int} (h1 : -719162 ≤ n) (h2 : n ≤ 2932896) : wdv n = (n + 719163) % 7 := by unfold wdv; rw [if_pos (isB_t h1 h2)]
theorem wdv_no {n : Int} (h : ¬ (-719162 ≤ n ∧ n ≤ 2932896)) : wdv n = -1 := by unfold wdv; rw [isB_f h]; rfl

end Go.Proofs.YtekfgccbbkcnkaaDoor
