/- The closed facts of the row of FnExactHapsOf, one by one. -/
import Derived.Test.YtbbhpfobcelbfaaGreatDoorCards
import Derived.ProofKit
namespace Go.Proofs.YtbbhpfobcelbfaaGreatDoor.hapsOf
theorem band {a b : Bool} (h1 : a = true) (h2 : b = true) : (a && b) = true := by rw [h1, h2]; rfl
set_option maxHeartbeats 20000000 in
set_option maxRecDepth 100000 in
theorem closed : joinedFacts Tryz.pinned.checked.prog 5 Tryz.f5 (OpenSpec.ofChange Rows.fnExactHapsOfSpec).bare Rows.fnExactHapsOfRow = true := by
  unfold joinedFacts
  repeat' (with_reducible refine band ?_ ?_)
  all_goals (as_aux_lemma => kernel_rfl)
end Go.Proofs.YtbbhpfobcelbfaaGreatDoor.hapsOf
