/- The closed facts of the row of FnResolve, one by one. -/
import Derived.Test.YtcelbkmnbjcjhaaRows
import Derived.ProofKit
namespace Go.Proofs.Ytcelbkmnbjcjhaa.resolveL
theorem band {a b : Bool} (h1 : a = true) (h2 : b = true) : (a && b) = true := by rw [h1, h2]; rfl
set_option maxHeartbeats 20000000 in
set_option maxRecDepth 100000 in
theorem closed : joinedFacts Try.pinned.checked.prog 4 Try.f4 (OpenSpec.ofChange Rows.fnResolveSpec).bare Rows.fnResolveRow = true := by
  unfold joinedFacts
  repeat' (with_reducible refine band ?_ ?_)
  all_goals (as_aux_lemma => kernel_rfl)
end Go.Proofs.Ytcelbkmnbjcjhaa.resolveL
