/- The closed facts of the row of FnExactReleaseText, one by one. -/
import Derived.Test.YtjdokmllidhapaaGreatDoorCards
import Derived.ProofKit
namespace Go.Proofs.YtjdokmllidhapaaGreatDoor.releaseText
theorem band {a b : Bool} (h1 : a = true) (h2 : b = true) : (a && b) = true := by rw [h1, h2]; rfl
set_option maxHeartbeats 20000000 in
set_option maxRecDepth 100000 in
theorem closed : joinedFacts Tryz.pinned.checked.prog 6 Tryz.f6 (OpenSpec.ofChange Rows.fnExactReleaseTextSpec).bare Rows.fnExactReleaseTextRow = true := by
  unfold joinedFacts
  repeat' (with_reducible refine band ?_ ?_)
  all_goals (as_aux_lemma => kernel_rfl)
end Go.Proofs.YtjdokmllidhapaaGreatDoor.releaseText
