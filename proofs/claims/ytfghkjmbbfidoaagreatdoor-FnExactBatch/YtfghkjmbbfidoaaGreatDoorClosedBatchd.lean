/- The closed facts of the row of FnExactBatch, one by one. -/
import Derived.Test.YtfghkjmbbfidoaaGreatDoorCards
import Derived.ProofKit
set_option maxHeartbeats 0
set_option linter.unusedSimpArgs false
namespace Go.Proofs.YtfghkjmbbfidoaaGreatDoor.batch
theorem band{a b:Bool}(h1:a=true)(h2:b=true):(a&&b)=true:=by rw[h1,h2];rfl
set_option maxRecDepth 100000 in
theorem closed:joinedFacts Tryz.pinned.checked.prog 3 Tryz.f3 (OpenSpec.ofChange Rows.fnExactBatchSpec).bare Rows.fnExactBatchRow=true:=by
 unfold joinedFacts
 repeat' (with_reducible refine band ?_ ?_)
 all_goals (as_aux_lemma=>kernel_rfl)
