/- The closed facts of the row of FnPut, one by one. -/
import Derived.Test.YtbbgeelamjmgaaaGreatDoorCards
import Derived.ProofKit
set_option maxHeartbeats 0
set_option linter.unusedSimpArgs false
namespace Go.Proofs.YtbbgeelamjmgaaaGreatDoor.putL
theorem vgU{a b:Bool}(h1:a=true)(h2:b=true):(a&&b)=true:=by rw[h1,h2];rfl
set_option maxRecDepth 100000 in
theorem closed:joinedFacts Tryz.pinned.checked.prog 3 Tryz.f3 (OpenSpec.ofChange Rows.fnPutSpec).bare Rows.fnPutRow=true:=by
 unfold joinedFacts
 repeat' (with_reducible refine vgU ?_ ?_)
 all_goals (as_aux_lemma=>kernel_rfl)
