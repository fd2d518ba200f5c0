/- The closed facts of the row of FnFind, one by one. -/
import Derived.Test.YtmkjofknhdikpaaGreatDoorCards
import Derived.ProofKit
set_option maxHeartbeats 0
set_option linter.unusedSimpArgs false
namespace Go.Proofs.YtmkjofknhdikpaaGreatDoor.findL
theorem ve6{a b:Bool}(h1:a=true)(h2:b=true):(a&&b)=true:=by rw[h1,h2];rfl
set_option maxRecDepth 100000 in
theorem closed:joinedFacts Tryz.pinned.checked.prog 3 Tryz.f3 (OpenSpec.ofChange Rows.fnFindSpec).bare Rows.fnFindRow=true:=by
 unfold joinedFacts
 repeat' (with_reducible refine ve6 ?_ ?_)
 all_goals (as_aux_lemma=>kernel_rfl)
