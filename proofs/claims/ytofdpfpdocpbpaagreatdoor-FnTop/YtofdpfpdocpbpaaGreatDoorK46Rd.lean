/- The law's desk: its lines of rules. -/
import Derived.Test.YtofdpfpdocpbpaaGreatDoorKLd
set_option maxHeartbeats 20000000
set_option linter.unusedSimpArgs false
namespace Go.Proofs.YtofdpfpdocpbpaaGreatDoor
open Go.RowKit
theorem jl4:∀c,c<30->jdr (jar (yS c)) (jrc (yS c))=true
 |0,_=>by as_aux_lemma=>kernel_rfl
 |1,_=>by as_aux_lemma=>kernel_rfl
 |2,_=>by as_aux_lemma=>kernel_rfl
 |3,_=>by as_aux_lemma=>kernel_rfl
 |4,_=>by as_aux_lemma=>kernel_rfl
 |5,_=>by as_aux_lemma=>kernel_rfl
 |6,_=>by as_aux_lemma=>kernel_rfl
 |7,_=>by as_aux_lemma=>kernel_rfl
 |8,_=>by as_aux_lemma=>kernel_rfl
 |9,_=>by as_aux_lemma=>kernel_rfl
 |10,_=>by as_aux_lemma=>kernel_rfl
 |11,_=>by as_aux_lemma=>kernel_rfl
 |12,_=>by as_aux_lemma=>kernel_rfl
 |13,_=>by as_aux_lemma=>kernel_rfl
 |14,_=>by as_aux_lemma=>kernel_rfl
 |15,_=>by as_aux_lemma=>kernel_rfl
 |16,_=>by as_aux_lemma=>kernel_rfl
 |17,_=>by as_aux_lemma=>kernel_rfl
 |18,_=>by as_aux_lemma=>kernel_rfl
 |19,_=>by as_aux_lemma=>kernel_rfl
 |20,_=>by as_aux_lemma=>kernel_rfl
 |21,_=>by as_aux_lemma=>kernel_rfl
 |22,_=>by as_aux_lemma=>kernel_rfl
 |23,_=>by as_aux_lemma=>kernel_rfl
 |24,_=>by as_aux_lemma=>kernel_rfl
 |25,_=>by as_aux_lemma=>kernel_rfl
 |26,_=>by as_aux_lemma=>kernel_rfl
 |27,_=>by as_aux_lemma=>kernel_rfl
 |28,_=>by as_aux_lemma=>kernel_rfl
 |29,_=>by as_aux_lemma=>kernel_rfl
 |_+30,h=>absurd h (by omega)
theorem j7t:∀c,c<30->jz6 (yS c) 43 83 103=true
 |0,_=>by as_aux_lemma=>kernel_rfl
 |1,_=>by as_aux_lemma=>kernel_rfl
 |2,_=>by as_aux_lemma=>kernel_rfl
 |3,_=>by as_aux_lemma=>kernel_rfl
 |4,_=>by as_aux_lemma=>kernel_rfl
 |5,_=>by as_aux_lemma=>kernel_rfl
 |6,_=>by as_aux_lemma=>kernel_rfl
 |7,_=>by as_aux_lemma=>kernel_rfl
 |8,_=>by as_aux_lemma=>kernel_rfl
 |9,_=>by as_aux_lemma=>kernel_rfl
 |10,_=>by as_aux_lemma=>kernel_rfl
 |11,_=>by as_aux_lemma=>kernel_rfl
 |12,_=>by as_aux_lemma=>kernel_rfl
 |13,_=>by as_aux_lemma=>kernel_rfl
 |14,_=>by as_aux_lemma=>kernel_rfl
 |15,_=>by as_aux_lemma=>kernel_rfl
 |16,_=>by as_aux_lemma=>kernel_rfl
 |17,_=>by as_aux_lemma=>kernel_rfl
 |18,_=>by as_aux_lemma=>kernel_rfl
 |19,_=>by as_aux_lemma=>kernel_rfl
 |20,_=>by as_aux_lemma=>kernel_rfl
 |21,_=>by as_aux_lemma=>kernel_rfl
 |22,_=>by as_aux_lemma=>kernel_rfl
 |23,_=>by as_aux_lemma=>kernel_rfl
 |24,_=>by as_aux_lemma=>kernel_rfl
 |25,_=>by as_aux_lemma=>kernel_rfl
 |26,_=>by as_aux_lemma=>kernel_rfl
 |27,_=>by as_aux_lemma=>kernel_rfl
 |28,_=>by as_aux_lemma=>kernel_rfl
 |29,_=>by as_aux_lemma=>kernel_rfl
 |_+30,h=>absurd h (by omega)
end Go.Proofs.YtofdpfpdocpbpaaGreatDoor
