/- The walk of the law FnExactDateOf. -/
import Derived.Test.YtibhbpgnjikjnaaDoorDateOf
namespace Go.Proofs.YtibhbpgnjikjnaaDoor.dateOf
open Go.RowKit

set_option maxHeartbeats 1000000 in
theorem walk (n : Int) (w : World) (hT : Tab w) :
    Calls Tryd.prog 8 #[.int .i64 n] w fun e w' => e = .returned (.bool true) ∧ Below w.heap.size w w' := by
  have hI := fun w h => impl_DateOf n w h
  have hS := fun w => spec_DateOf n w
  generalize yV n = y at *
  generalize mV n = m at *
  generalize dV n = d at *
  go_enter Tryd.func8, Tryd.ntmps8
  go_wp2_with fail
  refine (hS _).mono ?_
  rintro e w1 ⟨rfl, hb1⟩
  have hT1 : Tab w1 := hT.of_below hb1
  have hz1 := hb1.size
  go_wp2_with fail
  refine (hI _ (hT1.alloc _)).mono ?_
  rintro e w2 ⟨rfl, hb2⟩
  obtain ⟨hc2, hf2⟩ := bcell hb2
  have hz2 : w1.heap.size < w2.heap.size := by have := hb2.size; simp at this; omega
  have hB : Below w.heap.size w w2 := (hb1.alloc hz1 _).trans (hb2.mono (by simp; omega))
  have hz3 : w1.heap.size ≠ w2.heap.size := by omega
  go_wp2_with fail
  refine (laws_eqDate y m d _).mono ?_
  rintro e w3 ⟨rfl, hb3⟩
  go_wp2
  go_ret
  exact ⟨rfl, (hB.alloc hB.size _).trans (hb3.mono (by simp; have := hB.size; omega))⟩
end Go.Proofs.YtibhbpgnjikjnaaDoor.dateOf
