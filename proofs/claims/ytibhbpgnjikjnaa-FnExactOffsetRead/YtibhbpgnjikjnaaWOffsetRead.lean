/- The walk of the law FnExactOffsetRead. -/
import Derived.Test.YtibhbpgnjikjnaaOffset5
namespace Go.Proofs.Ytibhbpgnjikjnaa.offsetRead
open Go.RowKit

set_option maxHeartbeats 1000000 in
theorem walk (s : ByteArray) (w : World) (hs : s.size ≤ maxLen) :
    Calls Try.prog 5 #[.string s] w fun e w' => e = .returned (.bool true) ∧ Below w.heap.size w w' := by
  have hI := fun w => impl_OffsetRead_all s w hs
  have hS := fun w => spec_OffsetRead_all s w hs
  unfold maxLen at hs
  generalize orNN s = n at *
  generalize orCC s = c at *
  by_cases h : 1048576 < s.size
  · go_enter Try.func5, Try.ntmps5
    go_wp2
    go_ret
    exact ⟨rfl, Below.refl _ _⟩
  · go_enter Try.func5, Try.ntmps5
    go_wp2_with fail
    refine (hS _).mono ?_
    rintro e w1 ⟨rfl, hb1⟩
    have hz1 := hb1.size
    go_wp2_with fail
    refine (hI _).mono ?_
    rintro e w2 ⟨rfl, hb2⟩
    obtain ⟨hc2, hf2⟩ := bcell hb2
    have hz2 : w1.heap.size < w2.heap.size := by have := hb2.size; simp at this; omega
    have hB : Below w.heap.size w w2 := (hb1.alloc hz1 _).trans (hb2.mono (by simp; omega))
    have hz3 : w1.heap.size ≠ w2.heap.size := by omega
    go_wp2_with fail
    refine (laws_eqNumOut n c _).mono ?_
    rintro e w3 ⟨rfl, hb3⟩
    go_wp2
    go_ret
    exact ⟨rfl, (hB.alloc hB.size _).trans (hb3.mono (by simp; have := hB.size; omega))⟩
end Go.Proofs.Ytibhbpgnjikjnaa.offsetRead
