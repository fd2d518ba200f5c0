/- A day's text that tells a day is short. -/
import Derived.Test.YtbbhpfobcelbfaaGreatDoorOnPt
import Derived.Test.YtbbhpfobcelbfaaGreatDoorRightQt
namespace Go.Proofs.YtbbhpfobcelbfaaGreatDoor
open Go.RowKit

theorem on_short {s : ByteArray} (h : onB s = true) : s.size ≤ 8000 := by
  have hy : ymB 2000 1 = true := by decide
  have h1 : moV 2000 1 s ≠ -1000000 := by
    unfold onB toldV at h
    rw [hy, if_pos rfl, on_same hy] at h
    simpa using h
  have nb : ∀ t : ByteArray, nbV 2000 1 t ≠ -1000000 → t.size ≤ 2 := fun t ht => by
    rcases Nat.lt_or_ge 2 t.size with e | e
    · exact absurd (nb_size e) ht
    · exact e
  unfold moV at h1
  split at h1
  · rename_i hA
    have := hA.1
    unfold aB at this
    simp at this
    omega
  · split at h1
    · have := nb _ (from_no h1).2
      simp [ByteArray.size_extract] at this
      omega
    · split at h1
      · have := nb _ (upto_no h1).2
        simp [ByteArray.size_extract] at this
        omega
      · have := nb _ h1
        omega
end Go.Proofs.YtbbhpfobcelbfaaGreatDoor
