/- A line of a journal: the model's and the program's. -/
import Derived.Test.YteajdbnongpkfaaDoorJ1
import Derived.OwnWalk
namespace Go.Proofs.YteajdbnongpkfaaDoor
open Go.RowKit
set_option maxHeartbeats 2000000 in
theorem spec_l07Line (s : ByteArray) (w : World) (hs : s.size ≤ 8000) :
    Calls Tryd.prog 21 #[.string s] w fun e w' => e = .returned (.bool (lineB s)) ∧ w' = w := by
  go_enter Tryd.func21, Tryd.ntmps21
  go_wp2
  go_loop [3] (fun i => ∃ k : Nat, k ≤ s.size ∧ i = .int .i64 k ∧ Hid (∀ j, j < k → 32 ≤ byteAt s j ∧ byteAt s j ≤ 126)) (fun i => s.size - (intOf i).toNat)
  case atStart => exact ⟨0, by omega, rfl, fun j h => by omega⟩
  case round =>
    obtain ⟨k, hk, rfl, H⟩ := hrel
    by_cases hlt : k < s.size
    · have e := byteAt_eq s k hlt
      by_cases h1 : byteAt s k < 32
      · have HL : Hid (lineB s = false) := lineB_no hlt (.inl h1)
        rw [← e] at h1
        have h1' : ((s[k].toNat : Int) < 32) := h1
        clear e h1
        go_wp2
        go_ret
        exact ⟨by rw [HL.out]; rfl, rfl⟩
      · by_cases h2 : 126 < byteAt s k
        · have HL : Hid (lineB s = false) := lineB_no hlt (.inr h2)
          rw [← e] at h1 h2
          clear e
          go_wp2
          go_ret
          exact ⟨by rw [HL.out]; rfl, rfl⟩
        · have HN : Hid (∀ j, j < k + 1 → 32 ≤ byteAt s j ∧ byteAt s j ≤ 126) := fun j hj => by
            rcases Nat.lt_succ_iff_lt_or_eq.1 hj with h | rfl
            · exact H.out j h
            · omega
          rw [← e] at h1 h2
          clear e
          go_wp2
          go_round
          case rel => exact ⟨k + 1, by omega, by go_num, HN⟩
          case measure => simp [intOf]; omega
    · have e : k = s.size := by omega
      subst e
      have HL : Hid (lineB s = decide (s.size ≤ 2000)) := lineB_all H.out
      by_cases g : s.size ≤ 2000
      · rw [decide_eq_true g] at HL
        go_wp2
        go_ret
        exact ⟨by rw [HL.out]; simp <;> omega, rfl⟩
      · rw [decide_eq_false g] at HL
        go_wp2
        go_ret
        exact ⟨by rw [HL.out]; simp <;> omega, rfl⟩
set_option maxHeartbeats 2000000 in
theorem impl_lineRight (s : ByteArray) (w : World) (hs : s.size ≤ 8000) :
    Calls Tryd.prog 25 #[.string s] w fun e w' => e = .returned (.bool (lineB s)) ∧ w' = w := by
  go_enter Tryd.func25, Tryd.ntmps25
  go_wp2
  go_loop [3] (fun i => ∃ k : Nat, k ≤ s.size ∧ i = .int .i64 k ∧ Hid (∀ j, j < k → 32 ≤ byteAt s j ∧ byteAt s j ≤ 126)) (fun i => s.size - (intOf i).toNat)
  case atStart => exact ⟨0, by omega, rfl, fun j h => by omega⟩
  case round =>
    obtain ⟨k, hk, rfl, H⟩ := hrel
    by_cases hlt : k < s.size
    · have e := byteAt_eq s k hlt
      by_cases h1 : byteAt s k < 32
      · have HL : Hid (lineB s = false) := lineB_no hlt (.inl h1)
        rw [← e] at h1
        have h1' : ((s[k].toNat : Int) < 32) := h1
        clear e h1
        go_wp2
        go_ret
        exact ⟨by rw [HL.out]; rfl, rfl⟩
      · by_cases h2 : 126 < byteAt s k
        · have HL : Hid (lineB s = false) := lineB_no hlt (.inr h2)
          rw [← e] at h1 h2
          clear e
          go_wp2
          go_ret
          exact ⟨by rw [HL.out]; rfl, rfl⟩
        · have HN : Hid (∀ j, j < k + 1 → 32 ≤ byteAt s j ∧ byteAt s j ≤ 126) := fun j hj => by
            rcases Nat.lt_succ_iff_lt_or_eq.1 hj with h | rfl
            · exact H.out j h
            · omega
          rw [← e] at h1 h2
          clear e
          go_wp2
          go_round
          case rel => exact ⟨k + 1, by omega, by go_num, HN⟩
          case measure => simp [intOf]; omega
    · have e : k = s.size := by omega
      subst e
      have HL : Hid (lineB s = decide (s.size ≤ 2000)) := lineB_all H.out
      by_cases g : s.size ≤ 2000
      · rw [decide_eq_true g] at HL
        go_wp2
        go_ret
        exact ⟨by rw [HL.out]; simp <;> omega, rfl⟩
      · rw [decide_eq_false g] at HL
        go_wp2
        go_ret
        exact ⟨by rw [HL.out]; simp <;> omega, rfl⟩
end Go.Proofs.YteajdbnongpkfaaDoor
