/- What is asked of a rule's fields: letters, saves, what a time is of. -/
import Derived.Test.YtjdokmllidhapaaGreatDoorNames
namespace Go.Proofs.YtjdokmllidhapaaGreatDoor
open Go.RowKit

def ofB (s : ByteArray) : Bool := (s.toList == [119]) || ((s.toList == [115]) || (s.toList == [117]))
set_option maxHeartbeats 400000 in
theorem impl_ofRight (s : ByteArray) (w : World) :
    Calls Tryz.prog 136 #[.string s] w fun e w' => e = .returned (.bool (ofB s)) ∧ w' = w := by
  unfold ofB
  cases h1 : (s.toList == [119])
  · cases h2 : (s.toList == [115])
    · go_enter Tryz.func136, Tryz.ntmps136
      go_wp2
      go_ret
      exact ⟨ret_bool (by simp), rfl⟩
    · go_enter Tryz.func136, Tryz.ntmps136
      go_wp2
      go_ret
      exact ⟨ret_bool (by simp), rfl⟩
  · go_enter Tryz.func136, Tryz.ntmps136
    go_wp2
    go_ret
    exact ⟨ret_bool (by simp), rfl⟩
set_option maxHeartbeats 400000 in
theorem spec_l02Of (s : ByteArray) (w : World) :
    Calls Tryz.prog 125 #[.string s] w fun e w' => e = .returned (.bool (ofB s)) ∧ w' = w := by
  unfold ofB
  cases h1 : (s.toList == [119])
  · cases h2 : (s.toList == [115])
    · go_enter Tryz.func125, Tryz.ntmps125
      go_wp2
      go_ret
      exact ⟨ret_bool (by simp), rfl⟩
    · go_enter Tryz.func125, Tryz.ntmps125
      go_wp2
      go_ret
      exact ⟨ret_bool (by simp), rfl⟩
  · go_enter Tryz.func125, Tryz.ntmps125
    go_wp2
    go_ret
    exact ⟨ret_bool (by simp), rfl⟩
set_option maxHeartbeats 400000 in
theorem impl_saveRight (n : Int) (w : World) :
    Calls Tryz.prog 119 #[.int .i64 n] w fun e w' => e = .returned (.bool (isB n (-7200) 7200)) ∧ w' = w := by
  by_cases h : -7200 ≤ n
  · go_enter Tryz.func119, Tryz.ntmps119
    go_wp2
    go_ret
    exact ⟨ret_bool (by unfold isB; simp [h]), rfl⟩
  · go_enter Tryz.func119, Tryz.ntmps119
    go_wp2
    go_ret
    exact ⟨ret_bool (isB_f (by omega)).symm, rfl⟩
set_option maxHeartbeats 400000 in
theorem spec_l02Save (n : Int) (w : World) :
    Calls Tryz.prog 58 #[.int .i64 n] w fun e w' => e = .returned (.bool (isB n (-7200) 7200)) ∧ w' = w := by
  go_enter Tryz.func58, Tryz.ntmps58
  go_wp2_with (go_at_call 47; refine (spec_l01Is _ _ _ _).mono ?_; rintro e w' ⟨rfl, rfl⟩)
  go_ret
  exact ⟨rfl, rfl⟩
set_option maxHeartbeats 400000 in
theorem impl_yearRight (n : Int) (w : World) :
    Calls Tryz.prog 134 #[.int .i64 n] w fun e w' => e = .returned (.bool (isB n 1 9999)) ∧ w' = w := by
  by_cases h : 1 ≤ n
  · go_enter Tryz.func134, Tryz.ntmps134
    go_wp2
    go_ret
    exact ⟨ret_bool (by unfold isB; simp [h]), rfl⟩
  · go_enter Tryz.func134, Tryz.ntmps134
    go_wp2
    go_ret
    exact ⟨ret_bool (isB_f (by omega)).symm, rfl⟩
/-- a byte of a rule's letter. -/
def lbB (c : Int) : Bool := letB c || (c == 43 || c == 45)
def ltB (s : ByteArray) : Bool := decide (s.size ≤ 6) && (!(s.toList == [45]) && decide (∀ i, i < s.size → lbB (byteAt s i) = true))
theorem lt_no1 {s : ByteArray} (h : 6 < s.size) : ltB s = false := by unfold ltB; rw [decide_eq_false (by omega)]; rfl
theorem lt_no2 {s : ByteArray} (h : (s.toList == [45]) = true) : ltB s = false := by unfold ltB; rw [h]; simp
theorem lt_no3 {s : ByteArray} {k : Nat} (hk : k < s.size) (h : lbB (byteAt s k) = false) : ltB s = false := by
  unfold ltB
  have : decide (∀ i, i < s.size → lbB (byteAt s i) = true) = false := decide_eq_false fun hn => by rw [hn k hk] at h; cases h
  rw [this]; simp
theorem lt_all {s : ByteArray} (h : ∀ i, i < s.size → lbB (byteAt s i) = true) : ltB s = (decide (s.size ≤ 6) && !(s.toList == [45])) := by
  unfold ltB; rw [decide_eq_true h]; simp
theorem lbB_f {c : Int} (h : lbB c = false) : letB c = false ∧ (c != 43) = true ∧ (c != 45) = true := by
  unfold lbB at h; simp at h; simpa using h
set_option maxHeartbeats 1000000 in
theorem impl_letterRight (s : ByteArray) (w : World) (hs : s.size ≤ maxLen) :
    Calls Tryz.prog 137 #[.string s] w fun e w' => e = .returned (.bool (ltB s)) ∧ w' = w := by
  unfold maxLen at hs
  by_cases h6 : 6 < s.size
  · rw [lt_no1 h6]
    go_enter Tryz.func137, Tryz.ntmps137
    go_wp2
    go_ret
    exact ⟨rfl, rfl⟩
  cases hm : (s.toList == [45])
  · go_enter Tryz.func137, Tryz.ntmps137
    go_wp2
    go_loop [14] (fun i => ∃ k : Nat, k ≤ s.size ∧ i = .int .i64 k ∧ Hid (∀ j, j < k → lbB (byteAt s j) = true)) (fun i => s.size - (intOf i).toNat)
    case atStart => exact ⟨0, by omega, rfl, upto_zero⟩
    case round =>
      obtain ⟨k, hk, rfl, hall⟩ := hrel
      by_cases hlt : k < s.size
      · have hB := fun w => impl_isLetter (byteAt s k) w
        have e := byteAt_eq s k hlt
        cases hb : lbB (byteAt s k)
        · have HB : Hid (ltB s = false) := lt_no3 hlt hb
          obtain ⟨g1, g2, g3⟩ := lbB_f hb
          rw [g1, ← e] at hB
          rw [← e] at g2 g3
          clear hb e g1
          go_wp2_with (go_at_call 205; refine (hB _).mono ?_; rintro e w' ⟨rfl, rfl⟩)
          go_ret
          exact ⟨ret_bool HB.out.symm, rfl⟩
        · have HB : Hid (∀ j, j < k + 1 → lbB (byteAt s j) = true) := upto_succ hall.out hb
          unfold lbB at hb
          cases g1 : letB (byteAt s k)
          · rw [g1] at hb hB
            simp at hb
            rw [← e] at hB hb
            by_cases g2 : (s[k].toNat : Int) = 43
            · have g2' : ((s[k].toNat : Int) != 43) = false := by simp [g2]
              clear e g1 hb g2
              go_wp2_with (go_at_call 205; refine (hB _).mono ?_; rintro e w' ⟨rfl, rfl⟩)
              go_round
              case rel => exact ⟨k + 1, by omega, by go_num, HB⟩
              case measure => simp [intOf]; omega
            · have g2' : ((s[k].toNat : Int) != 43) = true := by simpa using g2
              have g3' : ((s[k].toNat : Int) != 45) = false := by simp; omega
              clear e g1 hb g2
              go_wp2_with (go_at_call 205; refine (hB _).mono ?_; rintro e w' ⟨rfl, rfl⟩)
              go_round
              case rel => exact ⟨k + 1, by omega, by go_num, HB⟩
              case measure => simp [intOf]; omega
          · rw [g1, ← e] at hB
            clear e g1 hb
            go_wp2_with (go_at_call 205; refine (hB _).mono ?_; rintro e w' ⟨rfl, rfl⟩)
            go_round
            case rel => exact ⟨k + 1, by omega, by go_num, HB⟩
            case measure => simp [intOf]; omega
      · have e : k = s.size := by omega
        subst e
        have HB : Hid (ltB s = true) := by
          simp only [Hid]; rw [lt_all hall.out, hm]; simp; omega
        go_wp2
        go_ret
        exact ⟨ret_bool HB.out.symm, rfl⟩
  · rw [lt_no2 hm]
    go_enter Tryz.func137, Tryz.ntmps137
    go_wp2
    go_ret
    exact ⟨rfl, rfl⟩
set_option maxHeartbeats 1000000 in
theorem spec_l02Letter (s : ByteArray) (w : World) (hs : s.size ≤ maxLen) :
    Calls Tryz.prog 126 #[.string s] w fun e w' => e = .returned (.bool (ltB s)) ∧ w' = w := by
  unfold maxLen at hs
  go_enter Tryz.func126, Tryz.ntmps126
  go_wp2
  go_loop [3] (fun i => ∃ k : Nat, k ≤ s.size ∧ i = .int .i64 k ∧ Hid (∀ j, j < k → lbB (byteAt s j) = true)) (fun i => s.size - (intOf i).toNat)
  case atStart => exact ⟨0, by omega, rfl, upto_zero⟩
  case round =>
    obtain ⟨k, hk, rfl, hall⟩ := hrel
    by_cases hlt : k < s.size
    · have hB := fun w => spec_l01Letter (byteAt s k) w
      have e := byteAt_eq s k hlt
      cases hb : lbB (byteAt s k)
      · have HB : Hid (ltB s = false) := lt_no3 hlt hb
        obtain ⟨g1, g2, g3⟩ := lbB_f hb
        rw [g1, ← e] at hB
        rw [← e] at g2 g3
        clear hb e g1
        go_wp2_with (go_at_call 128; refine (hB _).mono ?_; rintro e w' ⟨rfl, rfl⟩)
        go_ret
        exact ⟨ret_bool HB.out.symm, rfl⟩
      · have HB : Hid (∀ j, j < k + 1 → lbB (byteAt s j) = true) := upto_succ hall.out hb
        unfold lbB at hb
        cases g1 : letB (byteAt s k)
        · rw [g1] at hb hB
          simp at hb
          rw [← e] at hB hb
          by_cases g2 : (s[k].toNat : Int) = 43
          · have g2' : ((s[k].toNat : Int) != 43) = false := by simp [g2]
            clear e g1 hb g2
            go_wp2_with (go_at_call 128; refine (hB _).mono ?_; rintro e w' ⟨rfl, rfl⟩)
            go_round
            case rel => exact ⟨k + 1, by omega, by go_num, HB⟩
            case measure => simp [intOf]; omega
          · have g2' : ((s[k].toNat : Int) != 43) = true := by simpa using g2
            have g3' : ((s[k].toNat : Int) != 45) = false := by simp; omega
            clear e g1 hb g2
            go_wp2_with (go_at_call 128; refine (hB _).mono ?_; rintro e w' ⟨rfl, rfl⟩)
            go_round
            case rel => exact ⟨k + 1, by omega, by go_num, HB⟩
            case measure => simp [intOf]; omega
        · rw [g1, ← e] at hB
          clear e g1 hb
          go_wp2_with (go_at_call 128; refine (hB _).mono ?_; rintro e w' ⟨rfl, rfl⟩)
          go_round
          case rel => exact ⟨k + 1, by omega, by go_num, HB⟩
          case measure => simp [intOf]; omega
    · have e : k = s.size := by omega
      subst e
      have HB : Hid (ltB s = (decide (s.size ≤ 6) && !(s.toList == [45]))) := lt_all hall.out
      by_cases h6 : s.size ≤ 6
      · go_wp2
        go_ret
        exact ⟨ret_bool (by rw [HB.out]; simp [h6]), rfl⟩
      · go_wp2
        go_ret
        exact ⟨ret_bool (by rw [HB.out]; simp [h6]), rfl⟩
end Go.Proofs.YtjdokmllidhapaaGreatDoor
