/- Contracts of the names: letters, digits, NameRight; the program's and the model's. -/
import Derived.Test.YtjdokmllidhapaaGreatDoorDigs
namespace Go.Proofs.YtjdokmllidhapaaGreatDoor
open Go.RowKit

def letB (c : Int) : Bool := decide (97 ≤ c ∧ c ≤ 122 ∨ 65 ≤ c ∧ c ≤ 90)
def nmB (c : Int) : Bool := letB c || digB c || c == 95 || c == 47 || c == 43 || c == 45
theorem letB_eq {c : Int} {b : Bool} (h : b = true ↔ (97 ≤ c ∧ c ≤ 122 ∨ 65 ≤ c ∧ c ≤ 90)) : b = letB c := by
  unfold letB; rw [Bool.eq_iff_iff]; simpa using h
set_option maxHeartbeats 400000 in
theorem impl_isLetter (c : Int) (w : World) :
    Calls Tryz.prog 205 #[.int .u8 c] w fun e w' => e = .returned (.bool (letB c)) ∧ w' = w := by
  go_enter Tryz.func205, Tryz.ntmps205
  go_wp2
  all_goals go_ret
  all_goals exact ⟨ret_bool (letB_eq (by simp; omega)), rfl⟩
set_option maxHeartbeats 400000 in
theorem spec_l01Letter (c : Int) (w : World) :
    Calls Tryz.prog 128 #[.int .u8 c] w fun e w' => e = .returned (.bool (letB c)) ∧ w' = w := by
  go_enter Tryz.func128, Tryz.ntmps128
  go_wp2
  all_goals go_ret
  all_goals exact ⟨ret_bool (letB_eq (by simp; omega)), rfl⟩
theorem nmB_eq {c : Int} {b : Bool} (h : b = true ↔ (letB c = true ∨ digB c = true ∨ c = 95 ∨ c = 47 ∨ c = 43 ∨ c = 45)) : b = nmB c := by
  unfold nmB; rw [Bool.eq_iff_iff, h]; simp [or_assoc]
set_option maxHeartbeats 400000 in
theorem impl_isNameByte (c : Int) (w : World) :
    Calls Tryz.prog 206 #[.int .u8 c] w fun e w' => e = .returned (.bool (nmB c)) ∧ w' = w := by
  have hL := fun w => impl_isLetter c w
  have hD := fun w => impl_isDigit c w
  cases hl : letB c
  · cases hd : digB c
    · have key : ∀ b : Bool, (b = true ↔ (c = 95 ∨ c = 47 ∨ c = 43 ∨ c = 45)) → b = nmB c := fun b h => nmB_eq (by rw [hl, hd]; simpa using h)
      rw [hl] at hL
      rw [hd] at hD
      have KEY : Hid (∀ b : Bool, (b = true ↔ (c = 95 ∨ c = 47 ∨ c = 43 ∨ c = 45)) → b = nmB c) := key
      clear hl hd key
      go_enter Tryz.func206, Tryz.ntmps206
      go_wp2_with (first | (go_at_call 205; refine (hL _).mono ?_; rintro e w' ⟨rfl, rfl⟩) | (go_at_call 241; refine (hD _).mono ?_; rintro e w' ⟨rfl, rfl⟩))
      all_goals go_ret
      all_goals exact ⟨ret_bool (KEY.out _ (by (try simp) <;> (try omega))), rfl⟩
    · have key : nmB c = true := by unfold nmB; rw [hd]; simp
      rw [key]
      rw [hl] at hL
      rw [hd] at hD
      clear hl hd key
      go_enter Tryz.func206, Tryz.ntmps206
      go_wp2_with (first | (go_at_call 205; refine (hL _).mono ?_; rintro e w' ⟨rfl, rfl⟩) | (go_at_call 241; refine (hD _).mono ?_; rintro e w' ⟨rfl, rfl⟩))
      go_ret
      exact ⟨rfl, rfl⟩
  · have key : nmB c = true := by unfold nmB; rw [hl]; simp
    rw [key]
    rw [hl] at hL
    clear hl key
    go_enter Tryz.func206, Tryz.ntmps206
    go_wp2_with (first | (go_at_call 205; refine (hL _).mono ?_; rintro e w' ⟨rfl, rfl⟩) | (go_at_call 241; refine (hD _).mono ?_; rintro e w' ⟨rfl, rfl⟩))
    go_ret
    exact ⟨rfl, rfl⟩

/-- is the text a name? -/
def nameB (s : ByteArray) : Bool := decide (1 ≤ s.size ∧ s.size ≤ 20 ∧ letB (byteAt s 0) = true ∧ ∀ i, i < s.size → nmB (byteAt s i) = true)
theorem nameB_t {s : ByteArray} (h : nameB s = true) : 1 ≤ s.size ∧ s.size ≤ 20 ∧ letB (byteAt s 0) = true ∧ ∀ i, i < s.size → nmB (byteAt s i) = true := of_decide_eq_true h
theorem name_no1 {s : ByteArray} (h : ¬ (1 ≤ s.size ∧ s.size ≤ 20)) : nameB s = false := decide_eq_false fun hn => h ⟨hn.1, hn.2.1⟩
theorem name_no2 {s : ByteArray} (h : letB (byteAt s 0) = false) : nameB s = false := decide_eq_false fun hn => by rw [hn.2.2.1] at h; cases h
theorem name_no3 {s : ByteArray} {k : Nat} (hk : k < s.size) (h : nmB (byteAt s k) = false) : nameB s = false := decide_eq_false fun hn => by rw [hn.2.2.2 k hk] at h; cases h
theorem name_yes {s : ByteArray} (h1 : 1 ≤ s.size) (h2 : s.size ≤ 20) (h3 : letB (byteAt s 0) = true) (h4 : ∀ i, i < s.size → nmB (byteAt s i) = true) : nameB s = true := decide_eq_true ⟨h1, h2, h3, h4⟩
theorem nm_of_let {c : Int} (h : letB c = true) : nmB c = true := by unfold nmB; rw [h]; simp

theorem nmB_cases {c : Int} : (nmB c = true) ↔ (letB c = true ∨ digB c = true ∨ c = 95 ∨ c = 47 ∨ c = 43 ∨ c = 45) := by
  unfold nmB; simp [or_assoc]

set_option maxHeartbeats 1000000 in
theorem impl_NameRight (s : ByteArray) (w : World) (hs : s.size ≤ maxLen) :
    Calls Tryz.prog 133 #[.string s] w fun e w' => e = .returned (.bool (nameB s)) ∧ w' = w := by
  unfold maxLen at hs
  by_cases h1 : s.size < 1
  · rw [name_no1 (by omega)]
    go_enter Tryz.func133, Tryz.ntmps133
    go_wp2
    go_ret
    exact ⟨rfl, rfl⟩
  by_cases h2 : 20 < s.size
  · rw [name_no1 (by omega)]
    go_enter Tryz.func133, Tryz.ntmps133
    go_wp2
    go_ret
    exact ⟨rfl, rfl⟩
  have hb0 : 0 < s.size := by omega
  have hL := fun w => impl_isLetter (byteAt s 0) w
  rw [← byteAt_eq s 0 hb0] at hL
  cases hl : letB (byteAt s 0)
  · rw [name_no2 hl]
    rw [byteAt_eq s 0 hb0, hl, ← byteAt_eq s 0 hb0] at hL
    clear hl
    go_enter Tryz.func133, Tryz.ntmps133
    go_wp2_with (go_at_call 205; refine (hL _).mono ?_; rintro e w' ⟨rfl, rfl⟩)
    go_ret
    exact ⟨rfl, rfl⟩
  · rw [byteAt_eq s 0 hb0, hl, ← byteAt_eq s 0 hb0] at hL
    have hN := nm_of_let hl
    have HL : Hid (letB (byteAt s 0) = true) := hl
    have HN : Hid (nmB (byteAt s 0) = true) := hN
    clear hl hN
    go_enter Tryz.func133, Tryz.ntmps133
    go_wp2_with (go_at_call 205; refine (hL _).mono ?_; rintro e w' ⟨rfl, rfl⟩)
    go_loop [3] (fun i => ∃ k : Nat, 1 ≤ k ∧ k ≤ s.size ∧ i = .int .i64 k ∧ Hid (∀ j, j < k → nmB (byteAt s j) = true)) (fun i => s.size - (intOf i).toNat)
    case atStart => exact ⟨1, by omega, by omega, rfl, upto_one HN.out⟩
    case round =>
      obtain ⟨k, k1, k2, rfl, hall⟩ := hrel
      by_cases hlt : k < s.size
      · have hB := fun w => impl_isNameByte (byteAt s k) w
        cases hb : nmB (byteAt s k)
        · have HB : Hid (nmB (byteAt s k) = false) := hb
          rw [hb, ← byteAt_eq s k hlt] at hB
          clear hb
          go_wp2_with (go_at_call 206; refine (hB _).mono ?_; rintro e w' ⟨rfl, rfl⟩)
          go_ret
          exact ⟨ret_bool (name_no3 hlt HB.out).symm, rfl⟩
        · have HB : Hid (nmB (byteAt s k) = true) := hb
          rw [hb, ← byteAt_eq s k hlt] at hB
          clear hb
          go_wp2_with (go_at_call 206; refine (hB _).mono ?_; rintro e w' ⟨rfl, rfl⟩)
          go_round
          case rel => exact ⟨k + 1, by omega, by omega, by go_num, upto_succ hall.out HB.out⟩
          case measure => simp [intOf]; omega
      · go_wp2
        go_ret
        exact ⟨ret_bool (name_yes (by omega) (by omega) HL.out (fun i hi => hall.out i (by omega))).symm, rfl⟩
set_option maxHeartbeats 2000000 in
theorem spec_NameRight (s : ByteArray) (w : World) (hs : s.size ≤ maxLen) :
    Calls Tryz.prog 64 #[.string s] w fun e w' => e = .returned (.bool (nameB s)) ∧ w' = w := by
  unfold maxLen at hs
  by_cases h1 : s.size < 1
  · rw [name_no1 (by omega)]
    go_enter Tryz.func64, Tryz.ntmps64
    go_wp2
    go_ret
    exact ⟨rfl, rfl⟩
  by_cases h2 : 20 < s.size
  · rw [name_no1 (by omega)]
    go_enter Tryz.func64, Tryz.ntmps64
    go_wp2
    go_ret
    exact ⟨rfl, rfl⟩
  have hb0 : 0 < s.size := by omega
  have hL := fun w => spec_l01Letter (byteAt s 0) w
  rw [← byteAt_eq s 0 hb0] at hL
  cases hl : letB (byteAt s 0)
  · rw [name_no2 hl]
    rw [byteAt_eq s 0 hb0, hl, ← byteAt_eq s 0 hb0] at hL
    clear hl
    go_enter Tryz.func64, Tryz.ntmps64
    go_wp2_with (go_at_call 128; refine (hL _).mono ?_; rintro e w' ⟨rfl, rfl⟩)
    go_ret
    exact ⟨rfl, rfl⟩
  · rw [byteAt_eq s 0 hb0, hl, ← byteAt_eq s 0 hb0] at hL
    have HL : Hid (letB (byteAt s 0) = true) := hl
    clear hl
    go_enter Tryz.func64, Tryz.ntmps64
    go_wp2_with (go_at_call 128; refine (hL _).mono ?_; rintro e w' ⟨rfl, rfl⟩)
    clear hL
    go_loop [3] (fun i => ∃ k : Nat, k ≤ s.size ∧ i = .int .i64 k ∧ Hid (∀ j, j < k → nmB (byteAt s j) = true)) (fun i => s.size - (intOf i).toNat)
    case atStart => exact ⟨0, by omega, rfl, upto_zero⟩
    case round =>
      obtain ⟨k, k2, rfl, hall⟩ := hrel
      by_cases hlt : k < s.size
      · have hN : Hid (nmB (byteAt s k) = false → nameB s = false) := fun h => name_no3 hlt h
        have hC : Hid (nmB (byteAt s k) = true ↔ _) := nmB_cases
        have hB := fun w => spec_l01Letter (byteAt s k) w
        have hD := fun w => spec_l01Digit (byteAt s k) w
        have e := byteAt_eq s k hlt
        cases hl : letB (byteAt s k)
        · cases hd : digB (byteAt s k)
          · rw [hl, ← e] at hB
            rw [hd, ← e] at hD
            rw [hl, hd] at hC
            by_cases ho : byteAt s k = 95 ∨ byteAt s k = 47 ∨ byteAt s k = 43 ∨ byteAt s k = 45
            · have HB : Hid (nmB (byteAt s k) = true) := hC.out.2 (by simpa using ho)
              rw [← e] at ho
              clear hl hd e hC hN
              rcases ho with ho | ho | ho | ho
              all_goals
                rw [ho] at hB hD
                go_wp2_with (first | (go_at_call 128; refine (hB _).mono ?_; rintro e w' ⟨rfl, rfl⟩) | (go_at_call 129; refine (hD _).mono ?_; rintro e w' ⟨rfl, rfl⟩))
                go_round
                case rel => exact ⟨k + 1, by omega, by go_num, upto_succ hall.out HB.out⟩
                case measure => simp [intOf]; omega
            · have HB : Hid (nmB (byteAt s k) = false) := by
                cases h : nmB (byteAt s k)
                · rfl
                · exact absurd (hC.out.1 h) (by simpa using ho)
              rw [← e] at ho
              have o1 : ((s[k].toNat : Int) != 95) = true := by simp; omega
              have o2 : ((s[k].toNat : Int) != 47) = true := by simp; omega
              have o3 : ((s[k].toNat : Int) != 43) = true := by simp; omega
              have o4 : ((s[k].toNat : Int) != 45) = true := by simp; omega
              clear hl hd e hC ho
              go_wp2_with (first | (go_at_call 128; refine (hB _).mono ?_; rintro e w' ⟨rfl, rfl⟩) | (go_at_call 129; refine (hD _).mono ?_; rintro e w' ⟨rfl, rfl⟩))
              go_ret
              exact ⟨ret_bool (hN.out HB.out).symm, rfl⟩
          · have HB : Hid (nmB (byteAt s k) = true) := by unfold nmB; rw [hd]; simp [Hid]
            rw [hl, ← e] at hB
            rw [hd, ← e] at hD
            clear hl hd e hC hN
            go_wp2_with (first | (go_at_call 128; refine (hB _).mono ?_; rintro e w' ⟨rfl, rfl⟩) | (go_at_call 129; refine (hD _).mono ?_; rintro e w' ⟨rfl, rfl⟩))
            go_round
            case rel => exact ⟨k + 1, by omega, by go_num, upto_succ hall.out HB.out⟩
            case measure => simp [intOf]; omega
        · have HB : Hid (nmB (byteAt s k) = true) := nm_of_let hl
          rw [hl, ← e] at hB
          clear hl e hC hN
          go_wp2_with (first | (go_at_call 128; refine (hB _).mono ?_; rintro e w' ⟨rfl, rfl⟩) | (go_at_call 129; refine (hD _).mono ?_; rintro e w' ⟨rfl, rfl⟩))
          go_round
          case rel => exact ⟨k + 1, by omega, by go_num, upto_succ hall.out HB.out⟩
          case measure => simp [intOf]; omega
      · go_wp2
        go_ret
        exact ⟨ret_bool (name_yes (by omega) (by omega) HL.out (fun i hi => hall.out i (by omega))).symm, rfl⟩
end Go.Proofs.YtjdokmllidhapaaGreatDoor
