/- What is asked of an era's format. -/
import Derived.Test.YtjdokmllidhapaaGreatDoorRight2
import Derived.Test.YtjdokmllidhapaaGreatDoorShelf
namespace Go.Proofs.YtjdokmllidhapaaGreatDoor
open Go.RowKit

/-- a byte of a format. -/
def fbB (c : Int) : Bool := letB c || (digB c || (c == 43 || (c == 45 || (c == 37 || c == 47))))
/-- how many of the first k bytes are a stroke. -/
def strokes (s : ByteArray) : Nat → Int
  | 0 => 0
  | k + 1 => strokes s k + (if byteAt s k = 47 then 1 else 0)
theorem strokes_bd (s : ByteArray) (k : Nat) : 0 ≤ strokes s k ∧ strokes s k ≤ k := by
  induction k with
  | zero => simp [strokes]
  | succ k ih => simp only [strokes]; split <;> omega
def fmtB (s : ByteArray) : Bool := decide (1 ≤ s.size ∧ s.size ≤ 12 ∧ strokes s s.size ≤ 1 ∧ ∀ i, i < s.size → fbB (byteAt s i) = true)
theorem fmt_no {s : ByteArray} (h : ¬ (1 ≤ s.size ∧ s.size ≤ 12 ∧ strokes s s.size ≤ 1)) : fmtB s = false := decide_eq_false fun hn => h ⟨hn.1, hn.2.1, hn.2.2.1⟩
theorem fmt_no3 {s : ByteArray} {k : Nat} (hk : k < s.size) (h : fbB (byteAt s k) = false) : fmtB s = false := decide_eq_false fun hn => by rw [hn.2.2.2 k hk] at h; cases h
theorem fmt_yes {s : ByteArray} (h1 : 1 ≤ s.size) (h2 : s.size ≤ 12) (h3 : strokes s s.size ≤ 1) (h : ∀ i, i < s.size → fbB (byteAt s i) = true) : fmtB s = true := decide_eq_true ⟨h1, h2, h3, h⟩
theorem fbB_eq {c : Int} {b : Bool} (h : b = true ↔ (letB c = true ∨ digB c = true ∨ c = 43 ∨ c = 45 ∨ c = 37 ∨ c = 47)) : b = fbB c := by
  unfold fbB; rw [Bool.eq_iff_iff, h]; simp
set_option maxHeartbeats 1000000 in
theorem impl_isFormatByte (c : Int) (w : World) :
    Calls Tryz.prog 247 #[.int .u8 c] w fun e w' => e = .returned (.bool (fbB c)) ∧ w' = w := by
  have hL := fun w => impl_isLetter c w
  have hD := fun w => impl_isDigit c w
  unfold fbB
  generalize letB c = b1 at *
  generalize digB c = b2 at *
  go_enter Tryz.func247, Tryz.ntmps247
  go_wp2_with fail
  refine (hL _).mono ?_
  rintro e w1 ⟨rfl, rfl⟩
  cases b1
  case true =>
    go_wp2
    go_ret
    exact ⟨ret_bool (by simp), rfl⟩
  go_wp2_with fail
  refine (hD _).mono ?_
  rintro e w1 ⟨rfl, rfl⟩
  cases b2
  case true =>
    go_wp2
    go_ret
    exact ⟨ret_bool (by simp), rfl⟩
  go_wp2
  all_goals go_ret
  all_goals exact ⟨ret_bool (by first | (simp_all; done) | simp [Bool.or_assoc]), rfl⟩
theorem strokes_count (s : ByteArray) (k : Nat) (hk : k ≤ s.size) : strokes s k = ((s.data.toList.take k).count 47 : Nat) := by
  have hz : s.data.toList.length = s.size := by rw [Array.length_toList]; rfl
  induction k with
  | zero => simp [strokes]
  | succ k ih =>
    have hlt : k < s.data.toList.length := by omega
    have e : byteAt s k = (s.data.toList[k].toNat : Int) := by
      rw [← byteAt_eq s k (by omega)]; rfl
    rw [List.take_add_one, List.getElem?_eq_getElem hlt, List.count_append, strokes, ih (by omega), e]
    by_cases h : s.data.toList[k] = 47
    · rw [h]; simp
    · have h2 : ¬ (s.data.toList[k].toNat : Int) = 47 := fun hn => h (by
        apply UInt8.toNat_inj.mp
        show s.data.toList[k].toNat = 47
        omega)
      have hc : List.count 47 [s.data.toList[k]] = 0 := List.count_eq_zero_of_not_mem (by simpa using fun hn => h hn.symm)
      rw [if_neg h2, Option.toList_some, hc]
      simp
theorem strokes_all (s : ByteArray) : (Lib.countByte s.data.toList 47 : Int) = strokes s s.size := by
  have hz : s.data.toList.length = s.size := by rw [Array.length_toList]; rfl
  rw [strokes_count s s.size (Nat.le_refl _), List.take_of_length_le (by omega)]
  rfl
set_option maxHeartbeats 1000000 in
theorem impl_formatRight (s : ByteArray) (w : World) (hs : s.size ≤ maxLen) :
    Calls Tryz.prog 209 #[.string s] w fun e w' => e = .returned (.bool (fmtB s)) ∧ w' = w := by
  unfold maxLen at hs
  by_cases h1 : s.size < 1
  · rw [fmt_no (by omega)]
    go_enter Tryz.func209, Tryz.ntmps209
    go_wp2
    go_ret
    exact ⟨rfl, rfl⟩
  by_cases h2 : 12 < s.size
  · rw [fmt_no (by omega)]
    go_enter Tryz.func209, Tryz.ntmps209
    go_wp2
    go_ret
    exact ⟨rfl, rfl⟩
  have hC := fun w => Tryz.strings_Count_one s 47 w
  rw [strokes_all] at hC
  by_cases h3 : 1 < strokes s s.size
  · rw [fmt_no (by omega)]
    generalize strokes s s.size = n at *
    go_enter Tryz.func209, Tryz.ntmps209
    go_wp2_with (go_at_call 108; refine (hC _).mono ?_; rintro e w' ⟨rfl, rfl⟩)
    go_ret
    exact ⟨rfl, rfl⟩
  have h3' : Hid (strokes s s.size ≤ 1) := by simp only [Hid]; omega
  generalize hn : strokes s s.size = n at hC h3
  go_enter Tryz.func209, Tryz.ntmps209
  go_wp2_with (go_at_call 108; refine (hC _).mono ?_; rintro e w' ⟨rfl, rfl⟩)
  go_loop [19] (fun i => ∃ k : Nat, k ≤ s.size ∧ i = .int .i64 k ∧ Hid (∀ j, j < k → fbB (byteAt s j) = true)) (fun i => s.size - (intOf i).toNat)
  case atStart => exact ⟨0, by omega, rfl, upto_zero⟩
  case round =>
    obtain ⟨k, hk, rfl, hall⟩ := hrel
    by_cases hlt : k < s.size
    · have hB := fun w => impl_isFormatByte (byteAt s k) w
      have e := byteAt_eq s k hlt
      cases hb : fbB (byteAt s k)
      · have HB : Hid (fmtB s = false) := fmt_no3 hlt hb
        rw [hb, ← e] at hB
        clear hb e
        go_wp2_with (go_at_call 247; refine (hB _).mono ?_; rintro e w' ⟨rfl, rfl⟩)
        go_ret
        exact ⟨ret_bool HB.out.symm, rfl⟩
      · have HB : Hid (∀ j, j < k + 1 → fbB (byteAt s j) = true) := upto_succ hall.out hb
        rw [hb, ← e] at hB
        clear hb e
        go_wp2_with (go_at_call 247; refine (hB _).mono ?_; rintro e w' ⟨rfl, rfl⟩)
        go_round
        case rel => exact ⟨k + 1, by omega, by go_num, HB⟩
        case measure => simp [intOf]; omega
    · have e : k = s.size := by omega
      subst e
      have HB : Hid (fmtB s = true) := fmt_yes (by omega) (by omega) h3'.out hall.out
      go_wp2
      go_ret
      exact ⟨ret_bool HB.out.symm, rfl⟩
set_option maxHeartbeats 2000000 in
theorem spec_l02Format (s : ByteArray) (w : World) (hs : s.size ≤ maxLen) :
    Calls Tryz.prog 202 #[.string s] w fun e w' => e = .returned (.bool (fmtB s)) ∧ w' = w := by
  unfold maxLen at hs
  go_enter Tryz.func202, Tryz.ntmps202
  go_wp2
  go_loop [3, 4] (fun x i => ∃ k : Nat, k ≤ s.size ∧ i = .int .i64 k ∧ x = .int .i64 (strokes s k) ∧ Hid (∀ j, j < k → fbB (byteAt s j) = true)) (fun _ i => s.size - (intOf i).toNat)
  case atStart => exact ⟨0, by omega, rfl, rfl, upto_zero⟩
  case round =>
    obtain ⟨k, hk, rfl, rfl, hall⟩ := hrel
    have sb := strokes_bd s k
    by_cases hlt : k < s.size
    · have hL := fun w => spec_l01Letter (byteAt s k) w
      have hD := fun w => spec_l01Digit (byteAt s k) w
      have e := byteAt_eq s k hlt
      by_cases h47 : byteAt s k = 47
      · have HN : Hid (strokes s (k + 1) = strokes s k + 1) := by simp only [Hid, strokes]; rw [if_pos h47]
        have HB : Hid (∀ j, j < k + 1 → fbB (byteAt s j) = true) := upto_succ hall.out (by rw [h47]; decide)
        have g : ((s[k].toNat : Int) == 47) = true := by rw [e, h47]; rfl
        clear e h47 hL hD
        go_wp2
        go_round
        case rel => exact ⟨k + 1, by omega, by go_num, by rw [HN.out], HB⟩
        case measure => simp [intOf]; omega
      · have HN : Hid (strokes s (k + 1) = strokes s k) := by simp only [Hid, strokes]; rw [if_neg h47]; omega
        have g : ((s[k].toNat : Int) == 47) = false := by rw [e]; simpa using h47
        cases hb : fbB (byteAt s k)
        · have HB : Hid (fmtB s = false) := fmt_no3 hlt hb
          unfold fbB at hb
          simp only [Bool.or_eq_false_iff] at hb
          obtain ⟨q1, q2, q3, q4, q5, _⟩ := hb
          rw [q1, ← e] at hL
          rw [q2, ← e] at hD
          rw [← e] at q3 q4 q5
          have q3' : ((s[k].toNat : Int) != 43) = true := by simpa using q3
          have q4' : ((s[k].toNat : Int) != 45) = true := by simpa using q4
          have q5' : ((s[k].toNat : Int) != 37) = true := by simpa using q5
          clear e h47 q1 q2 q3 q4 q5
          go_wp2_with (first | (go_at_call 128; refine (hL _).mono ?_; rintro e w' ⟨rfl, rfl⟩) | (go_at_call 129; refine (hD _).mono ?_; rintro e w' ⟨rfl, rfl⟩))
          go_ret
          exact ⟨ret_bool HB.out.symm, rfl⟩
        · have HB : Hid (∀ j, j < k + 1 → fbB (byteAt s j) = true) := upto_succ hall.out hb
          have hc : letB (byteAt s k) = true ∨ (letB (byteAt s k) = false ∧ digB (byteAt s k) = true) ∨ (letB (byteAt s k) = false ∧ digB (byteAt s k) = false ∧ byteAt s k = 43) ∨ (letB (byteAt s k) = false ∧ digB (byteAt s k) = false ∧ byteAt s k = 45) ∨ (letB (byteAt s k) = false ∧ digB (byteAt s k) = false ∧ byteAt s k = 37) := by
            unfold fbB at hb
            cases q1 : letB (byteAt s k)
            · cases q2 : digB (byteAt s k)
              · rw [q1, q2] at hb
                simp at hb
                rcases hb with h | h | h | h
                · exact .inr (.inr (.inl ⟨rfl, rfl, h⟩))
                · exact .inr (.inr (.inr (.inl ⟨rfl, rfl, h⟩)))
                · exact .inr (.inr (.inr (.inr ⟨rfl, rfl, h⟩)))
                · exact absurd h h47
              · exact .inr (.inl ⟨rfl, rfl⟩)
            · exact .inl rfl
          clear hb h47
          rcases hc with q1 | ⟨q1, q2⟩ | ⟨q1, q2, q3⟩ | ⟨q1, q2, q3⟩ | ⟨q1, q2, q3⟩
          · rw [q1, ← e] at hL
            clear e q1 hD
            go_wp2_with (go_at_call 128; refine (hL _).mono ?_; rintro e w' ⟨rfl, rfl⟩)
            go_round
            case rel => exact ⟨k + 1, by omega, by go_num, by rw [HN.out], HB⟩
            case measure => simp [intOf]; omega
          all_goals
            rw [q1, ← e] at hL
            rw [q2, ← e] at hD
          · clear e q1 q2
            go_wp2_with (first | (go_at_call 128; refine (hL _).mono ?_; rintro e w' ⟨rfl, rfl⟩) | (go_at_call 129; refine (hD _).mono ?_; rintro e w' ⟨rfl, rfl⟩))
            go_round
            case rel => exact ⟨k + 1, by omega, by go_num, by rw [HN.out], HB⟩
            case measure => simp [intOf]; omega
          · have t1 : ((s[k].toNat : Int) != 43) = false := by rw [e, q3]; rfl
            clear e q1 q2 q3
            go_wp2_with (first | (go_at_call 128; refine (hL _).mono ?_; rintro e w' ⟨rfl, rfl⟩) | (go_at_call 129; refine (hD _).mono ?_; rintro e w' ⟨rfl, rfl⟩))
            go_round
            case rel => exact ⟨k + 1, by omega, by go_num, by rw [HN.out], HB⟩
            case measure => simp [intOf]; omega
          · have t1 : ((s[k].toNat : Int) != 43) = true := by rw [e, q3]; rfl
            have t2 : ((s[k].toNat : Int) != 45) = false := by rw [e, q3]; rfl
            clear e q1 q2 q3
            go_wp2_with (first | (go_at_call 128; refine (hL _).mono ?_; rintro e w' ⟨rfl, rfl⟩) | (go_at_call 129; refine (hD _).mono ?_; rintro e w' ⟨rfl, rfl⟩))
            go_round
            case rel => exact ⟨k + 1, by omega, by go_num, by rw [HN.out], HB⟩
            case measure => simp [intOf]; omega
          · have t1 : ((s[k].toNat : Int) != 43) = true := by rw [e, q3]; rfl
            have t2 : ((s[k].toNat : Int) != 45) = true := by rw [e, q3]; rfl
            have t3 : ((s[k].toNat : Int) != 37) = false := by rw [e, q3]; rfl
            clear e q1 q2 q3
            go_wp2_with (first | (go_at_call 128; refine (hL _).mono ?_; rintro e w' ⟨rfl, rfl⟩) | (go_at_call 129; refine (hD _).mono ?_; rintro e w' ⟨rfl, rfl⟩))
            go_round
            case rel => exact ⟨k + 1, by omega, by go_num, by rw [HN.out], HB⟩
            case measure => simp [intOf]; omega
    · have e : k = s.size := by omega
      subst e
      by_cases h1 : 1 ≤ s.size
      · by_cases h2 : s.size ≤ 12
        · by_cases h3 : strokes s s.size ≤ 1
          · have HB : Hid (fmtB s = true) := fmt_yes h1 h2 h3 hall.out
            go_wp2
            go_ret
            exact ⟨ret_bool HB.out.symm, rfl⟩
          · have HB : Hid (fmtB s = false) := fmt_no (by omega)
            go_wp2
            go_ret
            exact ⟨ret_bool HB.out.symm, rfl⟩
        · have HB : Hid (fmtB s = false) := fmt_no (by omega)
          go_wp2
          go_ret
          exact ⟨ret_bool HB.out.symm, rfl⟩
      · have HB : Hid (fmtB s = false) := fmt_no (by omega)
        go_wp2
        go_ret
        exact ⟨ret_bool HB.out.symm, rfl⟩
end Go.Proofs.YtjdokmllidhapaaGreatDoor
