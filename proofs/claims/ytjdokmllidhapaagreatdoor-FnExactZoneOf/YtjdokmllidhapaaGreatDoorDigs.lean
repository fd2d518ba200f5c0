/- Contracts of the digits: a digit, a text of digits; the program's and the model's. -/
import Derived.Test.YtjdokmllidhapaaGreatDoorBasic
namespace Go.Proofs.YtjdokmllidhapaaGreatDoor
open Go.RowKit

def digB (c : Int) : Bool := decide (48 ≤ c ∧ c ≤ 57)
theorem digB_eq {c : Int} {b : Bool} (h : b = true ↔ (48 ≤ c ∧ c ≤ 57)) : b = digB c := by
  unfold digB; rw [Bool.eq_iff_iff]; simpa using h
/-- a byte of a text. -/
def byteAt (s : ByteArray) (k : Nat) : Int := if h : k < s.size then (s[k].toNat : Int) else 0
theorem byteAt_eq (s : ByteArray) (k : Nat) (h : k < s.size) : (s[k].toNat : Int) = byteAt s k := by unfold byteAt; rw [dif_pos h]

set_option maxHeartbeats 400000 in
theorem impl_isDigit (c : Int) (w : World) :
    Calls Tryz.prog 241 #[.int .u8 c] w fun e w' => e = .returned (.bool (digB c)) ∧ w' = w := by
  go_enter Tryz.func241, Tryz.ntmps241
  go_wp2
  all_goals go_ret
  all_goals exact ⟨ret_bool (digB_eq (by simp; omega)), rfl⟩
set_option maxHeartbeats 400000 in
theorem spec_l01Digit (c : Int) (w : World) :
    Calls Tryz.prog 129 #[.int .u8 c] w fun e w' => e = .returned (.bool (digB c)) ∧ w' = w := by
  go_enter Tryz.func129, Tryz.ntmps129
  go_wp2
  all_goals go_ret
  all_goals exact ⟨ret_bool (digB_eq (by simp; omega)), rfl⟩
theorem upto_one {p : Nat → Prop} (h : p 0) : Hid (∀ j, j < 1 → p j) := fun j hj => by
  obtain rfl : j = 0 := by omega
  exact h
theorem upto_zero {p : Nat → Prop} : Hid (∀ j, j < 0 → p j) := fun j hj => by omega
theorem upto_succ {p : Nat → Prop} {k : Nat} (h : ∀ j, j < k → p j) (hk : p k) : Hid (∀ j, j < k + 1 → p j) := fun j hj => by
  by_cases e : j = k
  · subst e; exact hk
  · exact h j (by omega)
theorem byteAt_bd (s : ByteArray) (k : Nat) : 0 ≤ byteAt s k ∧ byteAt s k ≤ 255 := by
  unfold byteAt; split
  · rename_i h
    have := s[k].toNat_lt
    omega
  · omega
theorem digB_t {c : Int} (h : digB c = true) : 48 ≤ c ∧ c ≤ 57 := of_decide_eq_true h
/-- the number that the first k bytes of a text of digits tell. -/
def numAt (s : ByteArray) : Nat → Int
  | 0 => 0
  | k + 1 => 10 * numAt s k + (byteAt s k - 48)
/-- a text of digits alone, at least one. -/
def digs (s : ByteArray) : Bool := decide (1 ≤ s.size ∧ ∀ i, i < s.size → digB (byteAt s i) = true)
theorem digs_t {s : ByteArray} (h : digs s = true) : 1 ≤ s.size ∧ ∀ i, i < s.size → digB (byteAt s i) = true := of_decide_eq_true h
theorem digs_no0 {s : ByteArray} (h : s.size = 0) : digs s = false := decide_eq_false fun hn => by omega
theorem digs_no {s : ByteArray} {k : Nat} (hk : k < s.size) (h : digB (byteAt s k) = false) : digs s = false := decide_eq_false fun hn => by rw [hn.2 k hk] at h; cases h
theorem digs_yes {s : ByteArray} (h1 : 1 ≤ s.size) (h : ∀ i, i < s.size → digB (byteAt s i) = true) : digs s = true := decide_eq_true ⟨h1, h⟩
theorem numAt_bd {s : ByteArray} {k : Nat} (h : ∀ j, j < k → digB (byteAt s j) = true) : 0 ≤ numAt s k ∧ numAt s k + 1 ≤ 10 ^ k := by
  induction k with
  | zero => simp [numAt]
  | succ k ih =>
    have ⟨a, b⟩ := ih (fun j hj => h j (by omega))
    have ⟨c, d⟩ := digB_t (h k (by omega))
    simp only [numAt]
    have e : (10 : Int) ^ (k + 1) = 10 * 10 ^ k := by rw [Int.pow_succ]; omega
    rw [e]
    omega
theorem numAt_bd9 {s : ByteArray} {k : Nat} (hk : k ≤ 9) (h : ∀ j, j < k → digB (byteAt s j) = true) : 0 ≤ numAt s k ∧ numAt s k ≤ 999999999 := by
  have ⟨a, b⟩ := numAt_bd h
  have e : (10 : Int) ^ k ≤ 10 ^ 9 := by
    have := Nat.pow_le_pow_right (n := 10) (by omega) hk
    exact_mod_cast this
  omega
/-- what digitsRead tells. -/
def drN (s : ByteArray) : Int := if digs s = true then numAt s s.size else 0
theorem drN_t {s : ByteArray} (h : digs s = true) : drN s = numAt s s.size := by unfold drN; rw [if_pos h]
theorem drN_f {s : ByteArray} (h : digs s = false) : drN s = 0 := by unfold drN; rw [h]; rfl
theorem ret_pair {a b : Int} {c d : Bool} (h1 : a = b) (h2 : c = d) : Ending.returned (.tuple #[.int .i64 a, .bool c]) = .returned (.tuple #[.int .i64 b, .bool d]) := by rw [h1, h2]

set_option maxHeartbeats 1000000 in
theorem impl_digitsRead (s : ByteArray) (w : World) (hs : s.size ≤ 9) :
    Calls Tryz.prog 301 #[.string s] w fun e w' => e = .returned (.tuple #[.int .i64 (drN s), .bool (digs s)]) ∧ w' = w := by
  by_cases h0 : s.size = 0
  · have h := digs_no0 h0
    rw [drN_f h, h]
    have hs0 : s = ⟨#[]⟩ := by
      apply ByteArray.ext
      have : s.data.size = 0 := h0
      exact Array.eq_empty_of_size_eq_zero this
    subst hs0
    go_enter Tryz.func301, Tryz.ntmps301
    go_wp2
    go_ret2
    exact ⟨rfl, rfl⟩
  · have hne : s.toList.isEmpty = false := by
      rw [ByteArray.toList_eq]
      cases hl : s.data.toList with
      | nil => exact absurd (by have := congrArg List.length hl; simpa using this) h0
      | cons _ _ => rfl
    go_enter Tryz.func301, Tryz.ntmps301
    go_wp2
    go_loop [4, 5] (fun x i => ∃ k : Nat, k ≤ s.size ∧ i = .int .i64 k ∧ x = .int .i64 (numAt s k) ∧ Hid (∀ j, j < k → digB (byteAt s j) = true)) (fun _ i => s.size - (intOf i).toNat)
    case atStart => exact ⟨0, by omega, rfl, rfl, upto_zero⟩
    case round =>
      obtain ⟨k, hk, rfl, rfl, hall⟩ := hrel
      by_cases hlt : k < s.size
      · have hB := fun w => impl_isDigit (byteAt s k) w
        have nb := numAt_bd9 (s := s) (k := k) (by omega) hall.out
        have e := byteAt_eq s k hlt
        cases hb : digB (byteAt s k)
        · have HB : Hid (digs s = false) := digs_no hlt hb
          rw [hb, ← e] at hB
          clear hb e
          go_wp2_with (go_at_call 241; refine (hB _).mono ?_; rintro e w' ⟨rfl, rfl⟩)
          go_ret2
          exact ⟨ret_pair (drN_f HB.out).symm HB.out.symm, rfl⟩
        · have HB : Hid (digB (byteAt s k) = true) := hb
          have ⟨b1, b2⟩ := digB_t hb
          have HN : Hid (numAt s (k + 1) = 10 * numAt s k + ((s[k].toNat : Int) - 48)) := by simp only [Hid, numAt]; rw [e]
          rw [hb, ← e] at hB
          rw [← e] at b1 b2
          clear hb e
          go_wp2_with (go_at_call 241; refine (hB _).mono ?_; rintro e w' ⟨rfl, rfl⟩)
          go_round
          case rel => exact ⟨k + 1, by omega, by go_num, by rw [HN.out]; congr 1; omega, upto_succ hall.out HB.out⟩
          case measure => simp [intOf]; omega
      · have e : k = s.size := by omega
        subst e
        have HB : Hid (digs s = true) := digs_yes (by omega) hall.out
        go_wp2
        go_ret2
        exact ⟨ret_pair (drN_t HB.out).symm HB.out.symm, rfl⟩

/-- what the model's l01Digits tells. -/
def ldN (s : ByteArray) : Int := if digs s = true then numAt s s.size else -1
theorem ldN_t {s : ByteArray} (h : digs s = true) : ldN s = numAt s s.size := by unfold ldN; rw [if_pos h]
theorem ldN_f {s : ByteArray} (h : digs s = false) : ldN s = -1 := by unfold ldN; rw [h]; rfl
set_option maxHeartbeats 1000000 in
theorem spec_l01Digits (s : ByteArray) (w : World) (hs : s.size ≤ 9) :
    Calls Tryz.prog 296 #[.string s] w fun e w' => e = .returned (.int .i64 (ldN s)) ∧ w' = w := by
  by_cases h0 : s.size < 1
  · have h := digs_no0 (s := s) (by omega)
    rw [ldN_f h]
    go_enter Tryz.func296, Tryz.ntmps296
    go_wp2
    go_ret
    exact ⟨rfl, rfl⟩
  · go_enter Tryz.func296, Tryz.ntmps296
    go_wp2
    go_loop [3, 4] (fun x i => ∃ k : Nat, k ≤ s.size ∧ i = .int .i64 k ∧ x = .int .i64 (numAt s k) ∧ Hid (∀ j, j < k → digB (byteAt s j) = true)) (fun _ i => s.size - (intOf i).toNat)
    case atStart => exact ⟨0, by omega, rfl, rfl, upto_zero⟩
    case round =>
      obtain ⟨k, hk, rfl, rfl, hall⟩ := hrel
      by_cases hlt : k < s.size
      · have hB := fun w => spec_l01Digit (byteAt s k) w
        have nb := numAt_bd9 (s := s) (k := k) (by omega) hall.out
        have e := byteAt_eq s k hlt
        cases hb : digB (byteAt s k)
        · have HB : Hid (digs s = false) := digs_no hlt hb
          rw [hb, ← e] at hB
          clear hb e
          go_wp2_with (go_at_call 129; refine (hB _).mono ?_; rintro e w' ⟨rfl, rfl⟩)
          go_ret
          exact ⟨ret_int (ldN_f HB.out).symm, rfl⟩
        · have HB : Hid (digB (byteAt s k) = true) := hb
          have ⟨b1, b2⟩ := digB_t hb
          have HN : Hid (numAt s (k + 1) = 10 * numAt s k + ((s[k].toNat : Int) - 48)) := by simp only [Hid, numAt]; rw [e]
          rw [hb, ← e] at hB
          rw [← e] at b1 b2
          clear hb e
          go_wp2_with (go_at_call 129; refine (hB _).mono ?_; rintro e w' ⟨rfl, rfl⟩)
          go_round
          case rel => exact ⟨k + 1, by omega, by go_num, by rw [HN.out], upto_succ hall.out HB.out⟩
          case measure => simp [intOf]; omega
      · have e : k = s.size := by omega
        subst e
        have HB : Hid (digs s = true) := digs_yes (by omega) hall.out
        go_wp2
        go_ret
        exact ⟨ret_int (ldN_t HB.out).symm, rfl⟩
end Go.Proofs.YtjdokmllidhapaaGreatDoor
