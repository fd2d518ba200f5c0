/- Contracts of the digits: a digit, a text of digits; the program's and the model's. -/
import Derived.Test.YteajdbnongpkfaaDoorBasic
namespace Go.Proofs.YteajdbnongpkfaaDoor
open Go.RowKit

def digB (c : Int) : Bool := decide (48 ≤ c ∧ c ≤ 57)
theorem digB_eq {c : Int} {b : Bool} (h : b = true ↔ (48 ≤ c ∧ c ≤ 57)) : b = digB c := by
  unfold digB; rw [Bool.eq_iff_iff]; simpa using h
/-- a byte of a text. -/
def byteAt (s : ByteArray) (k : Nat) : Int := if h : k < s.size then (s[k].toNat : Int) else 0
theorem byteAt_eq (s : ByteArray) (k : Nat) (h : k < s.size) : (s[k].toNat : Int) = byteAt s k := by unfold byteAt; rw [dif_pos h]

theorem upto_one {p : Nat → Prop} (h : p 0) : Hid (∀ j, j < 1 → p j) := fun j hj => by
  obtain rfl : j = 0 := by omega
  exact h
theorem upto_zero {p : Nat → Prop} : Hid (∀ j, j < 0 → p j) := fun j hj => by omega
theorem upto_succ {p : Nat → Prop} {k : Nat} (h : ∀ j, j < k → p j) (hk : p k) : Hid (∀ j, j < k + 1 → p j) := fun j hj => by
  by_cases e : j = k
  · subst e; exact hk
  · exact h j (by omega)
theorem byteAt_bd (s : ByteArray) (k : Nat) : 0 ≤ byteAt s k ∧ byteAt s k ≤ 255 := by
  unfold byteAt; split
  · rename_i h
    have := s[k].toNat_lt
    omega
  · omega
theorem digB_t {c : Int} (h : digB c = true) : 48 ≤ c ∧ c ≤ 57 := of_decide_eq_true h
/-- the number that the first k bytes of a text of digits tell. -/
def numAt (s : ByteArray) : Nat → Int
  | 0 => 0
  | k + 1 => 10 * numAt s k + (byteAt s k - 48)
/-- a text of digits alone, at least one. -/
def digs (s : ByteArray) : Bool := decide (1 ≤ s.size ∧ ∀ i, i < s.size → digB (byteAt s i) = true)
theorem digs_t {s : ByteArray} (h : digs s = true) : 1 ≤ s.size ∧ ∀ i, i < s.size → digB (byteAt s i) = true := of_decide_eq_true h
theorem digs_no0 {s : ByteArray} (h : s.size = 0) : digs s = false := decide_eq_false fun hn => by omega
theorem digs_no {s : ByteArray} {k : Nat} (hk : k < s.size) (h : digB (byteAt s k) = false) : digs s = false := decide_eq_false fun hn => by rw [hn.2 k hk] at h; cases h
theorem digs_yes {s : ByteArray} (h1 : 1 ≤ s.size) (h : ∀ i, i < s.size → digB (byteAt s i) = true) : digs s = true := decide_eq_true ⟨h1, h⟩
theorem numAt_bd {s : ByteArray} {k : Nat} (h : ∀ j, j < k → digB (byteAt s j) = true) : 0 ≤ numAt s k ∧ numAt s k + 1 ≤ 10 ^ k := by
  induction k with
  | zero => simp [numAt]
  | succ k ih =>
    have ⟨a, b⟩ := ih (fun j hj => h j (by omega))
    have ⟨c, d⟩ := digB_t (h k (by omega))
    simp only [numAt]
    have e : (10 : Int) ^ (k + 1) = 10 * 10 ^ k := by rw [Int.pow_succ]; omega
    rw [e]
    omega
theorem numAt_bd9 {s : ByteArray} {k : Nat} (hk : k ≤ 9) (h : ∀ j, j < k → digB (byteAt s j) = true) : 0 ≤ numAt s k ∧ numAt s k ≤ 999999999 := by
  have ⟨a, b⟩ := numAt_bd h
  have e : (10 : Int) ^ k ≤ 10 ^ 9 := by
    have := Nat.pow_le_pow_right (n := 10) (by omega) hk
    exact_mod_cast this
  omega
/-- what digitsRead tells. -/
def drN (s : ByteArray) : Int := if digs s = true then numAt s s.size else 0
theorem drN_t {s : ByteArray} (h : digs s = true) : drN s = numAt s s.size := by unfold drN; rw [if_pos h]
theorem drN_f {s : ByteArray} (h : digs s = false) : drN s = 0 := by unfold drN; rw [h]; rfl
theorem ret_pair {a b : Int} {c d : Bool} (h1 : a = b) (h2 : c = d) : Ending.returned (.tuple #[.int .i64 a, .bool c]) = .returned (.tuple #[.int .i64 b, .bool d]) := by rw [h1, h2]

/-- what the model's l01Digits tells. -/
def ldN (s : ByteArray) : Int := if digs s = true then numAt s s.size else -1
theorem ldN_t {s : ByteArray} (h : digs s = true) : ldN s = numAt s s.size := by unfold ldN; rw [if_pos h]
theorem ldN_f {s : ByteArray} (h : digs s = false) : ldN s = -1 := by unfold ldN; rw [h]; rfl
end Go.Proofs.YteajdbnongpkfaaDoor
