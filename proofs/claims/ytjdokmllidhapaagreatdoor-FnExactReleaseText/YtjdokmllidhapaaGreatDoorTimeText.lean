/- Contracts of TimeText, the program's and the model's. -/
import Derived.Test.YtjdokmllidhapaaGreatDoorDateOf
import Derived.Test.YtjdokmllidhapaaGreatDoorTexts
import Derived.Lib.QuietBelow
namespace Go.Proofs.YtjdokmllidhapaaGreatDoor
open Go.RowKit Go.Sort

def dateL (y m d : Nat) : List UInt8 := padL y 4 ++ 45 :: padL m 2 ++ 45 :: padL d 2
def clockL (s : Nat) : List UInt8 := padL (s / 3600) 2 ++ 58 :: padL (s / 60 % 60) 2 ++ 58 :: padL (s % 60) 2
/-- the text of a time. -/
def timeL (n : Int) : List UInt8 := dateL (yOf (n / 86400)).toNat (mOf (n / 86400)).toNat (dOf (n / 86400)).toNat ++ 32 :: clockL (n % 86400).toNat
def timeV (n : Int) : List UInt8 := if isB n (-62135596800) 253402300799 = true then timeL n else []

theorem pad4 {u : Nat} (h : u < 10000) : (padL u 4).length = 4 := by
  have := dd_len4 h
  unfold padL
  simp; omega
theorem dd_len2 {u : Nat} (h : u < 100) : (Lib.decDigits u).length ≤ 2 := by
  by_cases h1 : u < 10
  · rw [Lib.decDigits_one h1]; simp
  · rw [Lib.decDigits_two h1 h]; simp
theorem pad2 {u : Nat} (h : u < 100) : (padL u 2).length = 2 := by
  have := dd_len2 h
  unfold padL
  simp; omega
theorem dateL_len {y m d : Nat} (hy : y < 10000) (hm : m < 100) (hd : d < 100) : (dateL y m d).length = 10 := by
  unfold dateL; simp [pad4 hy, pad2 hm, pad2 hd]
theorem clockL_len {s : Nat} (hs : s < 86400) : (clockL s).length = 8 := by
  unfold clockL; simp [pad2 (u := s / 3600) (by omega), pad2 (u := s / 60 % 60) (by omega), pad2 (u := s % 60) (by omega)]
/-- the fields of a time's date, as numbers that are not below 0. -/
theorem date_nat {n : Int} (h1 : -719162 ≤ n) (h2 : n ≤ 2932896) : ∃ y m d : Nat, yOf n = y ∧ mOf n = m ∧ dOf n = d ∧ 1 ≤ y ∧ y < 10000 ∧ 1 ≤ m ∧ m ≤ 12 ∧ 1 ≤ d ∧ d ≤ 31 := by
  have ⟨a, b, c, d, e, f⟩ := vld_t (vld_of h1 h2)
  have := Cal.dim_bd (yOf n) (mOf n)
  exact ⟨(yOf n).toNat, (mOf n).toNat, (dOf n).toNat, by omega, by omega, by omega, by omega, by omega, by omega, by omega, by omega, by omega⟩

theorem impl_dayAndClock (n : Int) (w : World) (h1 : -62135596800 ≤ n) (h2 : n ≤ 253402300799) :
    Calls Tryz.prog 222 #[.int .i64 n] w fun e w' => e = .returned (.tuple #[.int .i64 (n / 86400), .int .i64 (n % 86400)]) ∧ w' = w := by
  have e1 : Hid (-719162 + (n + 62135596800) / 86400 = n / 86400) := by simp only [Hid]; omega
  have e2 : Hid ((n + 62135596800) % 86400 = n % 86400) := by simp only [Hid]; omega
  go_enter Tryz.func222, Tryz.ntmps222
  go_wp2
  go_ret2
  exact ⟨by rw [← e1.out, ← e2.out]; rfl, rfl⟩
set_option maxHeartbeats 400000 in
theorem impl_isTimeX (n : Int) (w : World) :
    Calls Tryz.prog 210 #[.int .i64 n] w fun e w' => e = .returned (.bool (isB n (-62135596800) 253402300799)) ∧ w' = w := by
  by_cases h : -62135596800 ≤ n
  · go_enter Tryz.func210, Tryz.ntmps210
    go_wp2
    go_ret
    exact ⟨ret_bool (by unfold isB; simp [h]), rfl⟩
  · go_enter Tryz.func210, Tryz.ntmps210
    go_wp2
    go_ret
    exact ⟨ret_bool (isB_f (by omega)).symm, rfl⟩
theorem timeV_ok {n : Int} (h1 : -62135596800 ≤ n) (h2 : n ≤ 253402300799) : timeV n = timeL n := by unfold timeV; rw [if_pos (isB_t h1 h2)]
theorem timeV_no {n : Int} (h : isB n (-62135596800) 253402300799 = false) : timeV n = [] := by unfold timeV; rw [h]; rfl
set_option maxHeartbeats 400000 in
theorem spec_l01Floor (n : Int) (w : World) (h1 : -62135596800 ≤ n) (h2 : n ≤ 253402300799) :
    Calls Tryz.prog 153 #[.int .i64 n, .int .i64 86400] w fun e w' => e = .returned (.int .i64 (n / 86400)) ∧ w' = w := by
  by_cases h : 0 ≤ n
  · have hz : (0 : Int) ≤ n % 86400 := by omega
    go_enter Tryz.func153, Tryz.ntmps153
    go_wp2
    go_ret
    exact ⟨ret_int (by omega), rfl⟩
  · obtain ⟨u, rfl⟩ : ∃ u : Nat, n = -(u : Int) := ⟨n.natAbs, by omega⟩
    go_enter Tryz.func153, Tryz.ntmps153
    go_wp2
    all_goals go_ret
    all_goals exact ⟨ret_int (by omega), rfl⟩
set_option maxHeartbeats 400000 in
theorem spec_l01Time (n : Int) (w : World) :
    Calls Tryz.prog 203 #[.int .i64 n] w fun e w' => e = .returned (.bool (isB n (-62135596800) 253402300799)) ∧ w' = w := by
  go_enter Tryz.func203, Tryz.ntmps203
  go_wp2_with (go_at_call 47; refine (spec_l01Is _ _ _ _).mono ?_; rintro e w' ⟨rfl, rfl⟩)
  go_ret
  exact ⟨rfl, rfl⟩
theorem spec_l01Time_v {n : Int} {b : Bool} (h : isB n (-62135596800) 253402300799 = b) (w : World) :
    Calls Tryz.prog 203 #[.int .i64 n] w fun e w' => e = .returned (.bool b) ∧ w' = w := h ▸ spec_l01Time n w
theorem wrapI64 (n : Int) (h0 : 0 ≤ n) (h1 : n < 100000) : IntKind.i64.wrap n = n := by
  exact wrap_small n h0 (by omega)
end Go.Proofs.YtjdokmllidhapaaGreatDoor
