/- Contracts of DateOf, the program's and the model's: the date of a day's number. -/
import Derived.Test.YtbbhpfobcelbfaaGreatDoorDaysq
namespace Go.Proofs.YtbbhpfobcelbfaaGreatDoor
open Go.RowKit

/-- the year, the month, the day of a day's number. -/
def yOf (n : Int) : Int := Cal.yr (n + 719162)
def mOf (n : Int) : Int := Cal.mon (yOf n) (n + 719162 - Cal.dby (yOf n))
def dOf (n : Int) : Int := n + 719162 - Cal.dby (yOf n) - Cal.cum (yOf n) (mOf n) + 1
theorem yOf_bd {n : Int} (h1 : -719162 ≤ n) (h2 : n ≤ 2932896) : 1 ≤ yOf n ∧ yOf n ≤ 9999 ∧ Cal.dby (yOf n) ≤ n + 719162 ∧ n + 719162 < Cal.dby (yOf n + 1) := by
  have ⟨a, b, c⟩ := Cal.yr_spec (n + 719162) (by omega)
  exact ⟨a, Cal.yr_hi _ (by omega) (by omega), b, c⟩
theorem rest_bd {n : Int} (h1 : -719162 ≤ n) (h2 : n ≤ 2932896) : 0 ≤ n + 719162 - Cal.dby (yOf n) ∧ n + 719162 - Cal.dby (yOf n) < 365 + Cal.lp (yOf n) := by
  have ⟨a, b, c, d⟩ := yOf_bd h1 h2
  have := Cal.dby_succ (yOf n) a
  omega
theorem mOf_bd {n : Int} (h1 : -719162 ≤ n) (h2 : n ≤ 2932896) : 1 ≤ mOf n ∧ mOf n ≤ 12 ∧ Cal.cum (yOf n) (mOf n) ≤ n + 719162 - Cal.dby (yOf n) ∧ n + 719162 - Cal.dby (yOf n) < Cal.cum (yOf n) (mOf n + 1) := by
  have ⟨a, b⟩ := rest_bd h1 h2
  have ⟨c, d⟩ := Cal.mon_bd (yOf n) (n + 719162 - Cal.dby (yOf n))
  have ⟨e, f⟩ := Cal.mon_spec (yOf n) (n + 719162 - Cal.dby (yOf n)) a b
  exact ⟨c, d, e, f⟩
theorem vld_of {n : Int} (h1 : -719162 ≤ n) (h2 : n ≤ 2932896) : vldB (yOf n) (mOf n) (dOf n) = true := by
  have ⟨a, b, _, _⟩ := yOf_bd h1 h2
  have ⟨c, d, e, f⟩ := mOf_bd h1 h2
  have := Cal.cum_succ (yOf n) (mOf n) c d
  exact vld_mk ⟨a, b, c, d, by unfold dOf; omega, by unfold dOf; omega⟩
theorem num_of {n : Int} : num (yOf n) (mOf n) (dOf n) = n := by unfold num dOf; omega
/-- where a month's loop ends, it is the month. -/
theorem mon_end {y r j : Int} (j1 : 1 ≤ j) (j2 : j ≤ 12) (h0 : 0 ≤ r) (h1 : r < 365 + Cal.lp y) (h2 : Cal.cum y j ≤ r) (h3 : r - Cal.cum y j < Cal.dim y j) : Cal.mon y r = j := by
  have ⟨c, d⟩ := Cal.mon_bd y r
  have ⟨e, f⟩ := Cal.mon_spec y r h0 h1
  have := Cal.cum_succ y j j1 j2
  exact Cal.month_unique c d j1 j2 e f h2 (by omega)
/-- a month's loop never passes December. -/
theorem mon_go {y r j : Int} (j1 : 1 ≤ j) (j2 : j ≤ 12) (h1 : r < 365 + Cal.lp y) (h3 : Cal.dim y j ≤ r - Cal.cum y j) : j < 12 := by
  have := Cal.cum_succ y j j1 j2
  rcases Int.lt_or_le j 12 with h | h
  · exact h
  · have e : j = 12 := by omega
    subst e
    have := Cal.cum_13 y
    simp only [Int.reduceAdd] at *
    omega

/-- DateOf's three fields. -/
def yV (n : Int) : Int := if isB n (-719162) 2932896 = true then yOf n else 0
def mV (n : Int) : Int := if isB n (-719162) 2932896 = true then mOf n else 0
def dV (n : Int) : Int := if isB n (-719162) 2932896 = true then dOf n else 0
theorem ymd_ok {n : Int} (h : isB n (-719162) 2932896 = true) : yV n = yOf n ∧ mV n = mOf n ∧ dV n = dOf n := by unfold yV mV dV; simp [h]
theorem ymd_no {n : Int} (h : isB n (-719162) 2932896 = false) : yV n = 0 ∧ mV n = 0 ∧ dV n = 0 := by unfold yV mV dV; simp [h]
end Go.Proofs.YtbbhpfobcelbfaaGreatDoor
