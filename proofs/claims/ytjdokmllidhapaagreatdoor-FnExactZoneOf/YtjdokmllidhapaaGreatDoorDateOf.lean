/- Contracts of DateOf, the program's and the model's: the date of a day's number. -/
import Derived.Test.YtjdokmllidhapaaGreatDoorDays
namespace Go.Proofs.YtjdokmllidhapaaGreatDoor
open Go.RowKit

/-- the year, the month, the day of a day's number. -/
def yOf (n : Int) : Int := Cal.yr (n + 719162)
def mOf (n : Int) : Int := Cal.mon (yOf n) (n + 719162 - Cal.dby (yOf n))
def dOf (n : Int) : Int := n + 719162 - Cal.dby (yOf n) - Cal.cum (yOf n) (mOf n) + 1
theorem yOf_bd {n : Int} (h1 : -719162 ≤ n) (h2 : n ≤ 2932896) : 1 ≤ yOf n ∧ yOf n ≤ 9999 ∧ Cal.dby (yOf n) ≤ n + 719162 ∧ n + 719162 < Cal.dby (yOf n + 1) := by
  have ⟨a, b, c⟩ := Cal.yr_spec (n + 719162) (by omega)
  exact ⟨a, Cal.yr_hi _ (by omega) (by omega), b, c⟩
theorem rest_bd {n : Int} (h1 : -719162 ≤ n) (h2 : n ≤ 2932896) : 0 ≤ n + 719162 - Cal.dby (yOf n) ∧ n + 719162 - Cal.dby (yOf n) < 365 + Cal.lp (yOf n) := by
  have ⟨a, b, c, d⟩ := yOf_bd h1 h2
  have := Cal.dby_succ (yOf n) a
  omega
theorem mOf_bd {n : Int} (h1 : -719162 ≤ n) (h2 : n ≤ 2932896) : 1 ≤ mOf n ∧ mOf n ≤ 12 ∧ Cal.cum (yOf n) (mOf n) ≤ n + 719162 - Cal.dby (yOf n) ∧ n + 719162 - Cal.dby (yOf n) < Cal.cum (yOf n) (mOf n + 1) := by
  have ⟨a, b⟩ := rest_bd h1 h2
  have ⟨c, d⟩ := Cal.mon_bd (yOf n) (n + 719162 - Cal.dby (yOf n))
  have ⟨e, f⟩ := Cal.mon_spec (yOf n) (n + 719162 - Cal.dby (yOf n)) a b
  exact ⟨c, d, e, f⟩
theorem vld_of {n : Int} (h1 : -719162 ≤ n) (h2 : n ≤ 2932896) : vldB (yOf n) (mOf n) (dOf n) = true := by
  have ⟨a, b, _, _⟩ := yOf_bd h1 h2
  have ⟨c, d, e, f⟩ := mOf_bd h1 h2
  have := Cal.cum_succ (yOf n) (mOf n) c d
  exact vld_mk ⟨a, b, c, d, by unfold dOf; omega, by unfold dOf; omega⟩
theorem num_of {n : Int} : num (yOf n) (mOf n) (dOf n) = n := by unfold num dOf; omega
/-- where a month's loop ends, it is the month. -/
theorem mon_end {y r j : Int} (j1 : 1 ≤ j) (j2 : j ≤ 12) (h0 : 0 ≤ r) (h1 : r < 365 + Cal.lp y) (h2 : Cal.cum y j ≤ r) (h3 : r - Cal.cum y j < Cal.dim y j) : Cal.mon y r = j := by
  have ⟨c, d⟩ := Cal.mon_bd y r
  have ⟨e, f⟩ := Cal.mon_spec y r h0 h1
  have := Cal.cum_succ y j j1 j2
  exact Cal.month_unique c d j1 j2 e f h2 (by omega)
/-- a month's loop never passes December. -/
theorem mon_go {y r j : Int} (j1 : 1 ≤ j) (j2 : j ≤ 12) (h1 : r < 365 + Cal.lp y) (h3 : Cal.dim y j ≤ r - Cal.cum y j) : j < 12 := by
  have := Cal.cum_succ y j j1 j2
  rcases Int.lt_or_le j 12 with h | h
  · exact h
  · have e : j = 12 := by omega
    subst e
    have := Cal.cum_13 y
    simp only [Int.reduceAdd] at *
    omega

set_option maxHeartbeats 1000000 in
theorem impl_DateOf_ok (n : Int) (w : World) (hT : Tab w) (h1 : -719162 ≤ n) (h2 : n ≤ 2932896) :
    Calls Tryz.prog 223 #[.int .i64 n] w fun e w' => e = .returned (.agg #[.int .i64 (yOf n), .int .i64 (mOf n), .int .i64 (dOf n)]) ∧ Below w.heap.size w w' := by
  have ⟨y1, y2, y3, y4⟩ := yOf_bd h1 h2
  have ⟨r1, r2⟩ := rest_bd h1 h2
  have hY := fun w => impl_yearOfDay (n + 719162) w (by omega) (by omega)
  have em : Hid (mOf n = Cal.mon (yOf n) (n + 719162 - Cal.dby (yOf n))) := rfl
  have ed : Hid (dOf n = n + 719162 - Cal.dby (yOf n) - Cal.cum (yOf n) (mOf n) + 1) := rfl
  have ey : Cal.yr (n + 719162) = yOf n := rfl
  rw [ey] at hY
  clear ey
  have db := Cal.dby_bd (yOf n) y1 (by omega)
  have hT1 := fun o => hT.alloc o
  clear hT
  generalize yOf n = y at *
  generalize mOf n = mm at *
  generalize dOf n = dd at *
  go_enter Tryz.func223, Tryz.ntmps223
  go_wp2_with (first | (go_at_call 261; refine (hY _).mono ?_; rintro e w' ⟨rfl, rfl⟩) | (go_at_call 262; refine (impl_dby _ _ y1 (by omega)).mono ?_; rintro e w' ⟨rfl, rfl⟩))
  go_loop [4, 5] (fun t k => ∃ j : Int, 1 ≤ j ∧ j ≤ 12 ∧ Cal.cum y j ≤ n + 719162 - Cal.dby y ∧ k = .int .i64 j ∧ t = .int .i64 (n + 719162 - Cal.dby y - Cal.cum y j)) (fun _ k => (12 - intOf k).toNat)
  case atStart => exact ⟨1, by omega, by omega, by rw [Cal.cum_one]; omega, rfl, by rw [Cal.cum_one]; go_num⟩
  case round =>
    obtain ⟨j, j1, j2, j3, rfl, rfl⟩ := hrel
    have cb := Cal.cum_bd y j
    have CS : Hid (Cal.cum y (j + 1) = Cal.cum y j + Cal.dim y j) := Cal.cum_succ y j j1 (by omega)
    have dj := Cal.dim_bd y j
    by_cases hlt : Cal.dim y j ≤ n + 719162 - Cal.dby y - Cal.cum y j
    · have j4 := mon_go j1 j2 r2 hlt
      go_wp2_with (go_at_call 242; refine (impl_MonthDays_ok _ _ _ (hT1 _) y1 y2 j1 (by omega)).mono ?_; rintro e w' ⟨rfl, rfl⟩)
      go_round
      case rel => exact ⟨j + 1, by omega, by omega, by rw [CS.out]; omega, rfl, by rw [CS.out]; go_num⟩
      case measure => simp [intOf]; omega
    · have e1 : Cal.mon y (n + 719162 - Cal.dby y) = j := mon_end j1 j2 r1 r2 j3 (by omega)
      have e2 : mm = j := by rw [em.out, e1]
      have e3 : dd = n + 719162 - Cal.dby y - Cal.cum y j + 1 := by rw [ed.out, e2]
      clear e1 em ed
      subst e2 e3
      go_wp2_with (go_at_call 242; refine (impl_MonthDays_ok _ _ _ (hT1 _) y1 y2 j1 (by omega)).mono ?_; rintro e w' ⟨rfl, rfl⟩)
      exact bodyPost_ret (v := .agg #[.int .i64 y, .int .i64 mm, .int .i64 (n + 719162 - Cal.dby y - Cal.cum y mm + 1)]) (by simp [results, Tryz.results223, go_sem]) rfl ⟨rfl, (Below.refl _ _).alloc (Nat.le_refl _) _⟩
set_option maxHeartbeats 400000 in
theorem impl_DateOf_no (n : Int) (w : World) (h : n < -719162 ∨ 2932896 < n) :
    Calls Tryz.prog 223 #[.int .i64 n] w fun e w' => e = .returned (.agg #[.int .i64 0, .int .i64 0, .int .i64 0]) ∧ Below w.heap.size w w' := by
  by_cases h1 : n < -719162
  · clear h
    go_enter Tryz.func223, Tryz.ntmps223
    go_wp2
    exact bodyPost_ret (v := .agg #[.int .i64 0, .int .i64 0, .int .i64 0]) (by simp [results, Tryz.results223, go_sem]) rfl ⟨rfl, (Below.refl _ _).alloc (Nat.le_refl _) _⟩
  · have h2 : 2932896 < n := by omega
    clear h
    go_enter Tryz.func223, Tryz.ntmps223
    go_wp2
    exact bodyPost_ret (v := .agg #[.int .i64 0, .int .i64 0, .int .i64 0]) (by simp [results, Tryz.results223, go_sem]) rfl ⟨rfl, (Below.refl _ _).alloc (Nat.le_refl _) _⟩
/-- DateOf's three fields. -/
def yV (n : Int) : Int := if isB n (-719162) 2932896 = true then yOf n else 0
def mV (n : Int) : Int := if isB n (-719162) 2932896 = true then mOf n else 0
def dV (n : Int) : Int := if isB n (-719162) 2932896 = true then dOf n else 0
theorem ymd_ok {n : Int} (h : isB n (-719162) 2932896 = true) : yV n = yOf n ∧ mV n = mOf n ∧ dV n = dOf n := by unfold yV mV dV; simp [h]
theorem ymd_no {n : Int} (h : isB n (-719162) 2932896 = false) : yV n = 0 ∧ mV n = 0 ∧ dV n = 0 := by unfold yV mV dV; simp [h]
theorem impl_DateOf (n : Int) (w : World) (hT : Tab w) :
    Calls Tryz.prog 223 #[.int .i64 n] w fun e w' => e = .returned (.agg #[.int .i64 (yV n), .int .i64 (mV n), .int .i64 (dV n)]) ∧ Below w.heap.size w w' := by
  cases h : isB n (-719162) 2932896
  · have ⟨a, b, c⟩ := ymd_no h
    rw [a, b, c]
    exact impl_DateOf_no n w (by have := isB_of_f h; omega)
  · have ⟨a, b, c⟩ := ymd_ok h
    rw [a, b, c]
    exact impl_DateOf_ok n w hT (isB_of_t h).1 (isB_of_t h).2

set_option maxHeartbeats 1000000 in
theorem spec_l01Date (n : Int) (w : World) (h1 : -719162 ≤ n) (h2 : n ≤ 2932896) :
    Calls Tryz.prog 154 #[.int .i64 n] w fun e w' => e = .returned (.agg #[.int .i64 (yOf n), .int .i64 (mOf n), .int .i64 (dOf n)]) ∧ Below w.heap.size w w' := by
  have ⟨y1, y2, y3, y4⟩ := yOf_bd h1 h2
  have ⟨r1, r2⟩ := rest_bd h1 h2
  have em : Hid (mOf n = Cal.mon (yOf n) (n + 719162 - Cal.dby (yOf n))) := rfl
  have ed : Hid (dOf n = n + 719162 - Cal.dby (yOf n) - Cal.cum (yOf n) (mOf n) + 1) := rfl
  have db := Cal.dby_bd (yOf n) y1 (by omega)
  have g0 := Cal.guess (n + 719162) (by omega)
  generalize yOf n = y at *
  generalize mOf n = mm at *
  generalize dOf n = dd at *
  go_enter Tryz.func154, Tryz.ntmps154
  go_wp2
  go_loop [4] (fun t => ∃ k : Int, 1 ≤ k ∧ k ≤ 9999 ∧ Cal.dby k ≤ n + 719162 ∧ t = .int .i64 k) (fun t => (9999 - intOf t).toNat)
  case atStart => exact ⟨_, by omega, by omega, g0, rfl⟩
  case round =>
    obtain ⟨k, k1, k2, k3, rfl⟩ := hrel
    by_cases hc : Cal.dby (k + 1) ≤ n + 719162
    · have k4 : k < 9999 := by
        rcases Int.lt_or_le k 9999 with h | h
        · exact h
        · have e : k = 9999 := by omega
          subst e
          have := Cal.dby_10000
          simp only [Int.reduceAdd] at *
          omega
      go_wp2_with (go_at_call 216; refine (spec_dby _ _ (by omega) (by omega)).mono ?_; rintro e w' ⟨rfl, rfl⟩)
      go_round
      case rel => exact ⟨k + 1, by omega, by omega, hc, rfl⟩
      case measure => simp [intOf]; omega
    · have e : k = y := Cal.year_unique (n := n + 719162) k1 y1 k3 (by omega) y3 y4
      subst e
      clear g0
      go_wp2_with (go_at_call 216; refine (spec_dby _ _ (by omega) (by omega)).mono ?_; rintro e w' ⟨rfl, rfl⟩)
      go_loop [3, 5] (fun t q => ∃ j : Int, 1 ≤ j ∧ j ≤ 12 ∧ Cal.cum k j ≤ n + 719162 - Cal.dby k ∧ q = .int .i64 j ∧ t = .int .i64 (n + 719162 - Cal.dby k - Cal.cum k j)) (fun _ q => (12 - intOf q).toNat)
      case atStart => exact ⟨1, by omega, by omega, by rw [Cal.cum_one]; omega, rfl, by rw [Cal.cum_one]; go_num⟩
      case round =>
        obtain ⟨j, j1, j2, j3, rfl, rfl⟩ := hrel
        have cb := Cal.cum_bd k j
        have CS : Hid (Cal.cum k (j + 1) = Cal.cum k j + Cal.dim k j) := Cal.cum_succ k j j1 (by omega)
        have dj := Cal.dim_bd k j
        by_cases hlt : Cal.dim k j ≤ n + 719162 - Cal.dby k - Cal.cum k j
        · have j4 := mon_go j1 j2 r2 hlt
          go_wp2_with (go_at_call 217; refine (spec_l01Month _ _ _ y1 y2).mono ?_; rintro e w' ⟨rfl, rfl⟩)
          go_round
          case rel => exact ⟨j + 1, by omega, by omega, by rw [CS.out]; omega, rfl, by rw [CS.out]; go_num⟩
          case measure => simp [intOf]; omega
        · have e1 : Cal.mon k (n + 719162 - Cal.dby k) = j := mon_end j1 j2 r1 r2 j3 (by omega)
          have e2 : mm = j := by rw [em.out, e1]
          have e3 : dd = n + 719162 - Cal.dby k - Cal.cum k j + 1 := by rw [ed.out, e2]
          clear e1 em ed
          subst e2 e3
          go_wp2_with (go_at_call 217; refine (spec_l01Month _ _ _ y1 y2).mono ?_; rintro e w' ⟨rfl, rfl⟩)
          exact bodyPost_ret (v := .agg #[.int .i64 k, .int .i64 mm, .int .i64 (n + 719162 - Cal.dby k - Cal.cum k mm + 1)]) (by simp [results, Tryz.results154, go_sem]) rfl ⟨rfl, (Below.refl _ _).alloc (Nat.le_refl _) _⟩
end Go.Proofs.YtjdokmllidhapaaGreatDoor
