/- Contracts of the days' numbers: weekdays, the number of a date, the date of a number; the program's and the model's. -/
import Derived.Test.YtjdokmllidhapaaGreatDoorDates
import Derived.Test.YtjdokmllidhapaaGreatDoorWd
namespace Go.Proofs.YtjdokmllidhapaaGreatDoor
open Go.RowKit

set_option maxHeartbeats 400000 in
theorem impl_dby (y : Int) (w : World) (h1 : 1 ≤ y) (h2 : y ≤ 10001) :
    Calls Tryz.prog 262 #[.int .i64 y] w fun e w' => e = .returned (.int .i64 (Cal.dby y)) ∧ w' = w := by
  unfold Cal.dby
  go_enter Tryz.func262, Tryz.ntmps262
  go_wp2
  go_ret
  exact ⟨ret_int (by omega), rfl⟩
set_option maxHeartbeats 400000 in
theorem spec_dby (y : Int) (w : World) (h1 : 1 ≤ y) (h2 : y ≤ 10001) :
    Calls Tryz.prog 216 #[.int .i64 y] w fun e w' => e = .returned (.int .i64 (Cal.dby y)) ∧ w' = w := by
  unfold Cal.dby
  go_enter Tryz.func216, Tryz.ntmps216
  go_wp2
  go_ret
  exact ⟨ret_int (by omega), rfl⟩
set_option maxHeartbeats 400000 in
theorem impl_yearOfDay (n : Int) (w : World) (h1 : 0 ≤ n) (h2 : n ≤ 3652058) :
    Calls Tryz.prog 261 #[.int .i64 n] w fun e w' => e = .returned (.int .i64 (Cal.yr n)) ∧ w' = w := by
  unfold Cal.yr
  go_enter Tryz.func261, Tryz.ntmps261
  go_wp2
  all_goals go_ret
  all_goals exact ⟨ret_int (by omega), rfl⟩

/-- the number of a date's day. -/
def num (y m d : Int) : Int := Cal.dby y - 719162 + Cal.cum y m + d - 1
def numv (y m d : Int) : Int := if vldB y m d = true then num y m d else 0
theorem numv_ok {y m d : Int} (h : vldB y m d = true) : numv y m d = num y m d := by unfold numv; rw [if_pos h]
theorem numv_no {y m d : Int} (h : vldB y m d = false) : numv y m d = 0 := by unfold numv; rw [h]; rfl
set_option maxHeartbeats 1000000 in
theorem impl_DaysOf_ok (y m d : Int) (w : World) (hT : Tab w) (hv : vldB y m d = true) :
    Calls Tryz.prog 284 #[.agg #[.int .i64 y, .int .i64 m, .int .i64 d]] w fun e w' => e = .returned (.int .i64 (num y m d)) ∧ Below w.heap.size w w' := by
  have ⟨y1, y2, m1, m2, d1, d2⟩ := vld_t hv
  have hR := fun w (h : Tab w) => impl_DateRight y m d w h
  rw [hv] at hR
  have db := Cal.dby_bd y y1 (by omega)
  have dm := Cal.dim_bd y m
  clear hv
  go_enter Tryz.func284, Tryz.ntmps284
  go_wp2_with fail
  refine (hR _ (hT.alloc _)).mono ?_
  rintro e w1 ⟨rfl, hb⟩
  obtain ⟨hc, hf⟩ := bcell hb
  have hz : w.heap.size + 1 ≤ w1.heap.size := by have := hb.size; simpa using this
  have hT1 : Tab w1 := (hT.alloc _).of_below hb
  have hB : Below w.heap.size w w1 := ((Below.refl _ _).alloc (Nat.le_refl _) _).trans (hb.mono (by simp))
  clear hR hb hT
  go_wp2_with (go_at_call 262; refine (impl_dby _ _ y1 (by omega)).mono ?_; rintro e w' ⟨rfl, rfl⟩)
  go_loop [3, 4] (fun t k => ∃ j : Int, 1 ≤ j ∧ j ≤ m ∧ k = .int .i64 j ∧ t = .int .i64 (Cal.dby y - 719162 + Cal.cum y j)) (fun _ k => (m - intOf k).toNat)
  case atStart => exact ⟨1, by omega, by omega, rfl, by rw [Cal.cum_one]; go_num⟩
  case round =>
    obtain ⟨j, j1, j2, rfl, rfl⟩ := hrel
    have cb := Cal.cum_bd y j
    have cs := Cal.cum_succ y j j1 (by omega)
    have dj := Cal.dim_bd y j
    have CS : Hid (Cal.cum y (j + 1) = Cal.cum y j + Cal.dim y j) := cs
    clear cs
    by_cases hlt : j < m
    · go_wp2_with (go_at_call 242; refine (impl_MonthDays_ok _ _ _ hT1 y1 y2 j1 (by omega)).mono ?_; rintro e w' ⟨rfl, rfl⟩)
      go_round
      case rel => exact ⟨j + 1, by omega, by omega, rfl, by rw [CS.out]; go_num⟩
      case measure => simp [intOf]; omega
    · have e : j = m := by omega
      subst e
      go_wp2
      go_ret
      exact ⟨ret_int (by unfold num; omega), hB⟩
theorem impl_DaysOf_no (y m d : Int) (w : World) (hT : Tab w) (hv : vldB y m d = false) :
    Calls Tryz.prog 284 #[.agg #[.int .i64 y, .int .i64 m, .int .i64 d]] w fun e w' => e = .returned (.int .i64 0) ∧ Below w.heap.size w w' := by
  have hR := fun w (h : Tab w) => impl_DateRight y m d w h
  rw [hv] at hR
  clear hv
  go_enter Tryz.func284, Tryz.ntmps284
  go_wp2_with fail
  refine (hR _ (hT.alloc _)).mono ?_
  rintro e w1 ⟨rfl, hb⟩
  have hB : Below w.heap.size w w1 := ((Below.refl _ _).alloc (Nat.le_refl _) _).trans (hb.mono (by simp))
  go_wp2
  go_ret
  exact ⟨rfl, hB⟩
theorem impl_DaysOf (y m d : Int) (w : World) (hT : Tab w) :
    Calls Tryz.prog 284 #[.agg #[.int .i64 y, .int .i64 m, .int .i64 d]] w fun e w' => e = .returned (.int .i64 (numv y m d)) ∧ Below w.heap.size w w' := by
  cases h : vldB y m d
  · rw [numv_no h]; exact impl_DaysOf_no y m d w hT h
  · rw [numv_ok h]; exact impl_DaysOf_ok y m d w hT h

set_option maxHeartbeats 1000000 in
theorem spec_l01Days (y m d : Int) (w : World) (y1 : 1 ≤ y) (y2 : y ≤ 9999) (m1 : 1 ≤ m) (m2 : m ≤ 12) (d1 : 0 ≤ d) (d2 : d ≤ 1000) :
    Calls Tryz.prog 228 #[.agg #[.int .i64 y, .int .i64 m, .int .i64 d]] w fun e w' => e = .returned (.int .i64 (num y m d)) ∧ Below w.heap.size w w' := by
  have db := Cal.dby_bd y y1 (by omega)
  go_enter Tryz.func228, Tryz.ntmps228
  go_wp2_with (go_at_call 216; refine (spec_dby _ _ y1 (by omega)).mono ?_; rintro e w' ⟨rfl, rfl⟩)
  go_loop [3, 4] (fun t k => ∃ j : Int, 1 ≤ j ∧ j ≤ m ∧ k = .int .i64 j ∧ t = .int .i64 (Cal.dby y - 719162 + Cal.cum y j)) (fun _ k => (m - intOf k).toNat)
  case atStart => exact ⟨1, by omega, by omega, rfl, by rw [Cal.cum_one]; go_num⟩
  case round =>
    obtain ⟨j, j1, j2, rfl, rfl⟩ := hrel
    have cb := Cal.cum_bd y j
    have cs := Cal.cum_succ y j j1 (by omega)
    have dj := Cal.dim_bd y j
    have CS : Hid (Cal.cum y (j + 1) = Cal.cum y j + Cal.dim y j) := cs
    clear cs
    by_cases hlt : j < m
    · go_wp2_with (go_at_call 217; refine (spec_l01Month _ _ _ y1 y2).mono ?_; rintro e w' ⟨rfl, rfl⟩)
      go_round
      case rel => exact ⟨j + 1, by omega, by omega, rfl, by rw [CS.out]; go_num⟩
      case measure => simp [intOf]; omega
    · have e : j = m := by omega
      subst e
      go_wp2
      go_ret
      exact ⟨ret_int (by unfold num; omega), (Below.refl _ _).alloc (Nat.le_refl _) _⟩
end Go.Proofs.YtjdokmllidhapaaGreatDoor
