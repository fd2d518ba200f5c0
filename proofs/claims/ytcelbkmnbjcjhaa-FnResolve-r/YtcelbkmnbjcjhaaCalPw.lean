/- Packed: Cal Dates Wd Days DateOf Rounds. -/
import Derived.Test.YtcelbkmnbjcjhaaBaseAw
import Derived.Lib.LaidTab
namespace Go.Cal
/-- 1 of a leap year, else 0. -/
def lp (y : Int) : Int := if y % 4 = 0 ∧ (y % 100 ≠ 0 ∨ y % 400 = 0) then 1 else 0
/-- the days of a month. -/
def dim (y m : Int) : Int :=
  if m = 2 then 28 + lp y else if m = 4 ∨ m = 6 ∨ m = 9 ∨ m = 11 then 30 else 31
/-- days ahead of a year, from the year 1 on. -/
def dby (y : Int) : Int := 365 * (y - 1) + (y - 1) / 4 - (y - 1) / 100 + (y - 1) / 400
/-- days ahead of a month of its year. -/
def cum (y m : Int) : Int :=
  if m ≤ 1 then 0 else if m = 2 then 31 else
  (if m = 3 then 59 else if m = 4 then 90 else if m = 5 then 120 else if m = 6 then 151 else if m = 7 then 181 else
   if m = 8 then 212 else if m = 9 then 243 else if m = 10 then 273 else if m = 11 then 304 else if m = 12 then 334 else 365) + lp y

theorem lp_01 (y : Int) : 0 ≤ lp y ∧ lp y ≤ 1 := by unfold lp; split <;> omega
theorem dim_bd (y m : Int) : 28 ≤ dim y m ∧ dim y m ≤ 31 := by
  have := lp_01 y; unfold dim; split; omega; split <;> omega
theorem cum_one (y : Int) : cum y 1 = 0 := by unfold cum; simp
theorem cum_succ (y m : Int) (h1 : 1 ≤ m) (h2 : m ≤ 12) : cum y (m + 1) = cum y m + dim y m := by
  have := lp_01 y
  have hm : m = 1 ∨ m = 2 ∨ m = 3 ∨ m = 4 ∨ m = 5 ∨ m = 6 ∨ m = 7 ∨ m = 8 ∨ m = 9 ∨ m = 10 ∨ m = 11 ∨ m = 12 := by omega
  rcases hm with h | h | h | h | h | h | h | h | h | h | h | h <;> subst h <;> simp [cum, dim] <;> omega
theorem cum_13 (y : Int) : cum y 13 = 365 + lp y := by simp [cum]
theorem cum_bd (y m : Int) : 0 ≤ cum y m ∧ cum y m ≤ 366 := by
  have := lp_01 y
  unfold cum; repeat' split
  all_goals omega
theorem dby_succ (y : Int) (_h : 1 ≤ y) : dby (y + 1) = dby y + 365 + lp y := by
  unfold dby lp
  split <;> omega
theorem dby_mono {a b : Int} (_h0 : 1 ≤ a) (_h : a ≤ b) : dby a ≤ dby b := by unfold dby; omega
theorem dby_bd (y : Int) (h0 : 1 ≤ y) (h : y ≤ 10000) : 0 ≤ dby y ∧ dby y ≤ 3652059 := by unfold dby; omega
theorem dby_one : dby 1 = 0 := by unfold dby; omega
theorem dby_10000 : dby 10000 = 3652059 := by unfold dby; omega
/-- two years that hold one day are one. -/
theorem year_unique {a b n : Int} (ha : 1 ≤ a) (hb : 1 ≤ b) (h1 : dby a ≤ n) (h2 : n < dby (a + 1)) (h3 : dby b ≤ n) (h4 : n < dby (b + 1)) : a = b := by
  rcases Int.lt_trichotomy a b with h | h | h
  · have := dby_mono (a := a + 1) (b := b) (by omega) (by omega); omega
  · exact h
  · have := dby_mono (a := b + 1) (b := a) (by omega) (by omega); omega
theorem cum_mono {y a b : Int} (h0 : 1 ≤ a) (h : a ≤ b) (hb : b ≤ 13) : cum y a ≤ cum y b := by
  obtain ⟨n, rfl⟩ : ∃ n : Nat, b = a + n := ⟨(b - a).toNat, by omega⟩
  induction n with
  | zero => simp
  | succ k ih =>
    have h1 := ih (by omega) (by omega)
    have h2 := cum_succ y (a + k) (by omega) (by omega)
    have h3 := dim_bd y (a + k)
    have e : a + ((k + 1 : Nat) : Int) = a + k + 1 := by omega
    rw [e]; omega
theorem month_unique {y a b n : Int} (ha : 1 ≤ a) (ha2 : a ≤ 12) (hb : 1 ≤ b) (hb2 : b ≤ 12) (h1 : cum y a ≤ n) (h2 : n < cum y (a + 1)) (h3 : cum y b ≤ n) (h4 : n < cum y (b + 1)) : a = b := by
  rcases Int.lt_trichotomy a b with h | h | h
  · have := cum_mono (y := y) (a := a + 1) (b := b) (by omega) (by omega) (by omega); omega
  · exact h
  · have := cum_mono (y := y) (a := b + 1) (b := a) (by omega) (by omega) (by omega); omega

/-- the year of a count of days from the first day of the year 1 on, by cycles. -/
def yr (n : Int) : Int :=
  let a := n / 146097
  let r := n % 146097
  let b := min (r / 36524) 3
  let r2 := r - b * 36524
  let c := r2 / 1461
  let r3 := r2 % 1461
  1 + 400 * a + 100 * b + 4 * c + min (r3 / 365) 3
theorem yr_spec (n : Int) (h0 : 0 ≤ n) : 1 ≤ yr n ∧ dby (yr n) ≤ n ∧ n < dby (yr n + 1) := by
  unfold yr dby
  simp only []
  generalize ha : n / 146097 = a
  generalize hr : n % 146097 = r
  generalize hb : min (r / 36524) 3 = b
  generalize hc : (r - b * 36524) / 1461 = c
  generalize hr3 : (r - b * 36524) % 1461 = r3
  generalize hd : min (r3 / 365) 3 = d
  have b1 : 0 ≤ b ∧ b ≤ 3 := by omega
  have c1 : 0 ≤ c ∧ c ≤ 24 := by omega
  have d1 : 0 ≤ d ∧ d ≤ 3 := by omega
  have e4 : (1 + 400 * a + 100 * b + 4 * c + d - 1) / 4 = 100 * a + 25 * b + c := by omega
  have e100 : (1 + 400 * a + 100 * b + 4 * c + d - 1) / 100 = 4 * a + b := by omega
  have e400 : (1 + 400 * a + 100 * b + 4 * c + d - 1) / 400 = a := by omega
  have f4 : (1 + 400 * a + 100 * b + 4 * c + d + 1 - 1) / 4 = 100 * a + 25 * b + c + (d + 1) / 4 := by omega
  have f100 : (1 + 400 * a + 100 * b + 4 * c + d + 1 - 1) / 100 = 4 * a + b + (4 * c + d + 1) / 100 := by omega
  have f400 : (1 + 400 * a + 100 * b + 4 * c + d + 1 - 1) / 400 = a + (100 * b + 4 * c + d + 1) / 400 := by omega
  rw [e4, e100, e400, f4, f100, f400]
  have hn : n = 146097 * a + r := by omega
  have hr2 : r - b * 36524 = 1461 * c + r3 := by omega
  refine ⟨by omega, by omega, ?_⟩
  have hd3 : d < 3 ∨ d = 3 := by omega
  have hc24 : c < 24 ∨ c = 24 := by omega
  have hb3 : b < 3 ∨ b = 3 := by omega
  rcases hd3 with h | h
  · have g1 : (d + 1) / 4 = 0 := by omega
    have g2 : (4 * c + d + 1) / 100 = 0 := by omega
    have g3 : (100 * b + 4 * c + d + 1) / 400 = 0 := by omega
    have : r3 < 365 * d + 365 := by omega
    omega
  · have g1 : (d + 1) / 4 = 1 := by omega
    rcases hc24 with h' | h'
    · have g2 : (4 * c + d + 1) / 100 = 0 := by omega
      have g3 : (100 * b + 4 * c + d + 1) / 400 = 0 := by omega
      omega
    · have g2 : (4 * c + d + 1) / 100 = 1 := by omega
      rcases hb3 with h'' | h''
      · have g3 : (100 * b + 4 * c + d + 1) / 400 = 0 := by omega
        omega
      · have g3 : (100 * b + 4 * c + d + 1) / 400 = 1 := by omega
        omega
theorem yr_hi (n : Int) (h0 : 0 ≤ n) (h : n ≤ 3652058) : yr n ≤ 9999 := by
  have ⟨h1, h2, _⟩ := yr_spec n h0
  rcases Int.lt_or_le (yr n) 10000 with h3 | h3
  · omega
  · have := dby_mono (a := 10000) (b := yr n) (by omega) h3
    have := dby_10000
    omega
/-- the first guess of the model's year is never too great. -/
theorem guess (n : Int) (h0 : 0 ≤ n) : dby (n / 366 + 1) ≤ n := by unfold dby; omega
/-- the month of a rest of days of a year. -/
def mon (y r : Int) : Int :=
  if r < cum y 2 then 1 else if r < cum y 3 then 2 else if r < cum y 4 then 3 else if r < cum y 5 then 4 else if r < cum y 6 then 5 else
  if r < cum y 7 then 6 else if r < cum y 8 then 7 else if r < cum y 9 then 8 else if r < cum y 10 then 9 else if r < cum y 11 then 10 else
  if r < cum y 12 then 11 else 12
theorem mon_bd (y r : Int) : 1 ≤ mon y r ∧ mon y r ≤ 12 := by
  unfold mon; repeat' split
  all_goals omega
theorem mon_spec (y r : Int) (h0 : 0 ≤ r) (h : r < 365 + lp y) : cum y (mon y r) ≤ r ∧ r < cum y (mon y r + 1) := by
  have h1 := cum_one y
  have h13 := cum_13 y
  unfold mon; repeat' split
  all_goals simp only [Int.reduceAdd] at *
  all_goals omega
end Go.Cal
namespace Go.Proofs.Ytcelbkmnbjcjhaa
open Go.RowKit

def lpB (y : Int) : Bool := decide (Cal.lp y = 1)
theorem lpB_t {y : Int} (h : lpB y = true) : Cal.lp y = 1 := of_decide_eq_true h
theorem lpB_f {y : Int} (h : lpB y = false) : Cal.lp y = 0 := by
  have := of_decide_eq_false h; have := Cal.lp_01 y; omega
theorem lpB_mk_t {y : Int} (h : y % 4 = 0 ∧ (y % 100 ≠ 0 ∨ y % 400 = 0)) : lpB y = true := by
  unfold lpB Cal.lp; rw [if_pos h]; rfl
theorem lpB_mk_f {y : Int} (h : ¬ (y % 4 = 0 ∧ (y % 100 ≠ 0 ∨ y % 400 = 0))) : lpB y = false := by
  unfold lpB Cal.lp; rw [if_neg h]; rfl
theorem lp_way1 {y : Int} (h4 : y % 4 = 0) (h100 : y % 100 = 0) : (y % 400 == 0) = lpB y := by
  by_cases h : y % 400 = 0
  · rw [lpB_mk_t ⟨h4, .inr h⟩]; simp [h]
  · rw [lpB_mk_f (by omega)]; simp [h]
theorem lp_way2 {y : Int} (h4 : y % 4 = 0) (h100 : ¬ y % 100 = 0) : true = lpB y := (lpB_mk_t ⟨h4, .inl h100⟩).symm
theorem lp_way3 {y : Int} (h4 : ¬ y % 4 = 0) : false = lpB y := (lpB_mk_f (by omega)).symm

set_option maxHeartbeats 400000 in
theorem spec_l01Leap (y : Int) (w : World) (h1 : 1 ≤ y) (h2 : y ≤ 9999) :
    Calls Try.prog 105 #[.int .i64 y] w fun e w' => e = .returned (.bool (lpB y)) ∧ w' = w := by
  go_enter Try.func105, Try.ntmps105
  go_wp2
  all_goals go_ret
  · exact ⟨ret_bool (lp_way1 ‹_› ‹_›), rfl⟩
  · exact ⟨ret_bool (lp_way2 ‹_› ‹_›), rfl⟩
  · exact ⟨ret_bool (lp_way3 ‹_›), rfl⟩

/-- the table of the months' lengths, as the program's text lays it. -/
def tabList : List Int := [0, 31, 28, 31, 30, 31, 30, 31, 31, 30, 31, 30, 31]
theorem tab_dim {y m : Int} (h1 : 1 ≤ m) (h2 : m ≤ 12) (h : lpB y = false ∨ m ≠ 2) : tabList.getD m.toNat 0 = Cal.dim y m := by
  have hm : m = 1 ∨ m = 2 ∨ m = 3 ∨ m = 4 ∨ m = 5 ∨ m = 6 ∨ m = 7 ∨ m = 8 ∨ m = 9 ∨ m = 10 ∨ m = 11 ∨ m = 12 := by omega
  rcases hm with e | e | e | e | e | e | e | e | e | e | e | e
  case inr.inl =>
    subst e
    have := lpB_f (h.resolve_right (by simp))
    simp [tabList, Cal.dim, this]
  all_goals subst e; simp [tabList, Cal.dim]
def ymB (y m : Int) : Bool := decide (1 ≤ y ∧ y ≤ 9999 ∧ 1 ≤ m ∧ m ≤ 12)
theorem ymB_t {y m : Int} (h : ymB y m = true) : 1 ≤ y ∧ y ≤ 9999 ∧ 1 ≤ m ∧ m ≤ 12 := of_decide_eq_true h
theorem ymB_f {y m : Int} (h : ymB y m = false) : y < 1 ∨ 9999 < y ∨ m < 1 ∨ 12 < m := by have := of_decide_eq_false h; omega
/-- the days of a month, 0 where there is none. -/
def mdays (y m : Int) : Int := if ymB y m = true then Cal.dim y m else 0
theorem mdays_ok {y m : Int} (h1 : 1 ≤ y) (h2 : y ≤ 9999) (h3 : 1 ≤ m) (h4 : m ≤ 12) : mdays y m = Cal.dim y m := by
  unfold mdays ymB; rw [if_pos (decide_eq_true ⟨h1, h2, h3, h4⟩)]
theorem mdays_no {y m : Int} (h : ymB y m = false) : mdays y m = 0 := by unfold mdays; rw [h]; rfl
theorem mdays_bd (y m : Int) : 0 ≤ mdays y m ∧ mdays y m ≤ 31 := by
  have := Cal.dim_bd y m; unfold mdays; split <;> omega

set_option maxHeartbeats 400000 in
theorem spec_l01Month (y m : Int) (w : World) (h1 : 1 ≤ y) (h2 : y ≤ 9999) :
    Calls Try.prog 98 #[.int .i64 y, .int .i64 m] w fun e w' => e = .returned (.int .i64 (Cal.dim y m)) ∧ w' = w := by
  by_cases hm : m = 2
  · subst hm
    cases hl : lpB y
    · have e : Cal.dim y 2 = 28 := by have := lpB_f hl; simp [Cal.dim, this]
      rw [e]
      go_enter Try.func98, Try.ntmps98
      go_wp2_with (go_at_call 105; refine (spec_l01Leap _ _ (by omega) (by omega)).mono ?_; rintro e w' ⟨rfl, rfl⟩)
      go_ret
      exact ⟨rfl, rfl⟩
    · have e : Cal.dim y 2 = 29 := by have := lpB_t hl; simp [Cal.dim, this]
      rw [e]
      go_enter Try.func98, Try.ntmps98
      go_wp2_with (go_at_call 105; refine (spec_l01Leap _ _ (by omega) (by omega)).mono ?_; rintro e w' ⟨rfl, rfl⟩)
      go_ret
      exact ⟨rfl, rfl⟩
  · have hb : (m == 2) = false := by simpa using hm
    by_cases h30 : m = 4 ∨ m = 6 ∨ m = 9 ∨ m = 11
    · have e : Cal.dim y m = 30 := by unfold Cal.dim; rw [if_neg hm, if_pos h30]
      rw [e]
      rcases h30 with h | h | h | h <;> subst h <;> clear hm hb e
      all_goals
        go_enter Try.func98, Try.ntmps98
        go_wp2
        go_ret
        exact ⟨rfl, rfl⟩
    · have e : Cal.dim y m = 31 := by unfold Cal.dim; rw [if_neg hm, if_neg h30]
      rw [e]
      have b4 : (m == 4) = false := by simp; omega
      have b6 : (m == 6) = false := by simp; omega
      have b9 : (m == 9) = false := by simp; omega
      have b11 : (m == 11) = false := by simp; omega
      clear e h30 hm
      go_enter Try.func98, Try.ntmps98
      go_wp2
      go_ret
      exact ⟨rfl, rfl⟩

set_option maxHeartbeats 400000 in
theorem spec_l01Year (y : Int) (w : World) :
    Calls Try.prog 70 #[.int .i64 y] w fun e w' => e = .returned (.bool (isB y 1 9999)) ∧ w' = w := by
  go_enter Try.func70, Try.ntmps70
  go_wp2_with (go_at_call 30; refine (spec_l01Is _ _ _ _).mono ?_; rintro e w' ⟨rfl, rfl⟩)
  go_ret
  exact ⟨rfl, rfl⟩
theorem spec_l01Year_v {y : Int} {b : Bool} (h : isB y 1 9999 = b) (w : World) :
    Calls Try.prog 70 #[.int .i64 y] w fun e w' => e = .returned (.bool b) ∧ w' = w := h ▸ spec_l01Year y w
/-- is it a right date? -/
def vldB (y m d : Int) : Bool := decide (1 ≤ y ∧ y ≤ 9999 ∧ 1 ≤ m ∧ m ≤ 12 ∧ 1 ≤ d ∧ d ≤ Cal.dim y m)
theorem vld_t {y m d : Int} (h : vldB y m d = true) : 1 ≤ y ∧ y ≤ 9999 ∧ 1 ≤ m ∧ m ≤ 12 ∧ 1 ≤ d ∧ d ≤ Cal.dim y m := of_decide_eq_true h
theorem vld_f {y m d : Int} (h : vldB y m d = false) : ¬ (1 ≤ y ∧ y ≤ 9999 ∧ 1 ≤ m ∧ m ≤ 12 ∧ 1 ≤ d ∧ d ≤ Cal.dim y m) := of_decide_eq_false h
theorem vld_mk {y m d : Int} (h : 1 ≤ y ∧ y ≤ 9999 ∧ 1 ≤ m ∧ m ≤ 12 ∧ 1 ≤ d ∧ d ≤ Cal.dim y m) : vldB y m d = true := decide_eq_true h
theorem vld_no {y m d : Int} (h : ¬ (1 ≤ y ∧ y ≤ 9999 ∧ 1 ≤ m ∧ m ≤ 12 ∧ 1 ≤ d ∧ d ≤ Cal.dim y m)) : vldB y m d = false := decide_eq_false h
theorem vld_mdays {y m d : Int} (h1 : 1 ≤ d) : vldB y m d = decide (d ≤ mdays y m) := by
  cases h : ymB y m
  · rw [mdays_no h]
    have := ymB_f h
    rw [vld_no (by omega)]
    symm; simp; omega
  · have ⟨a, b, c, e⟩ := ymB_t h
    rw [mdays_ok a b c e]
    by_cases hd : d ≤ Cal.dim y m
    · rw [vld_mk ⟨a, b, c, e, h1, hd⟩]; simp [hd]
    · rw [vld_no (by omega)]; simp [hd]

end Go.Proofs.Ytcelbkmnbjcjhaa
namespace Go.Proofs.Ytcelbkmnbjcjhaa
open Go.RowKit

/-- the weekday of a day's number, -1 outside. -/
def wdv (n : Int) : Int := if isB n (-719162) 2932896 = true then (n + 719163) % 7 else -1
theorem wdv_ok {n : Int} (h1 : -719162 ≤ n) (h2 : n ≤ 2932896) : wdv n = (n + 719163) % 7 := by unfold wdv; rw [if_pos (isB_t h1 h2)]
theorem wdv_no {n : Int} (h : ¬ (-719162 ≤ n ∧ n ≤ 2932896)) : wdv n = -1 := by unfold wdv; rw [isB_f h]; rfl

set_option maxHeartbeats 400000 in
theorem spec_l01Weekday (n : Int) (w : World) (h1 : -800000 ≤ n) (h2 : n ≤ 3000000) :
    Calls Try.prog 101 #[.int .i64 n] w fun e w' => e = .returned (.int .i64 ((n + 719163) % 7)) ∧ w' = w := by
  go_enter Try.func101, Try.ntmps101
  go_wp2
  go_ret
  exact ⟨ret_int (by omega), rfl⟩
end Go.Proofs.Ytcelbkmnbjcjhaa
namespace Go.Proofs.Ytcelbkmnbjcjhaa
open Go.RowKit

set_option maxHeartbeats 400000 in
theorem spec_dby (y : Int) (w : World) (h1 : 1 ≤ y) (h2 : y ≤ 10001) :
    Calls Try.prog 106 #[.int .i64 y] w fun e w' => e = .returned (.int .i64 (Cal.dby y)) ∧ w' = w := by
  unfold Cal.dby
  go_enter Try.func106, Try.ntmps106
  go_wp2
  go_ret
  exact ⟨ret_int (by omega), rfl⟩
/-- the number of a date's day. -/
def num (y m d : Int) : Int := Cal.dby y - 719162 + Cal.cum y m + d - 1
def numv (y m d : Int) : Int := if vldB y m d = true then num y m d else 0
theorem numv_ok {y m d : Int} (h : vldB y m d = true) : numv y m d = num y m d := by unfold numv; rw [if_pos h]
theorem numv_no {y m d : Int} (h : vldB y m d = false) : numv y m d = 0 := by unfold numv; rw [h]; rfl
set_option maxHeartbeats 1000000 in
theorem spec_l01Days (y m d : Int) (w : World) (y1 : 1 ≤ y) (y2 : y ≤ 9999) (m1 : 1 ≤ m) (m2 : m ≤ 12) (d1 : 0 ≤ d) (d2 : d ≤ 1000) :
    Calls Try.prog 99 #[.agg #[.int .i64 y, .int .i64 m, .int .i64 d]] w fun e w' => e = .returned (.int .i64 (num y m d)) ∧ Below w.heap.size w w' := by
  have db := Cal.dby_bd y y1 (by omega)
  go_enter Try.func99, Try.ntmps99
  go_wp2_with (go_at_call 106; refine (spec_dby _ _ y1 (by omega)).mono ?_; rintro e w' ⟨rfl, rfl⟩)
  go_loop [3, 4] (fun t k => ∃ j : Int, 1 ≤ j ∧ j ≤ m ∧ k = .int .i64 j ∧ t = .int .i64 (Cal.dby y - 719162 + Cal.cum y j)) (fun _ k => (m - intOf k).toNat)
  case atStart => exact ⟨1, by omega, by omega, rfl, by rw [Cal.cum_one]; go_num⟩
  case round =>
    obtain ⟨j, j1, j2, rfl, rfl⟩ := hrel
    have cb := Cal.cum_bd y j
    have cs := Cal.cum_succ y j j1 (by omega)
    have dj := Cal.dim_bd y j
    have CS : Hid (Cal.cum y (j + 1) = Cal.cum y j + Cal.dim y j) := cs
    clear cs
    by_cases hlt : j < m
    · go_wp2_with (go_at_call 98; refine (spec_l01Month _ _ _ y1 y2).mono ?_; rintro e w' ⟨rfl, rfl⟩)
      go_round
      case rel => exact ⟨j + 1, by omega, by omega, rfl, by rw [CS.out]; go_num⟩
      case measure => simp [intOf]; omega
    · have e : j = m := by omega
      subst e
      go_wp2
      go_ret
      exact ⟨ret_int (by unfold num; omega), (Below.refl _ _).alloc (Nat.le_refl _) _⟩
end Go.Proofs.Ytcelbkmnbjcjhaa
namespace Go.Proofs.Ytcelbkmnbjcjhaa
open Go.RowKit

/-- the year, the month, the day of a day's number. -/
def yOf (n : Int) : Int := Cal.yr (n + 719162)
def mOf (n : Int) : Int := Cal.mon (yOf n) (n + 719162 - Cal.dby (yOf n))
def dOf (n : Int) : Int := n + 719162 - Cal.dby (yOf n) - Cal.cum (yOf n) (mOf n) + 1
theorem yOf_bd {n : Int} (h1 : -719162 ≤ n) (h2 : n ≤ 2932896) : 1 ≤ yOf n ∧ yOf n ≤ 9999 ∧ Cal.dby (yOf n) ≤ n + 719162 ∧ n + 719162 < Cal.dby (yOf n + 1) := by
  have ⟨a, b, c⟩ := Cal.yr_spec (n + 719162) (by omega)
  exact ⟨a, Cal.yr_hi _ (by omega) (by omega), b, c⟩
theorem rest_bd {n : Int} (h1 : -719162 ≤ n) (h2 : n ≤ 2932896) : 0 ≤ n + 719162 - Cal.dby (yOf n) ∧ n + 719162 - Cal.dby (yOf n) < 365 + Cal.lp (yOf n) := by
  have ⟨a, b, c, d⟩ := yOf_bd h1 h2
  have := Cal.dby_succ (yOf n) a
  omega
theorem mOf_bd {n : Int} (h1 : -719162 ≤ n) (h2 : n ≤ 2932896) : 1 ≤ mOf n ∧ mOf n ≤ 12 ∧ Cal.cum (yOf n) (mOf n) ≤ n + 719162 - Cal.dby (yOf n) ∧ n + 719162 - Cal.dby (yOf n) < Cal.cum (yOf n) (mOf n + 1) := by
  have ⟨a, b⟩ := rest_bd h1 h2
  have ⟨c, d⟩ := Cal.mon_bd (yOf n) (n + 719162 - Cal.dby (yOf n))
  have ⟨e, f⟩ := Cal.mon_spec (yOf n) (n + 719162 - Cal.dby (yOf n)) a b
  exact ⟨c, d, e, f⟩
theorem vld_of {n : Int} (h1 : -719162 ≤ n) (h2 : n ≤ 2932896) : vldB (yOf n) (mOf n) (dOf n) = true := by
  have ⟨a, b, _, _⟩ := yOf_bd h1 h2
  have ⟨c, d, e, f⟩ := mOf_bd h1 h2
  have := Cal.cum_succ (yOf n) (mOf n) c d
  exact vld_mk ⟨a, b, c, d, by unfold dOf; omega, by unfold dOf; omega⟩
theorem num_of {n : Int} : num (yOf n) (mOf n) (dOf n) = n := by unfold num dOf; omega
/-- where a month's loop ends, it is the month. -/
theorem mon_end {y r j : Int} (j1 : 1 ≤ j) (j2 : j ≤ 12) (h0 : 0 ≤ r) (h1 : r < 365 + Cal.lp y) (h2 : Cal.cum y j ≤ r) (h3 : r - Cal.cum y j < Cal.dim y j) : Cal.mon y r = j := by
  have ⟨c, d⟩ := Cal.mon_bd y r
  have ⟨e, f⟩ := Cal.mon_spec y r h0 h1
  have := Cal.cum_succ y j j1 j2
  exact Cal.month_unique c d j1 j2 e f h2 (by omega)
/-- a month's loop never passes December. -/
theorem mon_go {y r j : Int} (j1 : 1 ≤ j) (j2 : j ≤ 12) (h1 : r < 365 + Cal.lp y) (h3 : Cal.dim y j ≤ r - Cal.cum y j) : j < 12 := by
  have := Cal.cum_succ y j j1 j2
  rcases Int.lt_or_le j 12 with h | h
  · exact h
  · have e : j = 12 := by omega
    subst e
    have := Cal.cum_13 y
    simp only [Int.reduceAdd] at *
    omega

/-- DateOf's three fields. -/
def yV (n : Int) : Int := if isB n (-719162) 2932896 = true then yOf n else 0
def mV (n : Int) : Int := if isB n (-719162) 2932896 = true then mOf n else 0
def dV (n : Int) : Int := if isB n (-719162) 2932896 = true then dOf n else 0
theorem ymd_ok {n : Int} (h : isB n (-719162) 2932896 = true) : yV n = yOf n ∧ mV n = mOf n ∧ dV n = dOf n := by unfold yV mV dV; simp [h]
theorem ymd_no {n : Int} (h : isB n (-719162) 2932896 = false) : yV n = 0 ∧ mV n = 0 ∧ dV n = 0 := by unfold yV mV dV; simp [h]
end Go.Proofs.Ytcelbkmnbjcjhaa
namespace Go.Proofs.Ytcelbkmnbjcjhaa

theorem num_bd {x y z : Int} (h : vldB x y z = true) : -719162 ≤ num x y z ∧ num x y z ≤ 2932896 := by
  have ⟨a, b, c, d, e, f⟩ := vld_t h
  have h1 := Cal.dby_bd x a (by omega)
  have h2 := Cal.cum_bd x y
  have h3 := Cal.cum_succ x y c d
  have h4 := Cal.cum_mono (y := x) (a := y + 1) (b := 13) (by omega) (by omega) (by omega)
  have h5 := Cal.cum_13 x
  have h6 := Cal.dby_succ x a
  have h7 := Cal.dby_mono (a := x + 1) (b := 10000) (by omega) (by omega)
  have h8 := Cal.dby_10000
  unfold num
  omega
theorem date_round {x y z : Int} (h : vldB x y z = true) : yOf (num x y z) = x ∧ mOf (num x y z) = y ∧ dOf (num x y z) = z := by
  have ⟨a, b, c, d, e, f⟩ := vld_t h
  have ⟨n1, n2⟩ := num_bd h
  have h2 := Cal.cum_bd x y
  have h3 := Cal.cum_succ x y c d
  have h4 := Cal.cum_mono (y := x) (a := y + 1) (b := 13) (by omega) (by omega) (by omega)
  have h5 := Cal.cum_13 x
  have h6 := Cal.dby_succ x a
  have ⟨y1, y2, y3, y4⟩ := yOf_bd n1 n2
  have hn : num x y z = Cal.dby x - 719162 + Cal.cum x y + z - 1 := rfl
  have ey : yOf (num x y z) = x := Cal.year_unique y1 a y3 y4 (by omega) (by omega)
  have ⟨m1, m2, m3, m4⟩ := mOf_bd n1 n2
  rw [ey] at m3 m4
  have em : mOf (num x y z) = y := Cal.month_unique m1 m2 c d m3 m4 (by omega) (by omega)
  refine ⟨ey, em, ?_⟩
  unfold dOf
  rw [ey, em]
  omega
/-- the day behind a day: the next one of its month, or the first of the next. -/
theorem next_day {n : Int} (h1 : -719162 ≤ n) (h2 : n < 2932896) :
    (dOf n < Cal.dim (yOf n) (mOf n) ∧ yOf (n + 1) = yOf n ∧ mOf (n + 1) = mOf n ∧ dOf (n + 1) = dOf n + 1) ∨
    (dOf n = Cal.dim (yOf n) (mOf n) ∧ mOf n < 12 ∧ yOf (n + 1) = yOf n ∧ mOf (n + 1) = mOf n + 1 ∧ dOf (n + 1) = 1) ∨
    (dOf n = Cal.dim (yOf n) (mOf n) ∧ mOf n = 12 ∧ yOf (n + 1) = yOf n + 1 ∧ mOf (n + 1) = 1 ∧ dOf (n + 1) = 1) := by
  have hv := vld_of h1 (by omega)
  have ⟨a, b, c, d, e, f⟩ := vld_t hv
  have hn := num_of (n := n)
  have hs := Cal.cum_succ (yOf n) (mOf n) c d
  generalize yOf n = x at *
  generalize mOf n = y at *
  generalize dOf n = z at *
  by_cases hz : z < Cal.dim x y
  · left
    have hv2 : vldB x y (z + 1) = true := vld_mk ⟨a, b, c, d, by omega, by omega⟩
    have hr := date_round hv2
    have e1 : num x y (z + 1) = n + 1 := by rw [← hn]; unfold num; omega
    rw [e1] at hr
    exact ⟨hz, hr⟩
  · right
    have hz' : z = Cal.dim x y := by omega
    by_cases hm : y < 12
    · left
      have db := Cal.dim_bd x (y + 1)
      have hv2 : vldB x (y + 1) 1 = true := vld_mk ⟨a, b, by omega, by omega, by omega, by omega⟩
      have hr := date_round hv2
      have e1 : num x (y + 1) 1 = n + 1 := by rw [← hn]; unfold num; omega
      rw [e1] at hr
      exact ⟨hz', hm, hr⟩
    · right
      have hm' : y = 12 := by omega
      subst hm'
      have h13 := Cal.cum_13 x
      have h6 := Cal.dby_succ x a
      have h1' := Cal.cum_one (x + 1)
      simp only [Int.reduceAdd] at hs
      have e1 : num (x + 1) 1 1 = n + 1 := by rw [← hn]; unfold num; omega
      have hx : x + 1 ≤ 9999 := by
        rcases Int.lt_or_le (x + 1) 10000 with h | h
        · omega
        · have := Cal.dby_mono (a := 10000) (b := x + 1) (by omega) h
          have := Cal.dby_10000
          unfold num at hn; omega
      have db := Cal.dim_bd (x + 1) 1
      have hv2 : vldB (x + 1) 1 1 = true := vld_mk ⟨by omega, hx, by omega, by omega, by omega, by omega⟩
      have hr := date_round hv2
      rw [e1] at hr
      exact ⟨hz', rfl, hr⟩
end Go.Proofs.Ytcelbkmnbjcjhaa
