/- The plain mathematics of the calendar: days ahead of a year, of a month, the year and the month of a day. Nothing of any program. -/
namespace Go.Cal
/-- 1 of a leap year, else 0. -/
def lp (y : Int) : Int := if y % 4 = 0 ∧ (y % 100 ≠ 0 ∨ y % 400 = 0) then 1 else 0
/-- the days of a month. -/
def dim (y m : Int) : Int :=
  if m = 2 then 28 + lp y else if m = 4 ∨ m = 6 ∨ m = 9 ∨ m = 11 then 30 else 31
/-- days ahead of a year, from the year 1 on. -/
def dby (y : Int) : Int := 365 * (y - 1) + (y - 1) / 4 - (y - 1) / 100 + (y - 1) / 400
/-- days ahead of a month of its year. -/
def cum (y m : Int) : Int :=
  if m ≤ 1 then 0 else if m = 2 then 31 else
  (if m = 3 then 59 else if m = 4 then 90 else if m = 5 then 120 else if m = 6 then 151 else if m = 7 then 181 else
   if m = 8 then 212 else if m = 9 then 243 else if m = 10 then 273 else if m = 11 then 304 else if m = 12 then 334 else 365) + lp y

theorem lp_01 (y : Int) : 0 ≤ lp y ∧ lp y ≤ 1 := by unfold lp; split <;> omega
theorem dim_bd (y m : Int) : 28 ≤ dim y m ∧ dim y m ≤ 31 := by
  have := lp_01 y; unfold dim; split; omega; split <;> omega
theorem cum_one (y : Int) : cum y 1 = 0 := by unfold cum; simp
theorem cum_succ (y m : Int) (h1 : 1 ≤ m) (h2 : m ≤ 12) : cum y (m + 1) = cum y m + dim y m := by
  have := lp_01 y
  have hm : m = 1 ∨ m = 2 ∨ m = 3 ∨ m = 4 ∨ m = 5 ∨ m = 6 ∨ m = 7 ∨ m = 8 ∨ m = 9 ∨ m = 10 ∨ m = 11 ∨ m = 12 := by omega
  rcases hm with h | h | h | h | h | h | h | h | h | h | h | h <;> subst h <;> simp [cum, dim] <;> omega
theorem cum_13 (y : Int) : cum y 13 = 365 + lp y := by simp [cum]
theorem cum_bd (y m : Int) : 0 ≤ cum y m ∧ cum y m ≤ 366 := by
  have := lp_01 y
  unfold cum; repeat' split
  all_goals omega
theorem dby_succ (y : Int) (_h : 1 ≤ y) : dby (y + 1) = dby y + 365 + lp y := by
  unfold dby lp
  split <;> omega
theorem dby_mono {a b : Int} (_h0 : 1 ≤ a) (_h : a ≤ b) : dby a ≤ dby b := by unfold dby; omega
theorem dby_bd (y : Int) (h0 : 1 ≤ y) (h : y ≤ 10000) : 0 ≤ dby y ∧ dby y ≤ 3652059 := by unfold dby; omega
theorem dby_one : dby 1 = 0 := by unfold dby; omega
theorem dby_10000 : dby 10000 = 3652059 := by unfold dby; omega
/-- two years that hold one day are one. -/
theorem year_unique {a b n : Int} (ha : 1 ≤ a) (hb : 1 ≤ b) (h1 : dby a ≤ n) (h2 : n < dby (a + 1)) (h3 : dby b ≤ n) (h4 : n < dby (b + 1)) : a = b := by
  rcases Int.lt_trichotomy a b with h | h | h
  · have := dby_mono (a := a + 1) (b := b) (by omega) (by omega); omega
  · exact h
  · have := dby_mono (a := b + 1) (b := a) (by omega) (by omega); omega
theorem cum_mono {y a b : Int} (h0 : 1 ≤ a) (h : a ≤ b) (hb : b ≤ 13) : cum y a ≤ cum y b := by
  obtain ⟨n, rfl⟩ : ∃ n : Nat, b = a + n := ⟨(b - a).toNat, by omega⟩
  induction n with
  | zero => simp
  | succ k ih =>
    have h1 := ih (by omega) (by omega)
    have h2 := cum_succ y (a + k) (by omega) (by omega)
    have h3 := dim_bd y (a + k)
    have e : a + ((k + 1 : Nat) : Int) = a + k + 1 := by omega
    rw [e]; omega
theorem month_unique {y a b n : Int} (ha : 1 ≤ a) (ha2 : a ≤ 12) (hb : 1 ≤ b) (hb2 : b ≤ 12) (h1 : cum y a ≤ n) (h2 : n < cum y (a + 1)) (h3 : cum y b ≤ n) (h4 : n < cum y (b + 1)) : a = b := by
  rcases Int.lt_trichotomy a b with h | h | h
  · have := cum_mono (y := y) (a := a + 1) (b := b) (by omega) (by omega) (by omega); omega
  · exact h
  · have := cum_mono (y := y) (a := b + 1) (b := a) (by omega) (by omega) (by omega); omega

/-- the year of a count of days from the first day of the year 1 on, by cycles. -/
def yr (n : Int) : Int :=
  let a := n / 146097
  let r := n % 146097
  let b := min (r / 36524) 3
  let r2 := r - b * 36524
  let c := r2 / 1461
  let r3 := r2 % 1461
  1 + 400 * a + 100 * b + 4 * c + min (r3 / 365) 3
theorem yr_spec (n : Int) (h0 : 0 ≤ n) : 1 ≤ yr n ∧ dby (yr n) ≤ n ∧ n < dby (yr n + 1) := by
  unfold yr dby
  simp only []
  generalize ha : n / 146097 = a
  generalize hr : n % 146097 = r
  generalize hb : min (r / 36524) 3 = b
  generalize hc : (r - b * 36524) / 1461 = c
  generalize hr3 : (r - b * 36524) % 1461 = r3
  generalize hd : min (r3 / 365) 3 = d
  have b1 : 0 ≤ b ∧ b ≤ 3 := by omega
  have c1 : 0 ≤ c ∧ c ≤ 24 := by omega
  have d1 : 0 ≤ d ∧ d ≤ 3 := by omega
  have e4 : (1 + 400 * a + 100 * b + 4 * c + d - 1) / 4 = 100 * a + 25 * b + c := by omega
  have e100 : (1 + 400 * a + 100 * b + 4 * c + d - 1) / 100 = 4 * a + b := by omega
  have e400 : (1 + 400 * a + 100 * b + 4 * c + d - 1) / 400 = a := by omega
  have f4 : (1 + 400 * a + 100 * b + 4 * c + d + 1 - 1) / 4 = 100 * a + 25 * b + c + (d + 1) / 4 := by omega
  have f100 : (1 + 400 * a + 100 * b + 4 * c + d + 1 - 1) / 100 = 4 * a + b + (4 * c + d + 1) / 100 := by omega
  have f400 : (1 + 400 * a + 100 * b + 4 * c + d + 1 - 1) / 400 = a + (100 * b + 4 * c + d + 1) / 400 := by omega
  rw [e4, e100, e400, f4, f100, f400]
  have hn : n = 146097 * a + r := by omega
  have hr2 : r - b * 36524 = 1461 * c + r3 := by omega
  refine ⟨by omega, by omega, ?_⟩
  have hd3 : d < 3 ∨ d = 3 := by omega
  have hc24 : c < 24 ∨ c = 24 := by omega
  have hb3 : b < 3 ∨ b = 3 := by omega
  rcases hd3 with h | h
  · have g1 : (d + 1) / 4 = 0 := by omega
    have g2 : (4 * c + d + 1) / 100 = 0 := by omega
    have g3 : (100 * b + 4 * c + d + 1) / 400 = 0 := by omega
    have : r3 < 365 * d + 365 := by omega
    omega
  · have g1 : (d + 1) / 4 = 1 := by omega
    rcases hc24 with h' | h'
    · have g2 : (4 * c + d + 1) / 100 = 0 := by omega
      have g3 : (100 * b + 4 * c + d + 1) / 400 = 0 := by omega
      omega
    · have g2 : (4 * c + d + 1) / 100 = 1 := by omega
      rcases hb3 with h'' | h''
      · have g3 : (100 * b + 4 * c + d + 1) / 400 = 0 := by omega
        omega
      · have g3 : (100 * b + 4 * c + d + 1) / 400 = 1 := by omega
        omega
theorem yr_hi (n : Int) (h0 : 0 ≤ n) (h : n ≤ 3652058) : yr n ≤ 9999 := by
  have ⟨h1, h2, _⟩ := yr_spec n h0
  rcases Int.lt_or_le (yr n) 10000 with h3 | h3
  · omega
  · have := dby_mono (a := 10000) (b := yr n) (by omega) h3
    have := dby_10000
    omega
/-- the first guess of the model's year is never too great. -/
theorem guess (n : Int) (h0 : 0 ≤ n) : dby (n / 366 + 1) ≤ n := by unfold dby; omega
/-- the month of a rest of days of a year. -/
def mon (y r : Int) : Int :=
  if r < cum y 2 then 1 else if r < cum y 3 then 2 else if r < cum y 4 then 3 else if r < cum y 5 then 4 else if r < cum y 6 then 5 else
  if r < cum y 7 then 6 else if r < cum y 8 then 7 else if r < cum y 9 then 8 else if r < cum y 10 then 9 else if r < cum y 11 then 10 else
  if r < cum y 12 then 11 else 12
theorem mon_bd (y r : Int) : 1 ≤ mon y r ∧ mon y r ≤ 12 := by
  unfold mon; repeat' split
  all_goals omega
theorem mon_spec (y r : Int) (h0 : 0 ≤ r) (h : r < 365 + lp y) : cum y (mon y r) ≤ r ∧ r < cum y (mon y r + 1) := by
  have h1 := cum_one y
  have h13 := cum_13 y
  unfold mon; repeat' split
  all_goals simp only [Int.reduceAdd] at *
  all_goals omega
end Go.Cal
