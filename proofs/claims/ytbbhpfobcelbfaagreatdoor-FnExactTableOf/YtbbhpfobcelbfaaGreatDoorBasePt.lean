/- Packed: Basic Cal Dates Digs Wd Days DateOf Rounds Bytes Names. -/
import Derived.Test.YtbbhpfobcelbfaaGreatDoorProg
import Derived.WalkKit
import Derived.WalkSpells
import Derived.WalkLawsBesides
import Derived.Deep.QuietTactic
import Derived.BigQuiet
import Derived.Deep.RegionWith
import Derived.Lib.LaidTab
namespace Go.Proofs.YtbbhpfobcelbfaaGreatDoor
open Go.RowKit

theorem ret_bool {a b : Bool} (h : a = b) : Ending.returned (.bool a) = .returned (.bool b) := by rw [h]
theorem ret_int {k : IntKind} {a b : Int} (h : a = b) : Ending.returned (.int k a) = .returned (.int k b) := by rw [h]

theorem below1 (w : World) (o : Obj) (n : Nat) : Below w.heap.size w ((w.alloc o).drewN n) := below_drewN ((Below.refl _ _).alloc (Nat.le_refl _) o) n
theorem bcell {W w1 : World} (hb : Below W.heap.size W w1) : (∀ b o, b < W.heap.size → w1.cell? ⟨b, o, none⟩ = W.cell? ⟨b, o, none⟩) ∧ (∀ b o, b < W.heap.size → w1.frozen? ⟨b, o, none⟩ = W.frozen? ⟨b, o, none⟩) :=
  ⟨fun b o h => hb.cell (p := ⟨b, o, none⟩) h, fun b o h => hb.frozen (p := ⟨b, o, none⟩) h⟩

set_option maxHeartbeats 400000 in
theorem spec_l01Is_t (n lo hi : Int) (w : World) (h1 : lo ≤ n) (h2 : n ≤ hi) :
    Calls Tryz.prog 38 #[.int .i64 n, .int .i64 lo, .int .i64 hi] w fun e w' => e = .returned (.bool true) ∧ w' = w := by
  go_enter Tryz.func38, Tryz.ntmps38
  go_wp2
  go_ret
  exact ⟨ret_bool (by simp), rfl⟩
set_option maxHeartbeats 400000 in
theorem spec_l01Is_f (n lo hi : Int) (w : World) (h : n < lo ∨ hi < n) :
    Calls Tryz.prog 38 #[.int .i64 n, .int .i64 lo, .int .i64 hi] w fun e w' => e = .returned (.bool false) ∧ w' = w := by
  by_cases h1 : lo ≤ n
  · have h2 : hi < n := by omega
    clear h
    go_enter Tryz.func38, Tryz.ntmps38
    go_wp2
    go_ret
    exact ⟨ret_bool (by simp; omega), rfl⟩
  · clear h
    go_enter Tryz.func38, Tryz.ntmps38
    go_wp2
    go_ret
    exact ⟨ret_bool (by simp), rfl⟩
def isB (n lo hi : Int) : Bool := decide (lo ≤ n ∧ n ≤ hi)
theorem isB_t {n lo hi : Int} (h1 : lo ≤ n) (h2 : n ≤ hi) : isB n lo hi = true := decide_eq_true ⟨h1, h2⟩
theorem isB_f {n lo hi : Int} (h : ¬ (lo ≤ n ∧ n ≤ hi)) : isB n lo hi = false := decide_eq_false h
theorem isB_of_t {n lo hi : Int} (h : isB n lo hi = true) : lo ≤ n ∧ n ≤ hi := of_decide_eq_true h
theorem isB_of_f {n lo hi : Int} (h : isB n lo hi = false) : ¬ (lo ≤ n ∧ n ≤ hi) := of_decide_eq_false h
theorem spec_l01Is (n lo hi : Int) (w : World) :
    Calls Tryz.prog 38 #[.int .i64 n, .int .i64 lo, .int .i64 hi] w fun e w' => e = .returned (.bool (isB n lo hi)) ∧ w' = w := by
  cases h : isB n lo hi
  · exact spec_l01Is_f n lo hi w (by have := isB_of_f h; omega)
  · exact spec_l01Is_t n lo hi w (isB_of_t h).1 (isB_of_t h).2
theorem spec_l01Is_v {n lo hi : Int} {b : Bool} (h : isB n lo hi = b) (w : World) :
    Calls Tryz.prog 38 #[.int .i64 n, .int .i64 lo, .int .i64 hi] w fun e w' => e = .returned (.bool b) ∧ w' = w := h ▸ spec_l01Is n lo hi w
end Go.Proofs.YtbbhpfobcelbfaaGreatDoor
namespace Go.Cal
/-- 1 of a leap year, else 0. -/
def lp (y : Int) : Int := if y % 4 = 0 ∧ (y % 100 ≠ 0 ∨ y % 400 = 0) then 1 else 0
/-- the days of a month. -/
def dim (y m : Int) : Int :=
  if m = 2 then 28 + lp y else if m = 4 ∨ m = 6 ∨ m = 9 ∨ m = 11 then 30 else 31
/-- days ahead of a year, from the year 1 on. -/
def dby (y : Int) : Int := 365 * (y - 1) + (y - 1) / 4 - (y - 1) / 100 + (y - 1) / 400
/-- days ahead of a month of its year. -/
def cum (y m : Int) : Int :=
  if m ≤ 1 then 0 else if m = 2 then 31 else
  (if m = 3 then 59 else if m = 4 then 90 else if m = 5 then 120 else if m = 6 then 151 else if m = 7 then 181 else
   if m = 8 then 212 else if m = 9 then 243 else if m = 10 then 273 else if m = 11 then 304 else if m = 12 then 334 else 365) + lp y

theorem lp_01 (y : Int) : 0 ≤ lp y ∧ lp y ≤ 1 := by unfold lp; split <;> omega
theorem dim_bd (y m : Int) : 28 ≤ dim y m ∧ dim y m ≤ 31 := by
  have := lp_01 y; unfold dim; split; omega; split <;> omega
theorem cum_one (y : Int) : cum y 1 = 0 := by unfold cum; simp
theorem cum_succ (y m : Int) (h1 : 1 ≤ m) (h2 : m ≤ 12) : cum y (m + 1) = cum y m + dim y m := by
  have := lp_01 y
  have hm : m = 1 ∨ m = 2 ∨ m = 3 ∨ m = 4 ∨ m = 5 ∨ m = 6 ∨ m = 7 ∨ m = 8 ∨ m = 9 ∨ m = 10 ∨ m = 11 ∨ m = 12 := by omega
  rcases hm with h | h | h | h | h | h | h | h | h | h | h | h <;> subst h <;> simp [cum, dim] <;> omega
theorem cum_13 (y : Int) : cum y 13 = 365 + lp y := by simp [cum]
theorem cum_bd (y m : Int) : 0 ≤ cum y m ∧ cum y m ≤ 366 := by
  have := lp_01 y
  unfold cum; repeat' split
  all_goals omega
theorem dby_succ (y : Int) (_h : 1 ≤ y) : dby (y + 1) = dby y + 365 + lp y := by
  unfold dby lp
  split <;> omega
theorem dby_mono {a b : Int} (_h0 : 1 ≤ a) (_h : a ≤ b) : dby a ≤ dby b := by unfold dby; omega
theorem dby_bd (y : Int) (h0 : 1 ≤ y) (h : y ≤ 10000) : 0 ≤ dby y ∧ dby y ≤ 3652059 := by unfold dby; omega
theorem dby_one : dby 1 = 0 := by unfold dby; omega
theorem dby_10000 : dby 10000 = 3652059 := by unfold dby; omega
/-- two years that hold one day are one. -/
theorem year_unique {a b n : Int} (ha : 1 ≤ a) (hb : 1 ≤ b) (h1 : dby a ≤ n) (h2 : n < dby (a + 1)) (h3 : dby b ≤ n) (h4 : n < dby (b + 1)) : a = b := by
  rcases Int.lt_trichotomy a b with h | h | h
  · have := dby_mono (a := a + 1) (b := b) (by omega) (by omega); omega
  · exact h
  · have := dby_mono (a := b + 1) (b := a) (by omega) (by omega); omega
theorem cum_mono {y a b : Int} (h0 : 1 ≤ a) (h : a ≤ b) (hb : b ≤ 13) : cum y a ≤ cum y b := by
  obtain ⟨n, rfl⟩ : ∃ n : Nat, b = a + n := ⟨(b - a).toNat, by omega⟩
  induction n with
  | zero => simp
  | succ k ih =>
    have h1 := ih (by omega) (by omega)
    have h2 := cum_succ y (a + k) (by omega) (by omega)
    have h3 := dim_bd y (a + k)
    have e : a + ((k + 1 : Nat) : Int) = a + k + 1 := by omega
    rw [e]; omega
theorem month_unique {y a b n : Int} (ha : 1 ≤ a) (ha2 : a ≤ 12) (hb : 1 ≤ b) (hb2 : b ≤ 12) (h1 : cum y a ≤ n) (h2 : n < cum y (a + 1)) (h3 : cum y b ≤ n) (h4 : n < cum y (b + 1)) : a = b := by
  rcases Int.lt_trichotomy a b with h | h | h
  · have := cum_mono (y := y) (a := a + 1) (b := b) (by omega) (by omega) (by omega); omega
  · exact h
  · have := cum_mono (y := y) (a := b + 1) (b := a) (by omega) (by omega) (by omega); omega

/-- the year of a count of days from the first day of the year 1 on, by cycles. -/
def yr (n : Int) : Int :=
  let a := n / 146097
  let r := n % 146097
  let b := min (r / 36524) 3
  let r2 := r - b * 36524
  let c := r2 / 1461
  let r3 := r2 % 1461
  1 + 400 * a + 100 * b + 4 * c + min (r3 / 365) 3
theorem yr_spec (n : Int) (h0 : 0 ≤ n) : 1 ≤ yr n ∧ dby (yr n) ≤ n ∧ n < dby (yr n + 1) := by
  unfold yr dby
  simp only []
  generalize ha : n / 146097 = a
  generalize hr : n % 146097 = r
  generalize hb : min (r / 36524) 3 = b
  generalize hc : (r - b * 36524) / 1461 = c
  generalize hr3 : (r - b * 36524) % 1461 = r3
  generalize hd : min (r3 / 365) 3 = d
  have b1 : 0 ≤ b ∧ b ≤ 3 := by omega
  have c1 : 0 ≤ c ∧ c ≤ 24 := by omega
  have d1 : 0 ≤ d ∧ d ≤ 3 := by omega
  have e4 : (1 + 400 * a + 100 * b + 4 * c + d - 1) / 4 = 100 * a + 25 * b + c := by omega
  have e100 : (1 + 400 * a + 100 * b + 4 * c + d - 1) / 100 = 4 * a + b := by omega
  have e400 : (1 + 400 * a + 100 * b + 4 * c + d - 1) / 400 = a := by omega
  have f4 : (1 + 400 * a + 100 * b + 4 * c + d + 1 - 1) / 4 = 100 * a + 25 * b + c + (d + 1) / 4 := by omega
  have f100 : (1 + 400 * a + 100 * b + 4 * c + d + 1 - 1) / 100 = 4 * a + b + (4 * c + d + 1) / 100 := by omega
  have f400 : (1 + 400 * a + 100 * b + 4 * c + d + 1 - 1) / 400 = a + (100 * b + 4 * c + d + 1) / 400 := by omega
  rw [e4, e100, e400, f4, f100, f400]
  have hn : n = 146097 * a + r := by omega
  have hr2 : r - b * 36524 = 1461 * c + r3 := by omega
  refine ⟨by omega, by omega, ?_⟩
  have hd3 : d < 3 ∨ d = 3 := by omega
  have hc24 : c < 24 ∨ c = 24 := by omega
  have hb3 : b < 3 ∨ b = 3 := by omega
  rcases hd3 with h | h
  · have g1 : (d + 1) / 4 = 0 := by omega
    have g2 : (4 * c + d + 1) / 100 = 0 := by omega
    have g3 : (100 * b + 4 * c + d + 1) / 400 = 0 := by omega
    have : r3 < 365 * d + 365 := by omega
    omega
  · have g1 : (d + 1) / 4 = 1 := by omega
    rcases hc24 with h' | h'
    · have g2 : (4 * c + d + 1) / 100 = 0 := by omega
      have g3 : (100 * b + 4 * c + d + 1) / 400 = 0 := by omega
      omega
    · have g2 : (4 * c + d + 1) / 100 = 1 := by omega
      rcases hb3 with h'' | h''
      · have g3 : (100 * b + 4 * c + d + 1) / 400 = 0 := by omega
        omega
      · have g3 : (100 * b + 4 * c + d + 1) / 400 = 1 := by omega
        omega
theorem yr_hi (n : Int) (h0 : 0 ≤ n) (h : n ≤ 3652058) : yr n ≤ 9999 := by
  have ⟨h1, h2, _⟩ := yr_spec n h0
  rcases Int.lt_or_le (yr n) 10000 with h3 | h3
  · omega
  · have := dby_mono (a := 10000) (b := yr n) (by omega) h3
    have := dby_10000
    omega
/-- the first guess of the model's year is never too great. -/
theorem guess (n : Int) (h0 : 0 ≤ n) : dby (n / 366 + 1) ≤ n := by unfold dby; omega
/-- the month of a rest of days of a year. -/
def mon (y r : Int) : Int :=
  if r < cum y 2 then 1 else if r < cum y 3 then 2 else if r < cum y 4 then 3 else if r < cum y 5 then 4 else if r < cum y 6 then 5 else
  if r < cum y 7 then 6 else if r < cum y 8 then 7 else if r < cum y 9 then 8 else if r < cum y 10 then 9 else if r < cum y 11 then 10 else
  if r < cum y 12 then 11 else 12
theorem mon_bd (y r : Int) : 1 ≤ mon y r ∧ mon y r ≤ 12 := by
  unfold mon; repeat' split
  all_goals omega
theorem mon_spec (y r : Int) (h0 : 0 ≤ r) (h : r < 365 + lp y) : cum y (mon y r) ≤ r ∧ r < cum y (mon y r + 1) := by
  have h1 := cum_one y
  have h13 := cum_13 y
  unfold mon; repeat' split
  all_goals simp only [Int.reduceAdd] at *
  all_goals omega
end Go.Cal
namespace Go.Proofs.YtbbhpfobcelbfaaGreatDoor
open Go.RowKit

def lpB (y : Int) : Bool := decide (Cal.lp y = 1)
theorem lpB_t {y : Int} (h : lpB y = true) : Cal.lp y = 1 := of_decide_eq_true h
theorem lpB_f {y : Int} (h : lpB y = false) : Cal.lp y = 0 := by
  have := of_decide_eq_false h; have := Cal.lp_01 y; omega
theorem lpB_mk_t {y : Int} (h : y % 4 = 0 ∧ (y % 100 ≠ 0 ∨ y % 400 = 0)) : lpB y = true := by
  unfold lpB Cal.lp; rw [if_pos h]; rfl
theorem lpB_mk_f {y : Int} (h : ¬ (y % 4 = 0 ∧ (y % 100 ≠ 0 ∨ y % 400 = 0))) : lpB y = false := by
  unfold lpB Cal.lp; rw [if_neg h]; rfl
theorem lp_way1 {y : Int} (h4 : y % 4 = 0) (h100 : y % 100 = 0) : (y % 400 == 0) = lpB y := by
  by_cases h : y % 400 = 0
  · rw [lpB_mk_t ⟨h4, .inr h⟩]; simp [h]
  · rw [lpB_mk_f (by omega)]; simp [h]
theorem lp_way2 {y : Int} (h4 : y % 4 = 0) (h100 : ¬ y % 100 = 0) : true = lpB y := (lpB_mk_t ⟨h4, .inl h100⟩).symm
theorem lp_way3 {y : Int} (h4 : ¬ y % 4 = 0) : false = lpB y := (lpB_mk_f (by omega)).symm

set_option maxHeartbeats 400000 in
theorem impl_isLeap (y : Int) (w : World) (h1 : 1 ≤ y) (h2 : y ≤ 9999) :
    Calls Tryz.prog 243 #[.int .i64 y] w fun e w' => e = .returned (.bool (lpB y)) ∧ w' = w := by
  go_enter Tryz.func243, Tryz.ntmps243
  go_wp2
  all_goals go_ret
  · exact ⟨ret_bool (lp_way1 ‹_› ‹_›), rfl⟩
  · exact ⟨ret_bool (lp_way2 ‹_› ‹_›), rfl⟩
  · exact ⟨ret_bool (lp_way3 ‹_›), rfl⟩
set_option maxHeartbeats 400000 in
theorem spec_l01Leap (y : Int) (w : World) (h1 : 1 ≤ y) (h2 : y ≤ 9999) :
    Calls Tryz.prog 228 #[.int .i64 y] w fun e w' => e = .returned (.bool (lpB y)) ∧ w' = w := by
  go_enter Tryz.func228, Tryz.ntmps228
  go_wp2
  all_goals go_ret
  · exact ⟨ret_bool (lp_way1 ‹_› ‹_›), rfl⟩
  · exact ⟨ret_bool (lp_way2 ‹_› ‹_›), rfl⟩
  · exact ⟨ret_bool (lp_way3 ‹_›), rfl⟩

/-- the table of the months' lengths, as the program's text lays it. -/
def tabList : List Int := [0, 31, 28, 31, 30, 31, 30, 31, 31, 30, 31, 30, 31]
def Tab (w : World) : Prop := ∀ i : Nat, i < 13 → w.cell? ⟨3, i, none⟩ = some (.int .i64 (tabList.getD i 0))
theorem tab_dim {y m : Int} (h1 : 1 ≤ m) (h2 : m ≤ 12) (h : lpB y = false ∨ m ≠ 2) : tabList.getD m.toNat 0 = Cal.dim y m := by
  have hm : m = 1 ∨ m = 2 ∨ m = 3 ∨ m = 4 ∨ m = 5 ∨ m = 6 ∨ m = 7 ∨ m = 8 ∨ m = 9 ∨ m = 10 ∨ m = 11 ∨ m = 12 := by omega
  rcases hm with e | e | e | e | e | e | e | e | e | e | e | e
  case inr.inl =>
    subst e
    have := lpB_f (h.resolve_right (by simp))
    simp [tabList, Cal.dim, this]
  all_goals subst e; simp [tabList, Cal.dim]
theorem Tab.at {w : World} (h : Tab w) {m : Int} (h1 : 1 ≤ m) (h2 : m ≤ 12) : w.cell? ⟨3, m.toNat, none⟩ = some (.int .i64 (tabList.getD m.toNat 0)) := h _ (by omega)

set_option maxHeartbeats 400000 in
theorem impl_MonthDays_ok (y m : Int) (w : World) (hT : Tab w) (h1 : 1 ≤ y) (h2 : y ≤ 9999) (h3 : 1 ≤ m) (h4 : m ≤ 12) :
    Calls Tryz.prog 211 #[.int .i64 y, .int .i64 m] w fun e w' => e = .returned (.int .i64 (Cal.dim y m)) ∧ w' = w := by
  have hc2 : w.cell? ⟨3, 2, none⟩ = some (.int .i64 28) := hT 2 (by omega)
  by_cases hm : m = 2
  · subst hm
    clear hT
    cases hl : lpB y
    · have e : Cal.dim y 2 = 28 := by have := lpB_f hl; simp [Cal.dim, this]
      rw [e]
      go_enter Tryz.func211, Tryz.ntmps211
      go_wp2_with (go_at_call 243; refine (impl_isLeap _ _ (by omega) (by omega)).mono ?_; rintro e w' ⟨rfl, rfl⟩)
      go_ret
      exact ⟨rfl, rfl⟩
    · have e : Cal.dim y 2 = 29 := by have := lpB_t hl; simp [Cal.dim, this]
      rw [e]
      go_enter Tryz.func211, Tryz.ntmps211
      go_wp2_with (go_at_call 243; refine (impl_isLeap _ _ (by omega) (by omega)).mono ?_; rintro e w' ⟨rfl, rfl⟩)
      go_ret
      exact ⟨rfl, rfl⟩
  · have hc := hT.at h3 h4
    rw [tab_dim (y := y) h3 h4 (.inr hm)] at hc
    have hb : (m == 2) = false := by simpa using hm
    clear hT hc2
    generalize Cal.dim y m = v at hc
    go_enter Tryz.func211, Tryz.ntmps211
    go_wp2
    go_ret
    exact ⟨rfl, rfl⟩
def ymB (y m : Int) : Bool := decide (1 ≤ y ∧ y ≤ 9999 ∧ 1 ≤ m ∧ m ≤ 12)
theorem ymB_t {y m : Int} (h : ymB y m = true) : 1 ≤ y ∧ y ≤ 9999 ∧ 1 ≤ m ∧ m ≤ 12 := of_decide_eq_true h
theorem ymB_f {y m : Int} (h : ymB y m = false) : y < 1 ∨ 9999 < y ∨ m < 1 ∨ 12 < m := by have := of_decide_eq_false h; omega
/-- the days of a month, 0 where there is none. -/
def mdays (y m : Int) : Int := if ymB y m = true then Cal.dim y m else 0
theorem mdays_ok {y m : Int} (h1 : 1 ≤ y) (h2 : y ≤ 9999) (h3 : 1 ≤ m) (h4 : m ≤ 12) : mdays y m = Cal.dim y m := by
  unfold mdays ymB; rw [if_pos (decide_eq_true ⟨h1, h2, h3, h4⟩)]
theorem mdays_no {y m : Int} (h : ymB y m = false) : mdays y m = 0 := by unfold mdays; rw [h]; rfl
theorem mdays_bd (y m : Int) : 0 ≤ mdays y m ∧ mdays y m ≤ 31 := by
  have := Cal.dim_bd y m; unfold mdays; split <;> omega

set_option maxHeartbeats 400000 in
theorem impl_MonthDays_no (y m : Int) (w : World) (h : ymB y m = false) :
    Calls Tryz.prog 211 #[.int .i64 y, .int .i64 m] w fun e w' => e = .returned (.int .i64 0) ∧ w' = w := by
  have h' := ymB_f h
  clear h
  by_cases c1 : y < 1
  · go_enter Tryz.func211, Tryz.ntmps211
    go_wp2
    go_ret
    exact ⟨rfl, rfl⟩
  by_cases c2 : 9999 < y
  · go_enter Tryz.func211, Tryz.ntmps211
    go_wp2
    go_ret
    exact ⟨rfl, rfl⟩
  by_cases c3 : m < 1
  · go_enter Tryz.func211, Tryz.ntmps211
    go_wp2
    go_ret
    exact ⟨rfl, rfl⟩
  have c4 : 12 < m := by omega
  clear h'
  go_enter Tryz.func211, Tryz.ntmps211
  go_wp2
  go_ret
  exact ⟨rfl, rfl⟩
theorem impl_MonthDays (y m : Int) (w : World) (hT : Tab w) :
    Calls Tryz.prog 211 #[.int .i64 y, .int .i64 m] w fun e w' => e = .returned (.int .i64 (mdays y m)) ∧ w' = w := by
  cases h : ymB y m
  · rw [mdays_no h]; exact impl_MonthDays_no y m w h
  · have ⟨a, b, c, d⟩ := ymB_t h
    rw [mdays_ok a b c d]; exact impl_MonthDays_ok y m w hT a b c d

set_option maxHeartbeats 400000 in
theorem spec_l01Month (y m : Int) (w : World) (h1 : 1 ≤ y) (h2 : y ≤ 9999) :
    Calls Tryz.prog 189 #[.int .i64 y, .int .i64 m] w fun e w' => e = .returned (.int .i64 (Cal.dim y m)) ∧ w' = w := by
  by_cases hm : m = 2
  · subst hm
    cases hl : lpB y
    · have e : Cal.dim y 2 = 28 := by have := lpB_f hl; simp [Cal.dim, this]
      rw [e]
      go_enter Tryz.func189, Tryz.ntmps189
      go_wp2_with (go_at_call 228; refine (spec_l01Leap _ _ (by omega) (by omega)).mono ?_; rintro e w' ⟨rfl, rfl⟩)
      go_ret
      exact ⟨rfl, rfl⟩
    · have e : Cal.dim y 2 = 29 := by have := lpB_t hl; simp [Cal.dim, this]
      rw [e]
      go_enter Tryz.func189, Tryz.ntmps189
      go_wp2_with (go_at_call 228; refine (spec_l01Leap _ _ (by omega) (by omega)).mono ?_; rintro e w' ⟨rfl, rfl⟩)
      go_ret
      exact ⟨rfl, rfl⟩
  · have hb : (m == 2) = false := by simpa using hm
    by_cases h30 : m = 4 ∨ m = 6 ∨ m = 9 ∨ m = 11
    · have e : Cal.dim y m = 30 := by unfold Cal.dim; rw [if_neg hm, if_pos h30]
      rw [e]
      rcases h30 with h | h | h | h <;> subst h <;> clear hm hb e
      all_goals
        go_enter Tryz.func189, Tryz.ntmps189
        go_wp2
        go_ret
        exact ⟨rfl, rfl⟩
    · have e : Cal.dim y m = 31 := by unfold Cal.dim; rw [if_neg hm, if_neg h30]
      rw [e]
      have b4 : (m == 4) = false := by simp; omega
      have b6 : (m == 6) = false := by simp; omega
      have b9 : (m == 9) = false := by simp; omega
      have b11 : (m == 11) = false := by simp; omega
      clear e h30 hm
      go_enter Tryz.func189, Tryz.ntmps189
      go_wp2
      go_ret
      exact ⟨rfl, rfl⟩

theorem Tab.of_below {w w' : World} (h : Tab w) (hb : Below w.heap.size w w') : Tab w' := fun i hi => by
  rw [hb.cell (p := ⟨3, i, none⟩) (World.block_lt_of_cell? _ _ (h i hi))]; exact h i hi
theorem Tab.alloc {w : World} (h : Tab w) (o : Obj) : Tab (w.alloc o) := h.of_below ((Below.refl _ _).alloc (Nat.le_refl _) o)
theorem Tab.drewN {w : World} (h : Tab w) (n : Nat) : Tab (w.drewN n) := h
set_option maxHeartbeats 400000 in
theorem spec_l01Year (y : Int) (w : World) :
    Calls Tryz.prog 138 #[.int .i64 y] w fun e w' => e = .returned (.bool (isB y 1 9999)) ∧ w' = w := by
  go_enter Tryz.func138, Tryz.ntmps138
  go_wp2_with (go_at_call 38; refine (spec_l01Is _ _ _ _).mono ?_; rintro e w' ⟨rfl, rfl⟩)
  go_ret
  exact ⟨rfl, rfl⟩
theorem spec_l01Year_v {y : Int} {b : Bool} (h : isB y 1 9999 = b) (w : World) :
    Calls Tryz.prog 138 #[.int .i64 y] w fun e w' => e = .returned (.bool b) ∧ w' = w := h ▸ spec_l01Year y w
/-- is it a right date? -/
def vldB (y m d : Int) : Bool := decide (1 ≤ y ∧ y ≤ 9999 ∧ 1 ≤ m ∧ m ≤ 12 ∧ 1 ≤ d ∧ d ≤ Cal.dim y m)
theorem vld_t {y m d : Int} (h : vldB y m d = true) : 1 ≤ y ∧ y ≤ 9999 ∧ 1 ≤ m ∧ m ≤ 12 ∧ 1 ≤ d ∧ d ≤ Cal.dim y m := of_decide_eq_true h
theorem vld_f {y m d : Int} (h : vldB y m d = false) : ¬ (1 ≤ y ∧ y ≤ 9999 ∧ 1 ≤ m ∧ m ≤ 12 ∧ 1 ≤ d ∧ d ≤ Cal.dim y m) := of_decide_eq_false h
theorem vld_mk {y m d : Int} (h : 1 ≤ y ∧ y ≤ 9999 ∧ 1 ≤ m ∧ m ≤ 12 ∧ 1 ≤ d ∧ d ≤ Cal.dim y m) : vldB y m d = true := decide_eq_true h
theorem vld_no {y m d : Int} (h : ¬ (1 ≤ y ∧ y ≤ 9999 ∧ 1 ≤ m ∧ m ≤ 12 ∧ 1 ≤ d ∧ d ≤ Cal.dim y m)) : vldB y m d = false := decide_eq_false h
theorem vld_mdays {y m d : Int} (h1 : 1 ≤ d) : vldB y m d = decide (d ≤ mdays y m) := by
  cases h : ymB y m
  · rw [mdays_no h]
    have := ymB_f h
    rw [vld_no (by omega)]
    symm; simp; omega
  · have ⟨a, b, c, e⟩ := ymB_t h
    rw [mdays_ok a b c e]
    by_cases hd : d ≤ Cal.dim y m
    · rw [vld_mk ⟨a, b, c, e, h1, hd⟩]; simp [hd]
    · rw [vld_no (by omega)]; simp [hd]

set_option maxHeartbeats 400000 in
theorem impl_DateRight (y m d : Int) (w : World) (hT : Tab w) :
    Calls Tryz.prog 261 #[.agg #[.int .i64 y, .int .i64 m, .int .i64 d]] w fun e w' => e = .returned (.bool (vldB y m d)) ∧ Below w.heap.size w w' := by
  by_cases h : 1 ≤ d
  · rw [vld_mdays h]
    have hM : ∀ o n, Calls Tryz.prog 211 #[.int .i64 y, .int .i64 m] ((w.alloc o).drewN n) fun e w' => e = .returned (.int .i64 (mdays y m)) ∧ w' = (w.alloc o).drewN n := fun o n => impl_MonthDays y m _ ((hT.alloc o).drewN n)
    have bd := mdays_bd y m
    generalize mdays y m = v at *
    clear hT
    go_enter Tryz.func261, Tryz.ntmps261
    go_wp2_with fail
    go_quiet ((go_at_call 211; exact Calls.quiet_of_same (hM _ _)))
    go_wp2
    go_ret
    exact ⟨rfl, below1 _ _ _⟩
  · rw [vld_no (by omega)]
    have hd : decide (1 ≤ d) = false := by simpa using h
    clear hT
    go_enter Tryz.func261, Tryz.ntmps261
    go_wp2_with fail
    go_quiet (fail)
    go_wp2
    go_ret
    exact ⟨rfl, below1 _ _ _⟩

end Go.Proofs.YtbbhpfobcelbfaaGreatDoor
namespace Go.Proofs.YtbbhpfobcelbfaaGreatDoor
open Go.RowKit

def digB (c : Int) : Bool := decide (48 ≤ c ∧ c ≤ 57)
theorem digB_eq {c : Int} {b : Bool} (h : b = true ↔ (48 ≤ c ∧ c ≤ 57)) : b = digB c := by
  unfold digB; rw [Bool.eq_iff_iff]; simpa using h
/-- a byte of a text. -/
def byteAt (s : ByteArray) (k : Nat) : Int := if h : k < s.size then (s[k].toNat : Int) else 0
theorem byteAt_eq (s : ByteArray) (k : Nat) (h : k < s.size) : (s[k].toNat : Int) = byteAt s k := by unfold byteAt; rw [dif_pos h]

set_option maxHeartbeats 400000 in
theorem impl_isDigit (c : Int) (w : World) :
    Calls Tryz.prog 210 #[.int .u8 c] w fun e w' => e = .returned (.bool (digB c)) ∧ w' = w := by
  go_enter Tryz.func210, Tryz.ntmps210
  go_wp2
  all_goals go_ret
  all_goals exact ⟨ret_bool (digB_eq (by simp; omega)), rfl⟩
set_option maxHeartbeats 400000 in
theorem spec_l01Digit (c : Int) (w : World) :
    Calls Tryz.prog 144 #[.int .u8 c] w fun e w' => e = .returned (.bool (digB c)) ∧ w' = w := by
  go_enter Tryz.func144, Tryz.ntmps144
  go_wp2
  all_goals go_ret
  all_goals exact ⟨ret_bool (digB_eq (by simp; omega)), rfl⟩
theorem upto_one {p : Nat → Prop} (h : p 0) : Hid (∀ j, j < 1 → p j) := fun j hj => by
  obtain rfl : j = 0 := by omega
  exact h
theorem upto_zero {p : Nat → Prop} : Hid (∀ j, j < 0 → p j) := fun j hj => by omega
theorem upto_succ {p : Nat → Prop} {k : Nat} (h : ∀ j, j < k → p j) (hk : p k) : Hid (∀ j, j < k + 1 → p j) := fun j hj => by
  by_cases e : j = k
  · subst e; exact hk
  · exact h j (by omega)
theorem byteAt_bd (s : ByteArray) (k : Nat) : 0 ≤ byteAt s k ∧ byteAt s k ≤ 255 := by
  unfold byteAt; split
  · rename_i h
    have := s[k].toNat_lt
    omega
  · omega
theorem digB_t {c : Int} (h : digB c = true) : 48 ≤ c ∧ c ≤ 57 := of_decide_eq_true h
/-- the number that the first k bytes of a text of digits tell. -/
def numAt (s : ByteArray) : Nat → Int
  | 0 => 0
  | k + 1 => 10 * numAt s k + (byteAt s k - 48)
/-- a text of digits alone, at least one. -/
def digs (s : ByteArray) : Bool := decide (1 ≤ s.size ∧ ∀ i, i < s.size → digB (byteAt s i) = true)
theorem digs_t {s : ByteArray} (h : digs s = true) : 1 ≤ s.size ∧ ∀ i, i < s.size → digB (byteAt s i) = true := of_decide_eq_true h
theorem digs_no0 {s : ByteArray} (h : s.size = 0) : digs s = false := decide_eq_false fun hn => by omega
theorem digs_no {s : ByteArray} {k : Nat} (hk : k < s.size) (h : digB (byteAt s k) = false) : digs s = false := decide_eq_false fun hn => by rw [hn.2 k hk] at h; cases h
theorem digs_yes {s : ByteArray} (h1 : 1 ≤ s.size) (h : ∀ i, i < s.size → digB (byteAt s i) = true) : digs s = true := decide_eq_true ⟨h1, h⟩
theorem numAt_bd {s : ByteArray} {k : Nat} (h : ∀ j, j < k → digB (byteAt s j) = true) : 0 ≤ numAt s k ∧ numAt s k + 1 ≤ 10 ^ k := by
  induction k with
  | zero => simp [numAt]
  | succ k ih =>
    have ⟨a, b⟩ := ih (fun j hj => h j (by omega))
    have ⟨c, d⟩ := digB_t (h k (by omega))
    simp only [numAt]
    have e : (10 : Int) ^ (k + 1) = 10 * 10 ^ k := by rw [Int.pow_succ]; omega
    rw [e]
    omega
theorem numAt_bd9 {s : ByteArray} {k : Nat} (hk : k ≤ 9) (h : ∀ j, j < k → digB (byteAt s j) = true) : 0 ≤ numAt s k ∧ numAt s k ≤ 999999999 := by
  have ⟨a, b⟩ := numAt_bd h
  have e : (10 : Int) ^ k ≤ 10 ^ 9 := by
    have := Nat.pow_le_pow_right (n := 10) (by omega) hk
    exact_mod_cast this
  omega
/-- what digitsRead tells. -/
def drN (s : ByteArray) : Int := if digs s = true then numAt s s.size else 0
theorem drN_t {s : ByteArray} (h : digs s = true) : drN s = numAt s s.size := by unfold drN; rw [if_pos h]
theorem drN_f {s : ByteArray} (h : digs s = false) : drN s = 0 := by unfold drN; rw [h]; rfl
theorem ret_pair {a b : Int} {c d : Bool} (h1 : a = b) (h2 : c = d) : Ending.returned (.tuple #[.int .i64 a, .bool c]) = .returned (.tuple #[.int .i64 b, .bool d]) := by rw [h1, h2]

set_option maxHeartbeats 1000000 in
theorem impl_digitsRead (s : ByteArray) (w : World) (hs : s.size ≤ 9) :
    Calls Tryz.prog 260 #[.string s] w fun e w' => e = .returned (.tuple #[.int .i64 (drN s), .bool (digs s)]) ∧ w' = w := by
  by_cases h0 : s.size = 0
  · have h := digs_no0 h0
    rw [drN_f h, h]
    have hs0 : s = ⟨#[]⟩ := by
      apply ByteArray.ext
      have : s.data.size = 0 := h0
      exact Array.eq_empty_of_size_eq_zero this
    subst hs0
    go_enter Tryz.func260, Tryz.ntmps260
    go_wp2
    go_ret2
    exact ⟨rfl, rfl⟩
  · have hne : s.toList.isEmpty = false := by
      rw [ByteArray.toList_eq]
      cases hl : s.data.toList with
      | nil => exact absurd (by have := congrArg List.length hl; simpa using this) h0
      | cons _ _ => rfl
    go_enter Tryz.func260, Tryz.ntmps260
    go_wp2
    go_loop [4, 5] (fun x i => ∃ k : Nat, k ≤ s.size ∧ i = .int .i64 k ∧ x = .int .i64 (numAt s k) ∧ Hid (∀ j, j < k → digB (byteAt s j) = true)) (fun _ i => s.size - (intOf i).toNat)
    case atStart => exact ⟨0, by omega, rfl, rfl, upto_zero⟩
    case round =>
      obtain ⟨k, hk, rfl, rfl, hall⟩ := hrel
      by_cases hlt : k < s.size
      · have hB := fun w => impl_isDigit (byteAt s k) w
        have nb := numAt_bd9 (s := s) (k := k) (by omega) hall.out
        have e := byteAt_eq s k hlt
        cases hb : digB (byteAt s k)
        · have HB : Hid (digs s = false) := digs_no hlt hb
          rw [hb, ← e] at hB
          clear hb e
          go_wp2_with (go_at_call 210; refine (hB _).mono ?_; rintro e w' ⟨rfl, rfl⟩)
          go_ret2
          exact ⟨ret_pair (drN_f HB.out).symm HB.out.symm, rfl⟩
        · have HB : Hid (digB (byteAt s k) = true) := hb
          have ⟨b1, b2⟩ := digB_t hb
          have HN : Hid (numAt s (k + 1) = 10 * numAt s k + ((s[k].toNat : Int) - 48)) := by simp only [Hid, numAt]; rw [e]
          rw [hb, ← e] at hB
          rw [← e] at b1 b2
          clear hb e
          go_wp2_with (go_at_call 210; refine (hB _).mono ?_; rintro e w' ⟨rfl, rfl⟩)
          go_round
          case rel => exact ⟨k + 1, by omega, by go_num, by rw [HN.out]; congr 1; omega, upto_succ hall.out HB.out⟩
          case measure => simp [intOf]; omega
      · have e : k = s.size := by omega
        subst e
        have HB : Hid (digs s = true) := digs_yes (by omega) hall.out
        go_wp2
        go_ret2
        exact ⟨ret_pair (drN_t HB.out).symm HB.out.symm, rfl⟩

/-- what the model's l01Digits tells. -/
def ldN (s : ByteArray) : Int := if digs s = true then numAt s s.size else -1
theorem ldN_t {s : ByteArray} (h : digs s = true) : ldN s = numAt s s.size := by unfold ldN; rw [if_pos h]
theorem ldN_f {s : ByteArray} (h : digs s = false) : ldN s = -1 := by unfold ldN; rw [h]; rfl
set_option maxHeartbeats 1000000 in
theorem spec_l01Digits (s : ByteArray) (w : World) (hs : s.size ≤ 9) :
    Calls Tryz.prog 241 #[.string s] w fun e w' => e = .returned (.int .i64 (ldN s)) ∧ w' = w := by
  by_cases h0 : s.size < 1
  · have h := digs_no0 (s := s) (by omega)
    rw [ldN_f h]
    go_enter Tryz.func241, Tryz.ntmps241
    go_wp2
    go_ret
    exact ⟨rfl, rfl⟩
  · go_enter Tryz.func241, Tryz.ntmps241
    go_wp2
    go_loop [3, 4] (fun x i => ∃ k : Nat, k ≤ s.size ∧ i = .int .i64 k ∧ x = .int .i64 (numAt s k) ∧ Hid (∀ j, j < k → digB (byteAt s j) = true)) (fun _ i => s.size - (intOf i).toNat)
    case atStart => exact ⟨0, by omega, rfl, rfl, upto_zero⟩
    case round =>
      obtain ⟨k, hk, rfl, rfl, hall⟩ := hrel
      by_cases hlt : k < s.size
      · have hB := fun w => spec_l01Digit (byteAt s k) w
        have nb := numAt_bd9 (s := s) (k := k) (by omega) hall.out
        have e := byteAt_eq s k hlt
        cases hb : digB (byteAt s k)
        · have HB : Hid (digs s = false) := digs_no hlt hb
          rw [hb, ← e] at hB
          clear hb e
          go_wp2_with (go_at_call 144; refine (hB _).mono ?_; rintro e w' ⟨rfl, rfl⟩)
          go_ret
          exact ⟨ret_int (ldN_f HB.out).symm, rfl⟩
        · have HB : Hid (digB (byteAt s k) = true) := hb
          have ⟨b1, b2⟩ := digB_t hb
          have HN : Hid (numAt s (k + 1) = 10 * numAt s k + ((s[k].toNat : Int) - 48)) := by simp only [Hid, numAt]; rw [e]
          rw [hb, ← e] at hB
          rw [← e] at b1 b2
          clear hb e
          go_wp2_with (go_at_call 144; refine (hB _).mono ?_; rintro e w' ⟨rfl, rfl⟩)
          go_round
          case rel => exact ⟨k + 1, by omega, by go_num, by rw [HN.out], upto_succ hall.out HB.out⟩
          case measure => simp [intOf]; omega
      · have e : k = s.size := by omega
        subst e
        have HB : Hid (digs s = true) := digs_yes (by omega) hall.out
        go_wp2
        go_ret
        exact ⟨ret_int (ldN_t HB.out).symm, rfl⟩
end Go.Proofs.YtbbhpfobcelbfaaGreatDoor
namespace Go.Proofs.YtbbhpfobcelbfaaGreatDoor
open Go.RowKit

/-- the weekday of a day's number, -1 outside. -/
def wdv (n : Int) : Int := if isB n (-719162) 2932896 = true then (n + 719163) % 7 else -1
theorem wdv_ok {n : Int} (h1 : -719162 ≤ n) (h2 : n ≤ 2932896) : wdv n = (n + 719163) % 7 := by unfold wdv; rw [if_pos (isB_t h1 h2)]
theorem wdv_no {n : Int} (h : ¬ (-719162 ≤ n ∧ n ≤ 2932896)) : wdv n = -1 := by unfold wdv; rw [isB_f h]; rfl

set_option maxHeartbeats 400000 in
theorem impl_Weekday (n : Int) (w : World) :
    Calls Tryz.prog 263 #[.int .i64 n] w fun e w' => e = .returned (.int .i64 (wdv n)) ∧ w' = w := by
  by_cases h1 : n < -719162
  · rw [wdv_no (by omega)]
    go_enter Tryz.func263, Tryz.ntmps263
    go_wp2
    go_ret
    exact ⟨rfl, rfl⟩
  by_cases h2 : 2932896 < n
  · rw [wdv_no (by omega)]
    go_enter Tryz.func263, Tryz.ntmps263
    go_wp2
    go_ret
    exact ⟨rfl, rfl⟩
  · rw [wdv_ok (by omega) (by omega)]
    go_enter Tryz.func263, Tryz.ntmps263
    go_wp2
    go_ret
    exact ⟨ret_int (by omega), rfl⟩
set_option maxHeartbeats 400000 in
theorem spec_l01Weekday (n : Int) (w : World) (h1 : -800000 ≤ n) (h2 : n ≤ 3000000) :
    Calls Tryz.prog 192 #[.int .i64 n] w fun e w' => e = .returned (.int .i64 ((n + 719163) % 7)) ∧ w' = w := by
  go_enter Tryz.func192, Tryz.ntmps192
  go_wp2
  go_ret
  exact ⟨ret_int (by omega), rfl⟩
end Go.Proofs.YtbbhpfobcelbfaaGreatDoor
namespace Go.Proofs.YtbbhpfobcelbfaaGreatDoor
open Go.RowKit

set_option maxHeartbeats 400000 in
theorem impl_dby (y : Int) (w : World) (h1 : 1 ≤ y) (h2 : y ≤ 10001) :
    Calls Tryz.prog 265 #[.int .i64 y] w fun e w' => e = .returned (.int .i64 (Cal.dby y)) ∧ w' = w := by
  unfold Cal.dby
  go_enter Tryz.func265, Tryz.ntmps265
  go_wp2
  go_ret
  exact ⟨ret_int (by omega), rfl⟩
set_option maxHeartbeats 400000 in
theorem spec_dby (y : Int) (w : World) (h1 : 1 ≤ y) (h2 : y ≤ 10001) :
    Calls Tryz.prog 229 #[.int .i64 y] w fun e w' => e = .returned (.int .i64 (Cal.dby y)) ∧ w' = w := by
  unfold Cal.dby
  go_enter Tryz.func229, Tryz.ntmps229
  go_wp2
  go_ret
  exact ⟨ret_int (by omega), rfl⟩
/-- the number of a date's day. -/
def num (y m d : Int) : Int := Cal.dby y - 719162 + Cal.cum y m + d - 1
def numv (y m d : Int) : Int := if vldB y m d = true then num y m d else 0
theorem numv_ok {y m d : Int} (h : vldB y m d = true) : numv y m d = num y m d := by unfold numv; rw [if_pos h]
theorem numv_no {y m d : Int} (h : vldB y m d = false) : numv y m d = 0 := by unfold numv; rw [h]; rfl
set_option maxHeartbeats 1000000 in
theorem impl_DaysOf_ok (y m d : Int) (w : World) (hT : Tab w) (hv : vldB y m d = true) :
    Calls Tryz.prog 248 #[.agg #[.int .i64 y, .int .i64 m, .int .i64 d]] w fun e w' => e = .returned (.int .i64 (num y m d)) ∧ Below w.heap.size w w' := by
  have ⟨y1, y2, m1, m2, d1, d2⟩ := vld_t hv
  have hR := fun w (h : Tab w) => impl_DateRight y m d w h
  rw [hv] at hR
  have db := Cal.dby_bd y y1 (by omega)
  have dm := Cal.dim_bd y m
  clear hv
  go_enter Tryz.func248, Tryz.ntmps248
  go_wp2_with fail
  refine (hR _ (hT.alloc _)).mono ?_
  rintro e w1 ⟨rfl, hb⟩
  obtain ⟨hc, hf⟩ := bcell hb
  have hz : w.heap.size + 1 ≤ w1.heap.size := by have := hb.size; simpa using this
  have hT1 : Tab w1 := (hT.alloc _).of_below hb
  have hB : Below w.heap.size w w1 := ((Below.refl _ _).alloc (Nat.le_refl _) _).trans (hb.mono (by simp))
  clear hR hb hT
  go_wp2_with (go_at_call 265; refine (impl_dby _ _ y1 (by omega)).mono ?_; rintro e w' ⟨rfl, rfl⟩)
  go_loop [3, 4] (fun t k => ∃ j : Int, 1 ≤ j ∧ j ≤ m ∧ k = .int .i64 j ∧ t = .int .i64 (Cal.dby y - 719162 + Cal.cum y j)) (fun _ k => (m - intOf k).toNat)
  case atStart => exact ⟨1, by omega, by omega, rfl, by rw [Cal.cum_one]; go_num⟩
  case round =>
    obtain ⟨j, j1, j2, rfl, rfl⟩ := hrel
    have cb := Cal.cum_bd y j
    have cs := Cal.cum_succ y j j1 (by omega)
    have dj := Cal.dim_bd y j
    have CS : Hid (Cal.cum y (j + 1) = Cal.cum y j + Cal.dim y j) := cs
    clear cs
    by_cases hlt : j < m
    · go_wp2_with (go_at_call 211; refine (impl_MonthDays_ok _ _ _ hT1 y1 y2 j1 (by omega)).mono ?_; rintro e w' ⟨rfl, rfl⟩)
      go_round
      case rel => exact ⟨j + 1, by omega, by omega, rfl, by rw [CS.out]; go_num⟩
      case measure => simp [intOf]; omega
    · have e : j = m := by omega
      subst e
      go_wp2
      go_ret
      exact ⟨ret_int (by unfold num; omega), hB⟩
theorem impl_DaysOf_no (y m d : Int) (w : World) (hT : Tab w) (hv : vldB y m d = false) :
    Calls Tryz.prog 248 #[.agg #[.int .i64 y, .int .i64 m, .int .i64 d]] w fun e w' => e = .returned (.int .i64 0) ∧ Below w.heap.size w w' := by
  have hR := fun w (h : Tab w) => impl_DateRight y m d w h
  rw [hv] at hR
  clear hv
  go_enter Tryz.func248, Tryz.ntmps248
  go_wp2_with fail
  refine (hR _ (hT.alloc _)).mono ?_
  rintro e w1 ⟨rfl, hb⟩
  have hB : Below w.heap.size w w1 := ((Below.refl _ _).alloc (Nat.le_refl _) _).trans (hb.mono (by simp))
  go_wp2
  go_ret
  exact ⟨rfl, hB⟩
theorem impl_DaysOf (y m d : Int) (w : World) (hT : Tab w) :
    Calls Tryz.prog 248 #[.agg #[.int .i64 y, .int .i64 m, .int .i64 d]] w fun e w' => e = .returned (.int .i64 (numv y m d)) ∧ Below w.heap.size w w' := by
  cases h : vldB y m d
  · rw [numv_no h]; exact impl_DaysOf_no y m d w hT h
  · rw [numv_ok h]; exact impl_DaysOf_ok y m d w hT h

set_option maxHeartbeats 1000000 in
theorem spec_l01Days (y m d : Int) (w : World) (y1 : 1 ≤ y) (y2 : y ≤ 9999) (m1 : 1 ≤ m) (m2 : m ≤ 12) (d1 : 0 ≤ d) (d2 : d ≤ 1000) :
    Calls Tryz.prog 190 #[.agg #[.int .i64 y, .int .i64 m, .int .i64 d]] w fun e w' => e = .returned (.int .i64 (num y m d)) ∧ Below w.heap.size w w' := by
  have db := Cal.dby_bd y y1 (by omega)
  go_enter Tryz.func190, Tryz.ntmps190
  go_wp2_with (go_at_call 229; refine (spec_dby _ _ y1 (by omega)).mono ?_; rintro e w' ⟨rfl, rfl⟩)
  go_loop [3, 4] (fun t k => ∃ j : Int, 1 ≤ j ∧ j ≤ m ∧ k = .int .i64 j ∧ t = .int .i64 (Cal.dby y - 719162 + Cal.cum y j)) (fun _ k => (m - intOf k).toNat)
  case atStart => exact ⟨1, by omega, by omega, rfl, by rw [Cal.cum_one]; go_num⟩
  case round =>
    obtain ⟨j, j1, j2, rfl, rfl⟩ := hrel
    have cb := Cal.cum_bd y j
    have cs := Cal.cum_succ y j j1 (by omega)
    have dj := Cal.dim_bd y j
    have CS : Hid (Cal.cum y (j + 1) = Cal.cum y j + Cal.dim y j) := cs
    clear cs
    by_cases hlt : j < m
    · go_wp2_with (go_at_call 189; refine (spec_l01Month _ _ _ y1 y2).mono ?_; rintro e w' ⟨rfl, rfl⟩)
      go_round
      case rel => exact ⟨j + 1, by omega, by omega, rfl, by rw [CS.out]; go_num⟩
      case measure => simp [intOf]; omega
    · have e : j = m := by omega
      subst e
      go_wp2
      go_ret
      exact ⟨ret_int (by unfold num; omega), (Below.refl _ _).alloc (Nat.le_refl _) _⟩
end Go.Proofs.YtbbhpfobcelbfaaGreatDoor
namespace Go.Proofs.YtbbhpfobcelbfaaGreatDoor
open Go.RowKit

/-- the year, the month, the day of a day's number. -/
def yOf (n : Int) : Int := Cal.yr (n + 719162)
def mOf (n : Int) : Int := Cal.mon (yOf n) (n + 719162 - Cal.dby (yOf n))
def dOf (n : Int) : Int := n + 719162 - Cal.dby (yOf n) - Cal.cum (yOf n) (mOf n) + 1
theorem yOf_bd {n : Int} (h1 : -719162 ≤ n) (h2 : n ≤ 2932896) : 1 ≤ yOf n ∧ yOf n ≤ 9999 ∧ Cal.dby (yOf n) ≤ n + 719162 ∧ n + 719162 < Cal.dby (yOf n + 1) := by
  have ⟨a, b, c⟩ := Cal.yr_spec (n + 719162) (by omega)
  exact ⟨a, Cal.yr_hi _ (by omega) (by omega), b, c⟩
theorem rest_bd {n : Int} (h1 : -719162 ≤ n) (h2 : n ≤ 2932896) : 0 ≤ n + 719162 - Cal.dby (yOf n) ∧ n + 719162 - Cal.dby (yOf n) < 365 + Cal.lp (yOf n) := by
  have ⟨a, b, c, d⟩ := yOf_bd h1 h2
  have := Cal.dby_succ (yOf n) a
  omega
theorem mOf_bd {n : Int} (h1 : -719162 ≤ n) (h2 : n ≤ 2932896) : 1 ≤ mOf n ∧ mOf n ≤ 12 ∧ Cal.cum (yOf n) (mOf n) ≤ n + 719162 - Cal.dby (yOf n) ∧ n + 719162 - Cal.dby (yOf n) < Cal.cum (yOf n) (mOf n + 1) := by
  have ⟨a, b⟩ := rest_bd h1 h2
  have ⟨c, d⟩ := Cal.mon_bd (yOf n) (n + 719162 - Cal.dby (yOf n))
  have ⟨e, f⟩ := Cal.mon_spec (yOf n) (n + 719162 - Cal.dby (yOf n)) a b
  exact ⟨c, d, e, f⟩
theorem vld_of {n : Int} (h1 : -719162 ≤ n) (h2 : n ≤ 2932896) : vldB (yOf n) (mOf n) (dOf n) = true := by
  have ⟨a, b, _, _⟩ := yOf_bd h1 h2
  have ⟨c, d, e, f⟩ := mOf_bd h1 h2
  have := Cal.cum_succ (yOf n) (mOf n) c d
  exact vld_mk ⟨a, b, c, d, by unfold dOf; omega, by unfold dOf; omega⟩
theorem num_of {n : Int} : num (yOf n) (mOf n) (dOf n) = n := by unfold num dOf; omega
/-- where a month's loop ends, it is the month. -/
theorem mon_end {y r j : Int} (j1 : 1 ≤ j) (j2 : j ≤ 12) (h0 : 0 ≤ r) (h1 : r < 365 + Cal.lp y) (h2 : Cal.cum y j ≤ r) (h3 : r - Cal.cum y j < Cal.dim y j) : Cal.mon y r = j := by
  have ⟨c, d⟩ := Cal.mon_bd y r
  have ⟨e, f⟩ := Cal.mon_spec y r h0 h1
  have := Cal.cum_succ y j j1 j2
  exact Cal.month_unique c d j1 j2 e f h2 (by omega)
/-- a month's loop never passes December. -/
theorem mon_go {y r j : Int} (j1 : 1 ≤ j) (j2 : j ≤ 12) (h1 : r < 365 + Cal.lp y) (h3 : Cal.dim y j ≤ r - Cal.cum y j) : j < 12 := by
  have := Cal.cum_succ y j j1 j2
  rcases Int.lt_or_le j 12 with h | h
  · exact h
  · have e : j = 12 := by omega
    subst e
    have := Cal.cum_13 y
    simp only [Int.reduceAdd] at *
    omega

/-- DateOf's three fields. -/
def yV (n : Int) : Int := if isB n (-719162) 2932896 = true then yOf n else 0
def mV (n : Int) : Int := if isB n (-719162) 2932896 = true then mOf n else 0
def dV (n : Int) : Int := if isB n (-719162) 2932896 = true then dOf n else 0
theorem ymd_ok {n : Int} (h : isB n (-719162) 2932896 = true) : yV n = yOf n ∧ mV n = mOf n ∧ dV n = dOf n := by unfold yV mV dV; simp [h]
theorem ymd_no {n : Int} (h : isB n (-719162) 2932896 = false) : yV n = 0 ∧ mV n = 0 ∧ dV n = 0 := by unfold yV mV dV; simp [h]
end Go.Proofs.YtbbhpfobcelbfaaGreatDoor
namespace Go.Proofs.YtbbhpfobcelbfaaGreatDoor

theorem num_bd {x y z : Int} (h : vldB x y z = true) : -719162 ≤ num x y z ∧ num x y z ≤ 2932896 := by
  have ⟨a, b, c, d, e, f⟩ := vld_t h
  have h1 := Cal.dby_bd x a (by omega)
  have h2 := Cal.cum_bd x y
  have h3 := Cal.cum_succ x y c d
  have h4 := Cal.cum_mono (y := x) (a := y + 1) (b := 13) (by omega) (by omega) (by omega)
  have h5 := Cal.cum_13 x
  have h6 := Cal.dby_succ x a
  have h7 := Cal.dby_mono (a := x + 1) (b := 10000) (by omega) (by omega)
  have h8 := Cal.dby_10000
  unfold num
  omega
theorem date_round {x y z : Int} (h : vldB x y z = true) : yOf (num x y z) = x ∧ mOf (num x y z) = y ∧ dOf (num x y z) = z := by
  have ⟨a, b, c, d, e, f⟩ := vld_t h
  have ⟨n1, n2⟩ := num_bd h
  have h2 := Cal.cum_bd x y
  have h3 := Cal.cum_succ x y c d
  have h4 := Cal.cum_mono (y := x) (a := y + 1) (b := 13) (by omega) (by omega) (by omega)
  have h5 := Cal.cum_13 x
  have h6 := Cal.dby_succ x a
  have ⟨y1, y2, y3, y4⟩ := yOf_bd n1 n2
  have hn : num x y z = Cal.dby x - 719162 + Cal.cum x y + z - 1 := rfl
  have ey : yOf (num x y z) = x := Cal.year_unique y1 a y3 y4 (by omega) (by omega)
  have ⟨m1, m2, m3, m4⟩ := mOf_bd n1 n2
  rw [ey] at m3 m4
  have em : mOf (num x y z) = y := Cal.month_unique m1 m2 c d m3 m4 (by omega) (by omega)
  refine ⟨ey, em, ?_⟩
  unfold dOf
  rw [ey, em]
  omega
/-- the day behind a day: the next one of its month, or the first of the next. -/
theorem next_day {n : Int} (h1 : -719162 ≤ n) (h2 : n < 2932896) :
    (dOf n < Cal.dim (yOf n) (mOf n) ∧ yOf (n + 1) = yOf n ∧ mOf (n + 1) = mOf n ∧ dOf (n + 1) = dOf n + 1) ∨
    (dOf n = Cal.dim (yOf n) (mOf n) ∧ mOf n < 12 ∧ yOf (n + 1) = yOf n ∧ mOf (n + 1) = mOf n + 1 ∧ dOf (n + 1) = 1) ∨
    (dOf n = Cal.dim (yOf n) (mOf n) ∧ mOf n = 12 ∧ yOf (n + 1) = yOf n + 1 ∧ mOf (n + 1) = 1 ∧ dOf (n + 1) = 1) := by
  have hv := vld_of h1 (by omega)
  have ⟨a, b, c, d, e, f⟩ := vld_t hv
  have hn := num_of (n := n)
  have hs := Cal.cum_succ (yOf n) (mOf n) c d
  generalize yOf n = x at *
  generalize mOf n = y at *
  generalize dOf n = z at *
  by_cases hz : z < Cal.dim x y
  · left
    have hv2 : vldB x y (z + 1) = true := vld_mk ⟨a, b, c, d, by omega, by omega⟩
    have hr := date_round hv2
    have e1 : num x y (z + 1) = n + 1 := by rw [← hn]; unfold num; omega
    rw [e1] at hr
    exact ⟨hz, hr⟩
  · right
    have hz' : z = Cal.dim x y := by omega
    by_cases hm : y < 12
    · left
      have db := Cal.dim_bd x (y + 1)
      have hv2 : vldB x (y + 1) 1 = true := vld_mk ⟨a, b, by omega, by omega, by omega, by omega⟩
      have hr := date_round hv2
      have e1 : num x (y + 1) 1 = n + 1 := by rw [← hn]; unfold num; omega
      rw [e1] at hr
      exact ⟨hz', hm, hr⟩
    · right
      have hm' : y = 12 := by omega
      subst hm'
      have h13 := Cal.cum_13 x
      have h6 := Cal.dby_succ x a
      have h1' := Cal.cum_one (x + 1)
      simp only [Int.reduceAdd] at hs
      have e1 : num (x + 1) 1 1 = n + 1 := by rw [← hn]; unfold num; omega
      have hx : x + 1 ≤ 9999 := by
        rcases Int.lt_or_le (x + 1) 10000 with h | h
        · omega
        · have := Cal.dby_mono (a := 10000) (b := x + 1) (by omega) h
          have := Cal.dby_10000
          unfold num at hn; omega
      have db := Cal.dim_bd (x + 1) 1
      have hv2 : vldB (x + 1) 1 1 = true := vld_mk ⟨by omega, hx, by omega, by omega, by omega, by omega⟩
      have hr := date_round hv2
      rw [e1] at hr
      exact ⟨hz', rfl, hr⟩
end Go.Proofs.YtbbhpfobcelbfaaGreatDoor
namespace Go.Proofs.YtbbhpfobcelbfaaGreatDoor

/-- a text of bytes. -/
abbrev S (l : List UInt8) : ByteArray := ⟨l.toArray⟩
theorem S_append (a b : List UInt8) : S a ++ S b = S (a ++ b) := by
  apply ByteArray.ext
  simp [S]
theorem S_cons (c : UInt8) (b : List UInt8) : ({ data := #[c] } : ByteArray) ++ S b = S (c :: b) := S_append [c] b
theorem S_size (l : List UInt8) : (S l).size = l.length := by simp [ByteArray.size]
theorem byteAt_ex {s : ByteArray} {a b i : Nat} (hb : b ≤ s.size) (hi : i < b - a) : byteAt (s.extract a b) i = byteAt s (a + i) := by
  have h1 : i < (s.extract a b).size := by rw [ByteArray.size_extract]; omega
  have h2 : a + i < s.size := by omega
  rw [← byteAt_eq _ _ h1, ← byteAt_eq _ _ h2, ByteArray.getElem_extract]
theorem byteAt_S {l : List UInt8} {i : Nat} {c : UInt8} (h : l[i]? = some c) : byteAt (S l) i = (c.toNat : Int) := by
  obtain ⟨hi, hc⟩ := List.getElem?_eq_some_iff.mp h
  have h1 : i < (S l).size := by rw [S_size]; exact hi
  rw [← byteAt_eq _ _ h1]
  subst hc
  rfl
theorem bytes_ext {s t : ByteArray} (hz : s.size = t.size) (h : ∀ i, i < s.size → byteAt s i = byteAt t i) : s = t := by
  apply ByteArray.ext_getElem hz
  intro i h1 h2
  have := h i h1
  rw [← byteAt_eq _ _ h1, ← byteAt_eq _ _ h2] at this
  apply UInt8.toNat_inj.mp
  omega
end Go.Proofs.YtbbhpfobcelbfaaGreatDoor
namespace Go.Proofs.YtbbhpfobcelbfaaGreatDoor
open Go.RowKit

def letB (c : Int) : Bool := decide (97 ≤ c ∧ c ≤ 122 ∨ 65 ≤ c ∧ c ≤ 90)
def nmB (c : Int) : Bool := letB c || digB c || c == 95 || c == 47 || c == 43 || c == 45
theorem letB_eq {c : Int} {b : Bool} (h : b = true ↔ (97 ≤ c ∧ c ≤ 122 ∨ 65 ≤ c ∧ c ≤ 90)) : b = letB c := by
  unfold letB; rw [Bool.eq_iff_iff]; simpa using h
set_option maxHeartbeats 400000 in
theorem impl_isLetter (c : Int) (w : World) :
    Calls Tryz.prog 176 #[.int .u8 c] w fun e w' => e = .returned (.bool (letB c)) ∧ w' = w := by
  go_enter Tryz.func176, Tryz.ntmps176
  go_wp2
  all_goals go_ret
  all_goals exact ⟨ret_bool (letB_eq (by simp; omega)), rfl⟩
set_option maxHeartbeats 400000 in
theorem spec_l01Letter (c : Int) (w : World) :
    Calls Tryz.prog 143 #[.int .u8 c] w fun e w' => e = .returned (.bool (letB c)) ∧ w' = w := by
  go_enter Tryz.func143, Tryz.ntmps143
  go_wp2
  all_goals go_ret
  all_goals exact ⟨ret_bool (letB_eq (by simp; omega)), rfl⟩
theorem nmB_eq {c : Int} {b : Bool} (h : b = true ↔ (letB c = true ∨ digB c = true ∨ c = 95 ∨ c = 47 ∨ c = 43 ∨ c = 45)) : b = nmB c := by
  unfold nmB; rw [Bool.eq_iff_iff, h]; simp [or_assoc]
set_option maxHeartbeats 400000 in
theorem impl_isNameByte (c : Int) (w : World) :
    Calls Tryz.prog 177 #[.int .u8 c] w fun e w' => e = .returned (.bool (nmB c)) ∧ w' = w := by
  have hL := fun w => impl_isLetter c w
  have hD := fun w => impl_isDigit c w
  cases hl : letB c
  · cases hd : digB c
    · have key : ∀ b : Bool, (b = true ↔ (c = 95 ∨ c = 47 ∨ c = 43 ∨ c = 45)) → b = nmB c := fun b h => nmB_eq (by rw [hl, hd]; simpa using h)
      rw [hl] at hL
      rw [hd] at hD
      have KEY : Hid (∀ b : Bool, (b = true ↔ (c = 95 ∨ c = 47 ∨ c = 43 ∨ c = 45)) → b = nmB c) := key
      clear hl hd key
      go_enter Tryz.func177, Tryz.ntmps177
      go_wp2_with (first | (go_at_call 176; refine (hL _).mono ?_; rintro e w' ⟨rfl, rfl⟩) | (go_at_call 210; refine (hD _).mono ?_; rintro e w' ⟨rfl, rfl⟩))
      all_goals go_ret
      all_goals exact ⟨ret_bool (KEY.out _ (by (try simp) <;> (try omega))), rfl⟩
    · have key : nmB c = true := by unfold nmB; rw [hd]; simp
      rw [key]
      rw [hl] at hL
      rw [hd] at hD
      clear hl hd key
      go_enter Tryz.func177, Tryz.ntmps177
      go_wp2_with (first | (go_at_call 176; refine (hL _).mono ?_; rintro e w' ⟨rfl, rfl⟩) | (go_at_call 210; refine (hD _).mono ?_; rintro e w' ⟨rfl, rfl⟩))
      go_ret
      exact ⟨rfl, rfl⟩
  · have key : nmB c = true := by unfold nmB; rw [hl]; simp
    rw [key]
    rw [hl] at hL
    clear hl key
    go_enter Tryz.func177, Tryz.ntmps177
    go_wp2_with (first | (go_at_call 176; refine (hL _).mono ?_; rintro e w' ⟨rfl, rfl⟩) | (go_at_call 210; refine (hD _).mono ?_; rintro e w' ⟨rfl, rfl⟩))
    go_ret
    exact ⟨rfl, rfl⟩

/-- is the text a name? -/
def nameB (s : ByteArray) : Bool := decide (1 ≤ s.size ∧ s.size ≤ 20 ∧ letB (byteAt s 0) = true ∧ ∀ i, i < s.size → nmB (byteAt s i) = true)
theorem nameB_t {s : ByteArray} (h : nameB s = true) : 1 ≤ s.size ∧ s.size ≤ 20 ∧ letB (byteAt s 0) = true ∧ ∀ i, i < s.size → nmB (byteAt s i) = true := of_decide_eq_true h
theorem name_no1 {s : ByteArray} (h : ¬ (1 ≤ s.size ∧ s.size ≤ 20)) : nameB s = false := decide_eq_false fun hn => h ⟨hn.1, hn.2.1⟩
theorem name_no2 {s : ByteArray} (h : letB (byteAt s 0) = false) : nameB s = false := decide_eq_false fun hn => by rw [hn.2.2.1] at h; cases h
theorem name_no3 {s : ByteArray} {k : Nat} (hk : k < s.size) (h : nmB (byteAt s k) = false) : nameB s = false := decide_eq_false fun hn => by rw [hn.2.2.2 k hk] at h; cases h
theorem name_yes {s : ByteArray} (h1 : 1 ≤ s.size) (h2 : s.size ≤ 20) (h3 : letB (byteAt s 0) = true) (h4 : ∀ i, i < s.size → nmB (byteAt s i) = true) : nameB s = true := decide_eq_true ⟨h1, h2, h3, h4⟩
theorem nm_of_let {c : Int} (h : letB c = true) : nmB c = true := by unfold nmB; rw [h]; simp

theorem nmB_cases {c : Int} : (nmB c = true) ↔ (letB c = true ∨ digB c = true ∨ c = 95 ∨ c = 47 ∨ c = 43 ∨ c = 45) := by
  unfold nmB; simp [or_assoc]

set_option maxHeartbeats 1000000 in
theorem impl_NameRight (s : ByteArray) (w : World) (hs : s.size ≤ maxLen) :
    Calls Tryz.prog 121 #[.string s] w fun e w' => e = .returned (.bool (nameB s)) ∧ w' = w := by
  unfold maxLen at hs
  by_cases h1 : s.size < 1
  · rw [name_no1 (by omega)]
    go_enter Tryz.func121, Tryz.ntmps121
    go_wp2
    go_ret
    exact ⟨rfl, rfl⟩
  by_cases h2 : 20 < s.size
  · rw [name_no1 (by omega)]
    go_enter Tryz.func121, Tryz.ntmps121
    go_wp2
    go_ret
    exact ⟨rfl, rfl⟩
  have hb0 : 0 < s.size := by omega
  have hL := fun w => impl_isLetter (byteAt s 0) w
  rw [← byteAt_eq s 0 hb0] at hL
  cases hl : letB (byteAt s 0)
  · rw [name_no2 hl]
    rw [byteAt_eq s 0 hb0, hl, ← byteAt_eq s 0 hb0] at hL
    clear hl
    go_enter Tryz.func121, Tryz.ntmps121
    go_wp2_with (go_at_call 176; refine (hL _).mono ?_; rintro e w' ⟨rfl, rfl⟩)
    go_ret
    exact ⟨rfl, rfl⟩
  · rw [byteAt_eq s 0 hb0, hl, ← byteAt_eq s 0 hb0] at hL
    have hN := nm_of_let hl
    have HL : Hid (letB (byteAt s 0) = true) := hl
    have HN : Hid (nmB (byteAt s 0) = true) := hN
    clear hl hN
    go_enter Tryz.func121, Tryz.ntmps121
    go_wp2_with (go_at_call 176; refine (hL _).mono ?_; rintro e w' ⟨rfl, rfl⟩)
    go_loop [3] (fun i => ∃ k : Nat, 1 ≤ k ∧ k ≤ s.size ∧ i = .int .i64 k ∧ Hid (∀ j, j < k → nmB (byteAt s j) = true)) (fun i => s.size - (intOf i).toNat)
    case atStart => exact ⟨1, by omega, by omega, rfl, upto_one HN.out⟩
    case round =>
      obtain ⟨k, k1, k2, rfl, hall⟩ := hrel
      by_cases hlt : k < s.size
      · have hB := fun w => impl_isNameByte (byteAt s k) w
        cases hb : nmB (byteAt s k)
        · have HB : Hid (nmB (byteAt s k) = false) := hb
          rw [hb, ← byteAt_eq s k hlt] at hB
          clear hb
          go_wp2_with (go_at_call 177; refine (hB _).mono ?_; rintro e w' ⟨rfl, rfl⟩)
          go_ret
          exact ⟨ret_bool (name_no3 hlt HB.out).symm, rfl⟩
        · have HB : Hid (nmB (byteAt s k) = true) := hb
          rw [hb, ← byteAt_eq s k hlt] at hB
          clear hb
          go_wp2_with (go_at_call 177; refine (hB _).mono ?_; rintro e w' ⟨rfl, rfl⟩)
          go_round
          case rel => exact ⟨k + 1, by omega, by omega, by go_num, upto_succ hall.out HB.out⟩
          case measure => simp [intOf]; omega
      · go_wp2
        go_ret
        exact ⟨ret_bool (name_yes (by omega) (by omega) HL.out (fun i hi => hall.out i (by omega))).symm, rfl⟩
set_option maxHeartbeats 2000000 in
theorem spec_NameRight (s : ByteArray) (w : World) (hs : s.size ≤ maxLen) :
    Calls Tryz.prog 84 #[.string s] w fun e w' => e = .returned (.bool (nameB s)) ∧ w' = w := by
  unfold maxLen at hs
  by_cases h1 : s.size < 1
  · rw [name_no1 (by omega)]
    go_enter Tryz.func84, Tryz.ntmps84
    go_wp2
    go_ret
    exact ⟨rfl, rfl⟩
  by_cases h2 : 20 < s.size
  · rw [name_no1 (by omega)]
    go_enter Tryz.func84, Tryz.ntmps84
    go_wp2
    go_ret
    exact ⟨rfl, rfl⟩
  have hb0 : 0 < s.size := by omega
  have hL := fun w => spec_l01Letter (byteAt s 0) w
  rw [← byteAt_eq s 0 hb0] at hL
  cases hl : letB (byteAt s 0)
  · rw [name_no2 hl]
    rw [byteAt_eq s 0 hb0, hl, ← byteAt_eq s 0 hb0] at hL
    clear hl
    go_enter Tryz.func84, Tryz.ntmps84
    go_wp2_with (go_at_call 143; refine (hL _).mono ?_; rintro e w' ⟨rfl, rfl⟩)
    go_ret
    exact ⟨rfl, rfl⟩
  · rw [byteAt_eq s 0 hb0, hl, ← byteAt_eq s 0 hb0] at hL
    have HL : Hid (letB (byteAt s 0) = true) := hl
    clear hl
    go_enter Tryz.func84, Tryz.ntmps84
    go_wp2_with (go_at_call 143; refine (hL _).mono ?_; rintro e w' ⟨rfl, rfl⟩)
    clear hL
    go_loop [3] (fun i => ∃ k : Nat, k ≤ s.size ∧ i = .int .i64 k ∧ Hid (∀ j, j < k → nmB (byteAt s j) = true)) (fun i => s.size - (intOf i).toNat)
    case atStart => exact ⟨0, by omega, rfl, upto_zero⟩
    case round =>
      obtain ⟨k, k2, rfl, hall⟩ := hrel
      by_cases hlt : k < s.size
      · have hN : Hid (nmB (byteAt s k) = false → nameB s = false) := fun h => name_no3 hlt h
        have hC : Hid (nmB (byteAt s k) = true ↔ _) := nmB_cases
        have hB := fun w => spec_l01Letter (byteAt s k) w
        have hD := fun w => spec_l01Digit (byteAt s k) w
        have e := byteAt_eq s k hlt
        cases hl : letB (byteAt s k)
        · cases hd : digB (byteAt s k)
          · rw [hl, ← e] at hB
            rw [hd, ← e] at hD
            rw [hl, hd] at hC
            by_cases ho : byteAt s k = 95 ∨ byteAt s k = 47 ∨ byteAt s k = 43 ∨ byteAt s k = 45
            · have HB : Hid (nmB (byteAt s k) = true) := hC.out.2 (by simpa using ho)
              rw [← e] at ho
              clear hl hd e hC hN
              rcases ho with ho | ho | ho | ho
              all_goals
                rw [ho] at hB hD
                go_wp2_with (first | (go_at_call 143; refine (hB _).mono ?_; rintro e w' ⟨rfl, rfl⟩) | (go_at_call 144; refine (hD _).mono ?_; rintro e w' ⟨rfl, rfl⟩))
                go_round
                case rel => exact ⟨k + 1, by omega, by go_num, upto_succ hall.out HB.out⟩
                case measure => simp [intOf]; omega
            · have HB : Hid (nmB (byteAt s k) = false) := by
                cases h : nmB (byteAt s k)
                · rfl
                · exact absurd (hC.out.1 h) (by simpa using ho)
              rw [← e] at ho
              have o1 : ((s[k].toNat : Int) != 95) = true := by simp; omega
              have o2 : ((s[k].toNat : Int) != 47) = true := by simp; omega
              have o3 : ((s[k].toNat : Int) != 43) = true := by simp; omega
              have o4 : ((s[k].toNat : Int) != 45) = true := by simp; omega
              clear hl hd e hC ho
              go_wp2_with (first | (go_at_call 143; refine (hB _).mono ?_; rintro e w' ⟨rfl, rfl⟩) | (go_at_call 144; refine (hD _).mono ?_; rintro e w' ⟨rfl, rfl⟩))
              go_ret
              exact ⟨ret_bool (hN.out HB.out).symm, rfl⟩
          · have HB : Hid (nmB (byteAt s k) = true) := by unfold nmB; rw [hd]; simp [Hid]
            rw [hl, ← e] at hB
            rw [hd, ← e] at hD
            clear hl hd e hC hN
            go_wp2_with (first | (go_at_call 143; refine (hB _).mono ?_; rintro e w' ⟨rfl, rfl⟩) | (go_at_call 144; refine (hD _).mono ?_; rintro e w' ⟨rfl, rfl⟩))
            go_round
            case rel => exact ⟨k + 1, by omega, by go_num, upto_succ hall.out HB.out⟩
            case measure => simp [intOf]; omega
        · have HB : Hid (nmB (byteAt s k) = true) := nm_of_let hl
          rw [hl, ← e] at hB
          clear hl e hC hN
          go_wp2_with (first | (go_at_call 143; refine (hB _).mono ?_; rintro e w' ⟨rfl, rfl⟩) | (go_at_call 144; refine (hD _).mono ?_; rintro e w' ⟨rfl, rfl⟩))
          go_round
          case rel => exact ⟨k + 1, by omega, by go_num, upto_succ hall.out HB.out⟩
          case measure => simp [intOf]; omega
      · go_wp2
        go_ret
        exact ⟨ret_bool (name_yes (by omega) (by omega) HL.out (fun i hi => hall.out i (by omega))).symm, rfl⟩
end Go.Proofs.YtbbhpfobcelbfaaGreatDoor
