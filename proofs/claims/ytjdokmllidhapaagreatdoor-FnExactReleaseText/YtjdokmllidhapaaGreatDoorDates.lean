/- Contracts of the calendar's functions, the program's and the model's: leap years, the days of a month. -/
import Derived.Test.YtjdokmllidhapaaGreatDoorBasic
import Derived.Test.YtjdokmllidhapaaGreatDoorCal
import Derived.Lib.LaidTab
namespace Go.Proofs.YtjdokmllidhapaaGreatDoor
open Go.RowKit

def lpB (y : Int) : Bool := decide (Cal.lp y = 1)
theorem lpB_t {y : Int} (h : lpB y = true) : Cal.lp y = 1 := of_decide_eq_true h
theorem lpB_f {y : Int} (h : lpB y = false) : Cal.lp y = 0 := by
  have := of_decide_eq_false h; have := Cal.lp_01 y; omega
theorem lpB_mk_t {y : Int} (h : y % 4 = 0 ∧ (y % 100 ≠ 0 ∨ y % 400 = 0)) : lpB y = true := by
  unfold lpB Cal.lp; rw [if_pos h]; rfl
theorem lpB_mk_f {y : Int} (h : ¬ (y % 4 = 0 ∧ (y % 100 ≠ 0 ∨ y % 400 = 0))) : lpB y = false := by
  unfold lpB Cal.lp; rw [if_neg h]; rfl
theorem lp_way1 {y : Int} (h4 : y % 4 = 0) (h100 : y % 100 = 0) : (y % 400 == 0) = lpB y := by
  by_cases h : y % 400 = 0
  · rw [lpB_mk_t ⟨h4, .inr h⟩]; simp [h]
  · rw [lpB_mk_f (by omega)]; simp [h]
theorem lp_way2 {y : Int} (h4 : y % 4 = 0) (h100 : ¬ y % 100 = 0) : true = lpB y := (lpB_mk_t ⟨h4, .inl h100⟩).symm
theorem lp_way3 {y : Int} (h4 : ¬ y % 4 = 0) : false = lpB y := (lpB_mk_f (by omega)).symm

set_option maxHeartbeats 400000 in
theorem impl_isLeap (y : Int) (w : World) (h1 : 1 ≤ y) (h2 : y ≤ 9999) :
    Calls Tryz.prog 279 #[.int .i64 y] w fun e w' => e = .returned (.bool (lpB y)) ∧ w' = w := by
  go_enter Tryz.func279, Tryz.ntmps279
  go_wp2
  all_goals go_ret
  · exact ⟨ret_bool (lp_way1 ‹_› ‹_›), rfl⟩
  · exact ⟨ret_bool (lp_way2 ‹_› ‹_›), rfl⟩
  · exact ⟨ret_bool (lp_way3 ‹_›), rfl⟩
set_option maxHeartbeats 400000 in
theorem spec_l01Leap (y : Int) (w : World) (h1 : 1 ≤ y) (h2 : y ≤ 9999) :
    Calls Tryz.prog 259 #[.int .i64 y] w fun e w' => e = .returned (.bool (lpB y)) ∧ w' = w := by
  go_enter Tryz.func259, Tryz.ntmps259
  go_wp2
  all_goals go_ret
  · exact ⟨ret_bool (lp_way1 ‹_› ‹_›), rfl⟩
  · exact ⟨ret_bool (lp_way2 ‹_› ‹_›), rfl⟩
  · exact ⟨ret_bool (lp_way3 ‹_›), rfl⟩

/-- the table of the months' lengths, as the program's text lays it. -/
def tabList : List Int := [0, 31, 28, 31, 30, 31, 30, 31, 31, 30, 31, 30, 31]
def Tab (w : World) : Prop := ∀ i : Nat, i < 13 → w.cell? ⟨3, i, none⟩ = some (.int .i64 (tabList.getD i 0))
theorem tab_dim {y m : Int} (h1 : 1 ≤ m) (h2 : m ≤ 12) (h : lpB y = false ∨ m ≠ 2) : tabList.getD m.toNat 0 = Cal.dim y m := by
  have hm : m = 1 ∨ m = 2 ∨ m = 3 ∨ m = 4 ∨ m = 5 ∨ m = 6 ∨ m = 7 ∨ m = 8 ∨ m = 9 ∨ m = 10 ∨ m = 11 ∨ m = 12 := by omega
  rcases hm with e | e | e | e | e | e | e | e | e | e | e | e
  case inr.inl =>
    subst e
    have := lpB_f (h.resolve_right (by simp))
    simp [tabList, Cal.dim, this]
  all_goals subst e; simp [tabList, Cal.dim]
theorem Tab.at {w : World} (h : Tab w) {m : Int} (h1 : 1 ≤ m) (h2 : m ≤ 12) : w.cell? ⟨3, m.toNat, none⟩ = some (.int .i64 (tabList.getD m.toNat 0)) := h _ (by omega)

set_option maxHeartbeats 400000 in
theorem impl_MonthDays_ok (y m : Int) (w : World) (hT : Tab w) (h1 : 1 ≤ y) (h2 : y ≤ 9999) (h3 : 1 ≤ m) (h4 : m ≤ 12) :
    Calls Tryz.prog 242 #[.int .i64 y, .int .i64 m] w fun e w' => e = .returned (.int .i64 (Cal.dim y m)) ∧ w' = w := by
  have hc2 : w.cell? ⟨3, 2, none⟩ = some (.int .i64 28) := hT 2 (by omega)
  by_cases hm : m = 2
  · subst hm
    clear hT
    cases hl : lpB y
    · have e : Cal.dim y 2 = 28 := by have := lpB_f hl; simp [Cal.dim, this]
      rw [e]
      go_enter Tryz.func242, Tryz.ntmps242
      go_wp2_with (go_at_call 279; refine (impl_isLeap _ _ (by omega) (by omega)).mono ?_; rintro e w' ⟨rfl, rfl⟩)
      go_ret
      exact ⟨rfl, rfl⟩
    · have e : Cal.dim y 2 = 29 := by have := lpB_t hl; simp [Cal.dim, this]
      rw [e]
      go_enter Tryz.func242, Tryz.ntmps242
      go_wp2_with (go_at_call 279; refine (impl_isLeap _ _ (by omega) (by omega)).mono ?_; rintro e w' ⟨rfl, rfl⟩)
      go_ret
      exact ⟨rfl, rfl⟩
  · have hc := hT.at h3 h4
    rw [tab_dim (y := y) h3 h4 (.inr hm)] at hc
    have hb : (m == 2) = false := by simpa using hm
    clear hT hc2
    generalize Cal.dim y m = v at hc
    go_enter Tryz.func242, Tryz.ntmps242
    go_wp2
    go_ret
    exact ⟨rfl, rfl⟩
def ymB (y m : Int) : Bool := decide (1 ≤ y ∧ y ≤ 9999 ∧ 1 ≤ m ∧ m ≤ 12)
theorem ymB_t {y m : Int} (h : ymB y m = true) : 1 ≤ y ∧ y ≤ 9999 ∧ 1 ≤ m ∧ m ≤ 12 := of_decide_eq_true h
theorem ymB_f {y m : Int} (h : ymB y m = false) : y < 1 ∨ 9999 < y ∨ m < 1 ∨ 12 < m := by have := of_decide_eq_false h; omega
/-- the days of a month, 0 where there is none. -/
def mdays (y m : Int) : Int := if ymB y m = true then Cal.dim y m else 0
theorem mdays_ok {y m : Int} (h1 : 1 ≤ y) (h2 : y ≤ 9999) (h3 : 1 ≤ m) (h4 : m ≤ 12) : mdays y m = Cal.dim y m := by
  unfold mdays ymB; rw [if_pos (decide_eq_true ⟨h1, h2, h3, h4⟩)]
theorem mdays_no {y m : Int} (h : ymB y m = false) : mdays y m = 0 := by unfold mdays; rw [h]; rfl
theorem mdays_bd (y m : Int) : 0 ≤ mdays y m ∧ mdays y m ≤ 31 := by
  have := Cal.dim_bd y m; unfold mdays; split <;> omega

set_option maxHeartbeats 400000 in
theorem impl_MonthDays_no (y m : Int) (w : World) (h : ymB y m = false) :
    Calls Tryz.prog 242 #[.int .i64 y, .int .i64 m] w fun e w' => e = .returned (.int .i64 0) ∧ w' = w := by
  have h' := ymB_f h
  clear h
  by_cases c1 : y < 1
  · go_enter Tryz.func242, Tryz.ntmps242
    go_wp2
    go_ret
    exact ⟨rfl, rfl⟩
  by_cases c2 : 9999 < y
  · go_enter Tryz.func242, Tryz.ntmps242
    go_wp2
    go_ret
    exact ⟨rfl, rfl⟩
  by_cases c3 : m < 1
  · go_enter Tryz.func242, Tryz.ntmps242
    go_wp2
    go_ret
    exact ⟨rfl, rfl⟩
  have c4 : 12 < m := by omega
  clear h'
  go_enter Tryz.func242, Tryz.ntmps242
  go_wp2
  go_ret
  exact ⟨rfl, rfl⟩
theorem impl_MonthDays (y m : Int) (w : World) (hT : Tab w) :
    Calls Tryz.prog 242 #[.int .i64 y, .int .i64 m] w fun e w' => e = .returned (.int .i64 (mdays y m)) ∧ w' = w := by
  cases h : ymB y m
  · rw [mdays_no h]; exact impl_MonthDays_no y m w h
  · have ⟨a, b, c, d⟩ := ymB_t h
    rw [mdays_ok a b c d]; exact impl_MonthDays_ok y m w hT a b c d

set_option maxHeartbeats 400000 in
theorem spec_l01Month (y m : Int) (w : World) (h1 : 1 ≤ y) (h2 : y ≤ 9999) :
    Calls Tryz.prog 217 #[.int .i64 y, .int .i64 m] w fun e w' => e = .returned (.int .i64 (Cal.dim y m)) ∧ w' = w := by
  by_cases hm : m = 2
  · subst hm
    cases hl : lpB y
    · have e : Cal.dim y 2 = 28 := by have := lpB_f hl; simp [Cal.dim, this]
      rw [e]
      go_enter Tryz.func217, Tryz.ntmps217
      go_wp2_with (go_at_call 259; refine (spec_l01Leap _ _ (by omega) (by omega)).mono ?_; rintro e w' ⟨rfl, rfl⟩)
      go_ret
      exact ⟨rfl, rfl⟩
    · have e : Cal.dim y 2 = 29 := by have := lpB_t hl; simp [Cal.dim, this]
      rw [e]
      go_enter Tryz.func217, Tryz.ntmps217
      go_wp2_with (go_at_call 259; refine (spec_l01Leap _ _ (by omega) (by omega)).mono ?_; rintro e w' ⟨rfl, rfl⟩)
      go_ret
      exact ⟨rfl, rfl⟩
  · have hb : (m == 2) = false := by simpa using hm
    by_cases h30 : m = 4 ∨ m = 6 ∨ m = 9 ∨ m = 11
    · have e : Cal.dim y m = 30 := by unfold Cal.dim; rw [if_neg hm, if_pos h30]
      rw [e]
      rcases h30 with h | h | h | h <;> subst h <;> clear hm hb e
      all_goals
        go_enter Tryz.func217, Tryz.ntmps217
        go_wp2
        go_ret
        exact ⟨rfl, rfl⟩
    · have e : Cal.dim y m = 31 := by unfold Cal.dim; rw [if_neg hm, if_neg h30]
      rw [e]
      have b4 : (m == 4) = false := by simp; omega
      have b6 : (m == 6) = false := by simp; omega
      have b9 : (m == 9) = false := by simp; omega
      have b11 : (m == 11) = false := by simp; omega
      clear e h30 hm
      go_enter Tryz.func217, Tryz.ntmps217
      go_wp2
      go_ret
      exact ⟨rfl, rfl⟩

theorem Tab.of_below {w w' : World} (h : Tab w) (hb : Below w.heap.size w w') : Tab w' := fun i hi => by
  rw [hb.cell (p := ⟨3, i, none⟩) (World.block_lt_of_cell? _ _ (h i hi))]; exact h i hi
theorem Tab.alloc {w : World} (h : Tab w) (o : Obj) : Tab (w.alloc o) := h.of_below ((Below.refl _ _).alloc (Nat.le_refl _) o)
theorem Tab.drewN {w : World} (h : Tab w) (n : Nat) : Tab (w.drewN n) := h
set_option maxHeartbeats 400000 in
theorem spec_l01Year (y : Int) (w : World) :
    Calls Tryz.prog 123 #[.int .i64 y] w fun e w' => e = .returned (.bool (isB y 1 9999)) ∧ w' = w := by
  go_enter Tryz.func123, Tryz.ntmps123
  go_wp2_with (go_at_call 47; refine (spec_l01Is _ _ _ _).mono ?_; rintro e w' ⟨rfl, rfl⟩)
  go_ret
  exact ⟨rfl, rfl⟩
theorem spec_l01Year_v {y : Int} {b : Bool} (h : isB y 1 9999 = b) (w : World) :
    Calls Tryz.prog 123 #[.int .i64 y] w fun e w' => e = .returned (.bool b) ∧ w' = w := h ▸ spec_l01Year y w
/-- is it a right date? -/
def vldB (y m d : Int) : Bool := decide (1 ≤ y ∧ y ≤ 9999 ∧ 1 ≤ m ∧ m ≤ 12 ∧ 1 ≤ d ∧ d ≤ Cal.dim y m)
theorem vld_t {y m d : Int} (h : vldB y m d = true) : 1 ≤ y ∧ y ≤ 9999 ∧ 1 ≤ m ∧ m ≤ 12 ∧ 1 ≤ d ∧ d ≤ Cal.dim y m := of_decide_eq_true h
theorem vld_f {y m d : Int} (h : vldB y m d = false) : ¬ (1 ≤ y ∧ y ≤ 9999 ∧ 1 ≤ m ∧ m ≤ 12 ∧ 1 ≤ d ∧ d ≤ Cal.dim y m) := of_decide_eq_false h
theorem vld_mk {y m d : Int} (h : 1 ≤ y ∧ y ≤ 9999 ∧ 1 ≤ m ∧ m ≤ 12 ∧ 1 ≤ d ∧ d ≤ Cal.dim y m) : vldB y m d = true := decide_eq_true h
theorem vld_no {y m d : Int} (h : ¬ (1 ≤ y ∧ y ≤ 9999 ∧ 1 ≤ m ∧ m ≤ 12 ∧ 1 ≤ d ∧ d ≤ Cal.dim y m)) : vldB y m d = false := decide_eq_false h
theorem vld_mdays {y m d : Int} (h1 : 1 ≤ d) : vldB y m d = decide (d ≤ mdays y m) := by
  cases h : ymB y m
  · rw [mdays_no h]
    have := ymB_f h
    rw [vld_no (by omega)]
    symm; simp; omega
  · have ⟨a, b, c, e⟩ := ymB_t h
    rw [mdays_ok a b c e]
    by_cases hd : d ≤ Cal.dim y m
    · rw [vld_mk ⟨a, b, c, e, h1, hd⟩]; simp [hd]
    · rw [vld_no (by omega)]; simp [hd]

set_option maxHeartbeats 400000 in
theorem impl_DateRight (y m d : Int) (w : World) (hT : Tab w) :
    Calls Tryz.prog 302 #[.agg #[.int .i64 y, .int .i64 m, .int .i64 d]] w fun e w' => e = .returned (.bool (vldB y m d)) ∧ Below w.heap.size w w' := by
  by_cases h : 1 ≤ d
  · rw [vld_mdays h]
    have hM : ∀ o n, Calls Tryz.prog 242 #[.int .i64 y, .int .i64 m] ((w.alloc o).drewN n) fun e w' => e = .returned (.int .i64 (mdays y m)) ∧ w' = (w.alloc o).drewN n := fun o n => impl_MonthDays y m _ ((hT.alloc o).drewN n)
    have bd := mdays_bd y m
    generalize mdays y m = v at *
    clear hT
    go_enter Tryz.func302, Tryz.ntmps302
    go_wp2_with fail
    go_quiet ((go_at_call 242; exact Calls.quiet_of_same (hM _ _)))
    go_wp2
    go_ret
    exact ⟨rfl, below1 _ _ _⟩
  · rw [vld_no (by omega)]
    have hd : decide (1 ≤ d) = false := by simpa using h
    clear hT
    go_enter Tryz.func302, Tryz.ntmps302
    go_wp2_with fail
    go_quiet (fail)
    go_wp2
    go_ret
    exact ⟨rfl, below1 _ _ _⟩

end Go.Proofs.YtjdokmllidhapaaGreatDoor
