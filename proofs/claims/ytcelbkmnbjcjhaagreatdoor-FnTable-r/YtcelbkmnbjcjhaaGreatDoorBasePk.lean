/- Packed: Basic Cal Dates Digs Wd Days DateOf Rounds Bytes. -/
import Derived.Test.YtcelbkmnbjcjhaaGreatDoorProg
import Derived.WalkKit
import Derived.WalkSpells
import Derived.WalkLawsBesides
import Derived.Deep.QuietTactic
import Derived.BigQuiet
import Derived.Deep.RegionWith
import Derived.Lib.LaidTab
namespace Go.Proofs.YtcelbkmnbjcjhaaGreatDoor
open Go.RowKit

theorem ret_bool {a b : Bool} (h : a = b) : Ending.returned (.bool a) = .returned (.bool b) := by rw [h]
theorem ret_int {k : IntKind} {a b : Int} (h : a = b) : Ending.returned (.int k a) = .returned (.int k b) := by rw [h]

theorem below1 (w : World) (o : Obj) (n : Nat) : Below w.heap.size w ((w.alloc o).drewN n) := below_drewN ((Below.refl _ _).alloc (Nat.le_refl _) o) n
theorem qq1 {α : Type} {l : List α} {i : Nat} {x : α} : l.toArray.setIfInBounds i x = (l.set i x).toArray := List.setIfInBounds_toArray ..
theorem qq2 {α : Type} {l : List α} {a x : α} : (a :: l).set 0 x = x :: l := List.set_cons_zero ..
theorem qq3 {α : Type} {l : List α} {i : Nat} {a x : α} : (a :: l).set (i + 1) x = a :: l.set i x := List.set_cons_succ ..
theorem bcell {W w1 : World} (hb : Below W.heap.size W w1) : (∀ b o, b < W.heap.size → w1.cell? ⟨b, o, none⟩ = W.cell? ⟨b, o, none⟩) ∧ (∀ b o, b < W.heap.size → w1.frozen? ⟨b, o, none⟩ = W.frozen? ⟨b, o, none⟩) :=
 ⟨fun b o h => hb.cell (p := ⟨b, o, none⟩) h, fun b o h => hb.frozen (p := ⟨b, o, none⟩) h⟩

set_option maxHeartbeats 400000 in
theorem spec_l01Is_t (n lo hi : Int) (w : World) (h1 : lo ≤ n) (h2 : n ≤ hi) :
  Calls Tryz.prog 26 #[.int .i64 n, .int .i64 lo, .int .i64 hi] w fun e w' => e = .returned (.bool true) ∧ w' = w := by
 go_enter Tryz.func26, Tryz.ntmps26
 go_wp2
 go_ret
 exact ⟨ret_bool (by simp), rfl⟩
set_option maxHeartbeats 400000 in
theorem spec_l01Is_f (n lo hi : Int) (w : World) (h : n < lo ∨ hi < n) :
  Calls Tryz.prog 26 #[.int .i64 n, .int .i64 lo, .int .i64 hi] w fun e w' => e = .returned (.bool false) ∧ w' = w := by
 by_cases h1 : lo ≤ n
 ·
  have h2 : hi < n := by omega
  clear h
  go_enter Tryz.func26, Tryz.ntmps26
  go_wp2
  go_ret
  exact ⟨ret_bool (by simp; omega), rfl⟩
 ·
  clear h
  go_enter Tryz.func26, Tryz.ntmps26
  go_wp2
  go_ret
  exact ⟨ret_bool (by simp), rfl⟩
def isB (n lo hi : Int) : Bool := decide (lo ≤ n ∧ n ≤ hi)
theorem isB_t {n lo hi : Int} (h1 : lo ≤ n) (h2 : n ≤ hi) : isB n lo hi = true := decide_eq_true ⟨h1, h2⟩
theorem isB_f {n lo hi : Int} (h : ¬ (lo ≤ n ∧ n ≤ hi)) : isB n lo hi = false := decide_eq_false h
theorem isB_of_t {n lo hi : Int} (h : isB n lo hi = true) : lo ≤ n ∧ n ≤ hi := of_decide_eq_true h
theorem isB_of_f {n lo hi : Int} (h : isB n lo hi = false) : ¬ (lo ≤ n ∧ n ≤ hi) := of_decide_eq_false h
theorem spec_l01Is (n lo hi : Int) (w : World) :
  Calls Tryz.prog 26 #[.int .i64 n, .int .i64 lo, .int .i64 hi] w fun e w' => e = .returned (.bool (isB n lo hi)) ∧ w' = w := by
 cases h : isB n lo hi
 ·
  exact spec_l01Is_f n lo hi w (by have := isB_of_f h; omega)
 ·
  exact spec_l01Is_t n lo hi w (isB_of_t h).1 (isB_of_t h).2
theorem spec_l01Is_v {n lo hi : Int} {b : Bool} (h : isB n lo hi = b) (w : World) :
  Calls Tryz.prog 26 #[.int .i64 n, .int .i64 lo, .int .i64 hi] w fun e w' => e = .returned (.bool b) ∧ w' = w := h ▸ spec_l01Is n lo hi w
end Go.Proofs.YtcelbkmnbjcjhaaGreatDoor
namespace Go.Cal
def lp (y : Int) : Int := if y % 4 = 0 ∧ (y % 100 ≠ 0 ∨ y % 400 = 0) then 1 else 0
def dim (y m : Int) : Int :=
 if m = 2 then 28 + lp y else if m = 4 ∨ m = 6 ∨ m = 9 ∨ m = 11 then 30 else 31
def dby (y : Int) : Int := 365 * (y - 1) + (y - 1) / 4 - (y - 1) / 100 + (y - 1) / 400
def cum (y m : Int) : Int :=
 if m ≤ 1 then 0 else if m = 2 then 31 else
 (if m = 3 then 59 else if m = 4 then 90 else if m = 5 then 120 else if m = 6 then 151 else if m = 7 then 181 else
 if m = 8 then 212 else if m = 9 then 243 else if m = 10 then 273 else if m = 11 then 304 else if m = 12 then 334 else 365) + lp y

theorem lp_01 (y : Int) : 0 ≤ lp y ∧ lp y ≤ 1 := by unfold lp; split <;> omega
theorem dim_bd (y m : Int) : 28 ≤ dim y m ∧ dim y m ≤ 31 := by
 have := lp_01 y; unfold dim; split; omega; split <;> omega
theorem cum_one (y : Int) : cum y 1 = 0 := by unfold cum; simp
theorem cum_succ (y m : Int) (h1 : 1 ≤ m) (h2 : m ≤ 12) : cum y (m + 1) = cum y m + dim y m := by
 have := lp_01 y
 have hm : m = 1 ∨ m = 2 ∨ m = 3 ∨ m = 4 ∨ m = 5 ∨ m = 6 ∨ m = 7 ∨ m = 8 ∨ m = 9 ∨ m = 10 ∨ m = 11 ∨ m = 12 := by omega
 rcases hm with h | h | h | h | h | h | h | h | h | h | h | h <;> subst h <;> simp [cum, dim] <;> omega
theorem cum_13 (y : Int) : cum y 13 = 365 + lp y := by simp [cum]
theorem cum_bd (y m : Int) : 0 ≤ cum y m ∧ cum y m ≤ 366 := by
 have := lp_01 y
 unfold cum; repeat' split
 all_goals omega
theorem dby_succ (y : Int) (_h : 1 ≤ y) : dby (y + 1) = dby y + 365 + lp y := by
 unfold dby lp
 split <;> omega
theorem dby_mono {a b : Int} (_h0 : 1 ≤ a) (_h : a ≤ b) : dby a ≤ dby b := by unfold dby; omega
theorem dby_bd (y : Int) (h0 : 1 ≤ y) (h : y ≤ 10000) : 0 ≤ dby y ∧ dby y ≤ 3652059 := by unfold dby; omega
theorem dby_10000 : dby 10000 = 3652059 := by unfold dby; omega
theorem cum_mono {y a b : Int} (h0 : 1 ≤ a) (h : a ≤ b) (hb : b ≤ 13) : cum y a ≤ cum y b := by
 obtain ⟨n, rfl⟩ : ∃ n : Nat, b = a + n := ⟨(b - a).toNat, by omega⟩
 induction n with
 | zero => simp
 | succ k ih =>
  have h1 := ih (by omega) (by omega)
  have h2 := cum_succ y (a + k) (by omega) (by omega)
  have h3 := dim_bd y (a + k)
  have e : a + ((k + 1 : Nat) : Int) = a + k + 1 := by omega
  rw [e]; omega
end Go.Cal
namespace Go.Proofs.YtcelbkmnbjcjhaaGreatDoor
open Go.RowKit

def lpB (y : Int) : Bool := decide (Cal.lp y = 1)
theorem lpB_t {y : Int} (h : lpB y = true) : Cal.lp y = 1 := of_decide_eq_true h
theorem lpB_f {y : Int} (h : lpB y = false) : Cal.lp y = 0 := by
 have := of_decide_eq_false h; have := Cal.lp_01 y; omega
theorem lpB_mk_t {y : Int} (h : y % 4 = 0 ∧ (y % 100 ≠ 0 ∨ y % 400 = 0)) : lpB y = true := by
 unfold lpB Cal.lp; rw [if_pos h]; rfl
theorem lpB_mk_f {y : Int} (h : ¬ (y % 4 = 0 ∧ (y % 100 ≠ 0 ∨ y % 400 = 0))) : lpB y = false := by
 unfold lpB Cal.lp; rw [if_neg h]; rfl
theorem lp_way1 {y : Int} (h4 : y % 4 = 0) (h100 : y % 100 = 0) : (y % 400 == 0) = lpB y := by
 by_cases h : y % 400 = 0
 ·
  rw [lpB_mk_t ⟨h4, .inr h⟩]; simp [h]
 ·
  rw [lpB_mk_f (by omega)]; simp [h]
theorem lp_way2 {y : Int} (h4 : y % 4 = 0) (h100 : ¬ y % 100 = 0) : true = lpB y := (lpB_mk_t ⟨h4, .inl h100⟩).symm
theorem lp_way3 {y : Int} (h4 : ¬ y % 4 = 0) : false = lpB y := (lpB_mk_f (by omega)).symm

set_option maxHeartbeats 400000 in
theorem impl_isLeap (y : Int) (w : World) (h1 : 1 ≤ y) (h2 : y ≤ 9999) :
  Calls Tryz.prog 194 #[.int .i64 y] w fun e w' => e = .returned (.bool (lpB y)) ∧ w' = w := by
 go_enter Tryz.func194, Tryz.ntmps194
 go_wp2
 all_goals go_ret
 ·
  exact ⟨ret_bool (lp_way1 ‹_› ‹_›), rfl⟩
 ·
  exact ⟨ret_bool (lp_way2 ‹_› ‹_›), rfl⟩
 ·
  exact ⟨ret_bool (lp_way3 ‹_›), rfl⟩
set_option maxHeartbeats 400000 in
theorem spec_l01Leap (y : Int) (w : World) (h1 : 1 ≤ y) (h2 : y ≤ 9999) :
  Calls Tryz.prog 179 #[.int .i64 y] w fun e w' => e = .returned (.bool (lpB y)) ∧ w' = w := by
 go_enter Tryz.func179, Tryz.ntmps179
 go_wp2
 all_goals go_ret
 ·
  exact ⟨ret_bool (lp_way1 ‹_› ‹_›), rfl⟩
 ·
  exact ⟨ret_bool (lp_way2 ‹_› ‹_›), rfl⟩
 ·
  exact ⟨ret_bool (lp_way3 ‹_›), rfl⟩

def tabList : List Int := [0, 31, 28, 31, 30, 31, 30, 31, 31, 30, 31, 30, 31]
def Tab (w : World) : Prop := ∀ i : Nat, i < 13 → w.cell? ⟨3, i, none⟩ = some (.int .i64 (tabList.getD i 0))
theorem tab_dim {y m : Int} (h1 : 1 ≤ m) (h2 : m ≤ 12) (h : lpB y = false ∨ m ≠ 2) : tabList.getD m.toNat 0 = Cal.dim y m := by
 have hm : m = 1 ∨ m = 2 ∨ m = 3 ∨ m = 4 ∨ m = 5 ∨ m = 6 ∨ m = 7 ∨ m = 8 ∨ m = 9 ∨ m = 10 ∨ m = 11 ∨ m = 12 := by omega
 rcases hm with e | e | e | e | e | e | e | e | e | e | e | e
 case inr.inl =>
  subst e
  have := lpB_f (h.resolve_right (by simp))
  simp [tabList, Cal.dim, this]
 all_goals subst e; simp [tabList, Cal.dim]
theorem Tab.at {w : World} (h : Tab w) {m : Int} (h1 : 1 ≤ m) (h2 : m ≤ 12) : w.cell? ⟨3, m.toNat, none⟩ = some (.int .i64 (tabList.getD m.toNat 0)) := h _ (by omega)

set_option maxHeartbeats 400000 in
theorem impl_MonthDays_ok (y m : Int) (w : World) (hT : Tab w) (h1 : 1 ≤ y) (h2 : y ≤ 9999) (h3 : 1 ≤ m) (h4 : m ≤ 12) :
  Calls Tryz.prog 162 #[.int .i64 y, .int .i64 m] w fun e w' => e = .returned (.int .i64 (Cal.dim y m)) ∧ w' = w := by
 have hc2 : w.cell? ⟨3, 2, none⟩ = some (.int .i64 28) := hT 2 (by omega)
 by_cases hm : m = 2
 ·
  subst hm
  clear hT
  cases hl : lpB y
  ·
   have e : Cal.dim y 2 = 28 := by have := lpB_f hl; simp [Cal.dim, this]
   rw [e]
   go_enter Tryz.func162, Tryz.ntmps162
   go_wp2_with (go_at_call 194; refine (impl_isLeap _ _ (by omega) (by omega)).mono ?_; rintro e w' ⟨rfl, rfl⟩)
   go_ret
   exact ⟨rfl, rfl⟩
  ·
   have e : Cal.dim y 2 = 29 := by have := lpB_t hl; simp [Cal.dim, this]
   rw [e]
   go_enter Tryz.func162, Tryz.ntmps162
   go_wp2_with (go_at_call 194; refine (impl_isLeap _ _ (by omega) (by omega)).mono ?_; rintro e w' ⟨rfl, rfl⟩)
   go_ret
   exact ⟨rfl, rfl⟩
 ·
  have hc := hT.at h3 h4
  rw [tab_dim (y := y) h3 h4 (.inr hm)] at hc
  have hb : (m == 2) = false := by simpa using hm
  clear hT hc2
  generalize Cal.dim y m = v at hc
  go_enter Tryz.func162, Tryz.ntmps162
  go_wp2
  go_ret
  exact ⟨rfl, rfl⟩
def ymB (y m : Int) : Bool := decide (1 ≤ y ∧ y ≤ 9999 ∧ 1 ≤ m ∧ m ≤ 12)
theorem ymB_t {y m : Int} (h : ymB y m = true) : 1 ≤ y ∧ y ≤ 9999 ∧ 1 ≤ m ∧ m ≤ 12 := of_decide_eq_true h
theorem ymB_f {y m : Int} (h : ymB y m = false) : y < 1 ∨ 9999 < y ∨ m < 1 ∨ 12 < m := by have := of_decide_eq_false h; omega
def mdays (y m : Int) : Int := if ymB y m = true then Cal.dim y m else 0
theorem mdays_ok {y m : Int} (h1 : 1 ≤ y) (h2 : y ≤ 9999) (h3 : 1 ≤ m) (h4 : m ≤ 12) : mdays y m = Cal.dim y m := by
 unfold mdays ymB; rw [if_pos (decide_eq_true ⟨h1, h2, h3, h4⟩)]
theorem mdays_no {y m : Int} (h : ymB y m = false) : mdays y m = 0 := by unfold mdays; rw [h]; rfl
theorem mdays_bd (y m : Int) : 0 ≤ mdays y m ∧ mdays y m ≤ 31 := by
 have := Cal.dim_bd y m; unfold mdays; split <;> omega

set_option maxHeartbeats 400000 in
theorem impl_MonthDays_no (y m : Int) (w : World) (h : ymB y m = false) :
  Calls Tryz.prog 162 #[.int .i64 y, .int .i64 m] w fun e w' => e = .returned (.int .i64 0) ∧ w' = w := by
 have h' := ymB_f h
 clear h
 by_cases c1 : y < 1
 ·
  go_enter Tryz.func162, Tryz.ntmps162
  go_wp2
  go_ret
  exact ⟨rfl, rfl⟩
 by_cases c2 : 9999 < y
 ·
  go_enter Tryz.func162, Tryz.ntmps162
  go_wp2
  go_ret
  exact ⟨rfl, rfl⟩
 by_cases c3 : m < 1
 ·
  go_enter Tryz.func162, Tryz.ntmps162
  go_wp2
  go_ret
  exact ⟨rfl, rfl⟩
 have c4 : 12 < m := by omega
 clear h'
 go_enter Tryz.func162, Tryz.ntmps162
 go_wp2
 go_ret
 exact ⟨rfl, rfl⟩
theorem impl_MonthDays (y m : Int) (w : World) (hT : Tab w) :
  Calls Tryz.prog 162 #[.int .i64 y, .int .i64 m] w fun e w' => e = .returned (.int .i64 (mdays y m)) ∧ w' = w := by
 cases h : ymB y m
 ·
  rw [mdays_no h]; exact impl_MonthDays_no y m w h
 ·
  have ⟨a, b, c, d⟩ := ymB_t h
  rw [mdays_ok a b c d]; exact impl_MonthDays_ok y m w hT a b c d

set_option maxHeartbeats 400000 in
theorem spec_l01Month (y m : Int) (w : World) (h1 : 1 ≤ y) (h2 : y ≤ 9999) :
  Calls Tryz.prog 143 #[.int .i64 y, .int .i64 m] w fun e w' => e = .returned (.int .i64 (Cal.dim y m)) ∧ w' = w := by
 by_cases hm : m = 2
 ·
  subst hm
  cases hl : lpB y
  ·
   have e : Cal.dim y 2 = 28 := by have := lpB_f hl; simp [Cal.dim, this]
   rw [e]
   go_enter Tryz.func143, Tryz.ntmps143
   go_wp2_with (go_at_call 179; refine (spec_l01Leap _ _ (by omega) (by omega)).mono ?_; rintro e w' ⟨rfl, rfl⟩)
   go_ret
   exact ⟨rfl, rfl⟩
  ·
   have e : Cal.dim y 2 = 29 := by have := lpB_t hl; simp [Cal.dim, this]
   rw [e]
   go_enter Tryz.func143, Tryz.ntmps143
   go_wp2_with (go_at_call 179; refine (spec_l01Leap _ _ (by omega) (by omega)).mono ?_; rintro e w' ⟨rfl, rfl⟩)
   go_ret
   exact ⟨rfl, rfl⟩
 ·
  have hb : (m == 2) = false := by simpa using hm
  by_cases h30 : m = 4 ∨ m = 6 ∨ m = 9 ∨ m = 11
  ·
   have e : Cal.dim y m = 30 := by unfold Cal.dim; rw [if_neg hm, if_pos h30]
   rw [e]
   rcases h30 with h | h | h | h <;> subst h <;> clear hm hb e
   all_goals
    go_enter Tryz.func143, Tryz.ntmps143
    go_wp2
    go_ret
    exact ⟨rfl, rfl⟩
  ·
   have e : Cal.dim y m = 31 := by unfold Cal.dim; rw [if_neg hm, if_neg h30]
   rw [e]
   have b4 : (m == 4) = false := by simp; omega
   have b6 : (m == 6) = false := by simp; omega
   have b9 : (m == 9) = false := by simp; omega
   have b11 : (m == 11) = false := by simp; omega
   clear e h30 hm
   go_enter Tryz.func143, Tryz.ntmps143
   go_wp2
   go_ret
   exact ⟨rfl, rfl⟩

theorem Tab.of_below {w w' : World} (h : Tab w) (hb : Below w.heap.size w w') : Tab w' := fun i hi => by
 rw [hb.cell (p := ⟨3, i, none⟩) (World.block_lt_of_cell? _ _ (h i hi))]; exact h i hi
theorem Tab.alloc {w : World} (h : Tab w) (o : Obj) : Tab (w.alloc o) := h.of_below ((Below.refl _ _).alloc (Nat.le_refl _) o)
theorem Tab.drewN {w : World} (h : Tab w) (n : Nat) : Tab (w.drewN n) := h
set_option maxHeartbeats 400000 in
theorem spec_l01Year (y : Int) (w : World) :
  Calls Tryz.prog 96 #[.int .i64 y] w fun e w' => e = .returned (.bool (isB y 1 9999)) ∧ w' = w := by
 go_enter Tryz.func96, Tryz.ntmps96
 go_wp2_with (go_at_call 26; refine (spec_l01Is _ _ _ _).mono ?_; rintro e w' ⟨rfl, rfl⟩)
 go_ret
 exact ⟨rfl, rfl⟩
def vldB (y m d : Int) : Bool := decide (1 ≤ y ∧ y ≤ 9999 ∧ 1 ≤ m ∧ m ≤ 12 ∧ 1 ≤ d ∧ d ≤ Cal.dim y m)
theorem vld_t {y m d : Int} (h : vldB y m d = true) : 1 ≤ y ∧ y ≤ 9999 ∧ 1 ≤ m ∧ m ≤ 12 ∧ 1 ≤ d ∧ d ≤ Cal.dim y m := of_decide_eq_true h
theorem vld_f {y m d : Int} (h : vldB y m d = false) : ¬ (1 ≤ y ∧ y ≤ 9999 ∧ 1 ≤ m ∧ m ≤ 12 ∧ 1 ≤ d ∧ d ≤ Cal.dim y m) := of_decide_eq_false h
theorem vld_mk {y m d : Int} (h : 1 ≤ y ∧ y ≤ 9999 ∧ 1 ≤ m ∧ m ≤ 12 ∧ 1 ≤ d ∧ d ≤ Cal.dim y m) : vldB y m d = true := decide_eq_true h
theorem vld_no {y m d : Int} (h : ¬ (1 ≤ y ∧ y ≤ 9999 ∧ 1 ≤ m ∧ m ≤ 12 ∧ 1 ≤ d ∧ d ≤ Cal.dim y m)) : vldB y m d = false := decide_eq_false h
theorem vld_mdays {y m d : Int} (h1 : 1 ≤ d) : vldB y m d = decide (d ≤ mdays y m) := by
 cases h : ymB y m
 ·
  rw [mdays_no h]
  have := ymB_f h
  rw [vld_no (by omega)]
  symm; simp; omega
 ·
  have ⟨a, b, c, e⟩ := ymB_t h
  rw [mdays_ok a b c e]
  by_cases hd : d ≤ Cal.dim y m
  ·
   rw [vld_mk ⟨a, b, c, e, h1, hd⟩]; simp [hd]
  ·
   rw [vld_no (by omega)]; simp [hd]

set_option maxHeartbeats 400000 in
theorem impl_DateRight (y m d : Int) (w : World) (hT : Tab w) :
  Calls Tryz.prog 212 #[.agg #[.int .i64 y, .int .i64 m, .int .i64 d]] w fun e w' => e = .returned (.bool (vldB y m d)) ∧ Below w.heap.size w w' := by
 by_cases h : 1 ≤ d
 ·
  rw [vld_mdays h]
  have hM : ∀ o n, Calls Tryz.prog 162 #[.int .i64 y, .int .i64 m] ((w.alloc o).drewN n) fun e w' => e = .returned (.int .i64 (mdays y m)) ∧ w' = (w.alloc o).drewN n := fun o n => impl_MonthDays y m _ ((hT.alloc o).drewN n)
  have bd := mdays_bd y m
  generalize mdays y m = v at *
  clear hT
  go_enter Tryz.func212, Tryz.ntmps212
  go_wp2_with fail
  go_quiet ((go_at_call 162; exact Calls.quiet_of_same (hM _ _)))
  go_wp2
  go_ret
  exact ⟨rfl, below1 _ _ _⟩
 ·
  rw [vld_no (by omega)]
  have hd : decide (1 ≤ d) = false := by simpa using h
  clear hT
  go_enter Tryz.func212, Tryz.ntmps212
  go_wp2_with fail
  go_quiet (fail)
  go_wp2
  go_ret
  exact ⟨rfl, below1 _ _ _⟩

end Go.Proofs.YtcelbkmnbjcjhaaGreatDoor
namespace Go.Proofs.YtcelbkmnbjcjhaaGreatDoor
open Go.RowKit

def digB (c : Int) : Bool := decide (48 ≤ c ∧ c ≤ 57)
theorem digB_eq {c : Int} {b : Bool} (h : b = true ↔ (48 ≤ c ∧ c ≤ 57)) : b = digB c := by
 unfold digB; rw [Bool.eq_iff_iff]; simpa using h
def byteAt (s : ByteArray) (k : Nat) : Int := if h : k < s.size then (s[k].toNat : Int) else 0
theorem byteAt_eq (s : ByteArray) (k : Nat) (h : k < s.size) : (s[k].toNat : Int) = byteAt s k := by unfold byteAt; rw [dif_pos h]

set_option maxHeartbeats 400000 in
theorem impl_isDigit (c : Int) (w : World) :
  Calls Tryz.prog 161 #[.int .u8 c] w fun e w' => e = .returned (.bool (digB c)) ∧ w' = w := by
 go_enter Tryz.func161, Tryz.ntmps161
 go_wp2
 all_goals go_ret
 all_goals exact ⟨ret_bool (digB_eq (by simp; omega)), rfl⟩
set_option maxHeartbeats 400000 in
theorem spec_l01Digit (c : Int) (w : World) :
  Calls Tryz.prog 102 #[.int .u8 c] w fun e w' => e = .returned (.bool (digB c)) ∧ w' = w := by
 go_enter Tryz.func102, Tryz.ntmps102
 go_wp2
 all_goals go_ret
 all_goals exact ⟨ret_bool (digB_eq (by simp; omega)), rfl⟩
theorem upto_one {p : Nat → Prop} (h : p 0) : Hid (∀ j, j < 1 → p j) := fun j hj => by
 obtain rfl : j = 0 := by omega
 exact h
theorem upto_zero {p : Nat → Prop} : Hid (∀ j, j < 0 → p j) := fun j hj => by omega
theorem upto_succ {p : Nat → Prop} {k : Nat} (h : ∀ j, j < k → p j) (hk : p k) : Hid (∀ j, j < k + 1 → p j) := fun j hj => by
 by_cases e : j = k
 ·
  subst e; exact hk
 ·
  exact h j (by omega)
theorem digB_t {c : Int} (h : digB c = true) : 48 ≤ c ∧ c ≤ 57 := of_decide_eq_true h
def numAt (s : ByteArray) : Nat → Int
 | 0 => 0
 | k + 1 => 10 * numAt s k + (byteAt s k - 48)
def digs (s : ByteArray) : Bool := decide (1 ≤ s.size ∧ ∀ i, i < s.size → digB (byteAt s i) = true)
theorem digs_t {s : ByteArray} (h : digs s = true) : 1 ≤ s.size ∧ ∀ i, i < s.size → digB (byteAt s i) = true := of_decide_eq_true h
theorem digs_no0 {s : ByteArray} (h : s.size = 0) : digs s = false := decide_eq_false fun hn => by omega
theorem digs_no {s : ByteArray} {k : Nat} (hk : k < s.size) (h : digB (byteAt s k) = false) : digs s = false := decide_eq_false fun hn => by rw [hn.2 k hk] at h; cases h
theorem digs_yes {s : ByteArray} (h1 : 1 ≤ s.size) (h : ∀ i, i < s.size → digB (byteAt s i) = true) : digs s = true := decide_eq_true ⟨h1, h⟩
theorem numAt_bd {s : ByteArray} {k : Nat} (h : ∀ j, j < k → digB (byteAt s j) = true) : 0 ≤ numAt s k ∧ numAt s k + 1 ≤ 10 ^ k := by
 induction k with
 | zero => simp [numAt]
 | succ k ih =>
  have ⟨a, b⟩ := ih (fun j hj => h j (by omega))
  have ⟨c, d⟩ := digB_t (h k (by omega))
  simp only [numAt]
  have e : (10 : Int) ^ (k + 1) = 10 * 10 ^ k := by rw [Int.pow_succ]; omega
  rw [e]
  omega
theorem numAt_bd9 {s : ByteArray} {k : Nat} (hk : k ≤ 9) (h : ∀ j, j < k → digB (byteAt s j) = true) : 0 ≤ numAt s k ∧ numAt s k ≤ 999999999 := by
 have ⟨a, b⟩ := numAt_bd h
 have e : (10 : Int) ^ k ≤ 10 ^ 9 := by
  have := Nat.pow_le_pow_right (n := 10) (by omega) hk
  exact_mod_cast this
 omega
def drN (s : ByteArray) : Int := if digs s = true then numAt s s.size else 0
theorem drN_t {s : ByteArray} (h : digs s = true) : drN s = numAt s s.size := by unfold drN; rw [if_pos h]
theorem drN_f {s : ByteArray} (h : digs s = false) : drN s = 0 := by unfold drN; rw [h]; rfl
theorem ret_pair {a b : Int} {c d : Bool} (h1 : a = b) (h2 : c = d) : Ending.returned (.tuple #[.int .i64 a, .bool c]) = .returned (.tuple #[.int .i64 b, .bool d]) := by rw [h1, h2]

set_option maxHeartbeats 1000000 in
theorem impl_digitsRead (s : ByteArray) (w : World) (hs : s.size ≤ 9) :
  Calls Tryz.prog 211 #[.string s] w fun e w' => e = .returned (.tuple #[.int .i64 (drN s), .bool (digs s)]) ∧ w' = w := by
 by_cases h0 : s.size = 0
 ·
  have h := digs_no0 h0
  rw [drN_f h, h]
  have hs0 : s = ⟨#[]⟩ := by
   apply ByteArray.ext
   have : s.data.size = 0 := h0
   exact Array.eq_empty_of_size_eq_zero this
  subst hs0
  go_enter Tryz.func211, Tryz.ntmps211
  go_wp2
  go_ret2
  exact ⟨rfl, rfl⟩
 ·
  have hne : s.toList.isEmpty = false := by
   rw [ByteArray.toList_eq]
   cases hl : s.data.toList with
   | nil => exact absurd (by have := congrArg List.length hl; simpa using this) h0
   | cons _ _ => rfl
  go_enter Tryz.func211, Tryz.ntmps211
  go_wp2
  go_loop [4, 5] (fun x i => ∃ k : Nat, k ≤ s.size ∧ i = .int .i64 k ∧ x = .int .i64 (numAt s k) ∧ Hid (∀ j, j < k → digB (byteAt s j) = true)) (fun _ i => s.size - (intOf i).toNat)
  case atStart => exact ⟨0, by omega, rfl, rfl, upto_zero⟩
  case round =>
   obtain ⟨k, hk, rfl, rfl, hall⟩ := hrel
   by_cases hlt : k < s.size
   ·
    have hB := fun w => impl_isDigit (byteAt s k) w
    have nb := numAt_bd9 (s := s) (k := k) (by omega) hall.out
    have e := byteAt_eq s k hlt
    cases hb : digB (byteAt s k)
    ·
     have HB : Hid (digs s = false) := digs_no hlt hb
     rw [hb, ← e] at hB
     clear hb e
     go_wp2_with (go_at_call 161; refine (hB _).mono ?_; rintro e w' ⟨rfl, rfl⟩)
     go_ret2
     exact ⟨ret_pair (drN_f HB.out).symm HB.out.symm, rfl⟩
    ·
     have HB : Hid (digB (byteAt s k) = true) := hb
     have ⟨b1, b2⟩ := digB_t hb
     have HN : Hid (numAt s (k + 1) = 10 * numAt s k + ((s[k].toNat : Int) - 48)) := by simp only [Hid, numAt]; rw [e]
     rw [hb, ← e] at hB
     rw [← e] at b1 b2
     clear hb e
     go_wp2_with (go_at_call 161; refine (hB _).mono ?_; rintro e w' ⟨rfl, rfl⟩)
     go_round
     case rel => exact ⟨k + 1, by omega, by go_num, by rw [HN.out]; congr 1; omega, upto_succ hall.out HB.out⟩
     case measure => simp [intOf]; omega
   ·
    have e : k = s.size := by omega
    subst e
    have HB : Hid (digs s = true) := digs_yes (by omega) hall.out
    go_wp2
    go_ret2
    exact ⟨ret_pair (drN_t HB.out).symm HB.out.symm, rfl⟩

def ldN (s : ByteArray) : Int := if digs s = true then numAt s s.size else -1
theorem ldN_t {s : ByteArray} (h : digs s = true) : ldN s = numAt s s.size := by unfold ldN; rw [if_pos h]
theorem ldN_f {s : ByteArray} (h : digs s = false) : ldN s = -1 := by unfold ldN; rw [h]; rfl
set_option maxHeartbeats 1000000 in
theorem spec_l01Digits (s : ByteArray) (w : World) (hs : s.size ≤ 9) :
  Calls Tryz.prog 192 #[.string s] w fun e w' => e = .returned (.int .i64 (ldN s)) ∧ w' = w := by
 by_cases h0 : s.size < 1
 ·
  have h := digs_no0 (s := s) (by omega)
  rw [ldN_f h]
  go_enter Tryz.func192, Tryz.ntmps192
  go_wp2
  go_ret
  exact ⟨rfl, rfl⟩
 ·
  go_enter Tryz.func192, Tryz.ntmps192
  go_wp2
  go_loop [3, 4] (fun x i => ∃ k : Nat, k ≤ s.size ∧ i = .int .i64 k ∧ x = .int .i64 (numAt s k) ∧ Hid (∀ j, j < k → digB (byteAt s j) = true)) (fun _ i => s.size - (intOf i).toNat)
  case atStart => exact ⟨0, by omega, rfl, rfl, upto_zero⟩
  case round =>
   obtain ⟨k, hk, rfl, rfl, hall⟩ := hrel
   by_cases hlt : k < s.size
   ·
    have hB := fun w => spec_l01Digit (byteAt s k) w
    have nb := numAt_bd9 (s := s) (k := k) (by omega) hall.out
    have e := byteAt_eq s k hlt
    cases hb : digB (byteAt s k)
    ·
     have HB : Hid (digs s = false) := digs_no hlt hb
     rw [hb, ← e] at hB
     clear hb e
     go_wp2_with (go_at_call 102; refine (hB _).mono ?_; rintro e w' ⟨rfl, rfl⟩)
     go_ret
     exact ⟨ret_int (ldN_f HB.out).symm, rfl⟩
    ·
     have HB : Hid (digB (byteAt s k) = true) := hb
     have ⟨b1, b2⟩ := digB_t hb
     have HN : Hid (numAt s (k + 1) = 10 * numAt s k + ((s[k].toNat : Int) - 48)) := by simp only [Hid, numAt]; rw [e]
     rw [hb, ← e] at hB
     rw [← e] at b1 b2
     clear hb e
     go_wp2_with (go_at_call 102; refine (hB _).mono ?_; rintro e w' ⟨rfl, rfl⟩)
     go_round
     case rel => exact ⟨k + 1, by omega, by go_num, by rw [HN.out], upto_succ hall.out HB.out⟩
     case measure => simp [intOf]; omega
   ·
    have e : k = s.size := by omega
    subst e
    have HB : Hid (digs s = true) := digs_yes (by omega) hall.out
    go_wp2
    go_ret
    exact ⟨ret_int (ldN_t HB.out).symm, rfl⟩
end Go.Proofs.YtcelbkmnbjcjhaaGreatDoor
namespace Go.Proofs.YtcelbkmnbjcjhaaGreatDoor
open Go.RowKit

def wdv (n : Int) : Int := if isB n (-719162) 2932896 = true then (n + 719163) % 7 else -1
theorem wdv_ok {n : Int} (h1 : -719162 ≤ n) (h2 : n ≤ 2932896) : wdv n = (n + 719163) % 7 := by unfold wdv; rw [if_pos (isB_t h1 h2)]
theorem wdv_no {n : Int} (h : ¬ (-719162 ≤ n ∧ n ≤ 2932896)) : wdv n = -1 := by unfold wdv; rw [isB_f h]; rfl

set_option maxHeartbeats 400000 in
theorem impl_Weekday (n : Int) (w : World) :
  Calls Tryz.prog 214 #[.int .i64 n] w fun e w' => e = .returned (.int .i64 (wdv n)) ∧ w' = w := by
 by_cases h1 : n < -719162
 ·
  rw [wdv_no (by omega)]
  go_enter Tryz.func214, Tryz.ntmps214
  go_wp2
  go_ret
  exact ⟨rfl, rfl⟩
 by_cases h2 : 2932896 < n
 ·
  rw [wdv_no (by omega)]
  go_enter Tryz.func214, Tryz.ntmps214
  go_wp2
  go_ret
  exact ⟨rfl, rfl⟩
 ·
  rw [wdv_ok (by omega) (by omega)]
  go_enter Tryz.func214, Tryz.ntmps214
  go_wp2
  go_ret
  exact ⟨ret_int (by omega), rfl⟩
set_option maxHeartbeats 400000 in
theorem spec_l01Weekday (n : Int) (w : World) (h1 : -800000 ≤ n) (h2 : n ≤ 3000000) :
  Calls Tryz.prog 146 #[.int .i64 n] w fun e w' => e = .returned (.int .i64 ((n + 719163) % 7)) ∧ w' = w := by
 go_enter Tryz.func146, Tryz.ntmps146
 go_wp2
 go_ret
 exact ⟨ret_int (by omega), rfl⟩
end Go.Proofs.YtcelbkmnbjcjhaaGreatDoor
namespace Go.Proofs.YtcelbkmnbjcjhaaGreatDoor
open Go.RowKit

set_option maxHeartbeats 400000 in
theorem impl_dby (y : Int) (w : World) (h1 : 1 ≤ y) (h2 : y ≤ 10001) :
  Calls Tryz.prog 216 #[.int .i64 y] w fun e w' => e = .returned (.int .i64 (Cal.dby y)) ∧ w' = w := by
 unfold Cal.dby
 go_enter Tryz.func216, Tryz.ntmps216
 go_wp2
 go_ret
 exact ⟨ret_int (by omega), rfl⟩
set_option maxHeartbeats 400000 in
theorem spec_dby (y : Int) (w : World) (h1 : 1 ≤ y) (h2 : y ≤ 10001) :
  Calls Tryz.prog 180 #[.int .i64 y] w fun e w' => e = .returned (.int .i64 (Cal.dby y)) ∧ w' = w := by
 unfold Cal.dby
 go_enter Tryz.func180, Tryz.ntmps180
 go_wp2
 go_ret
 exact ⟨ret_int (by omega), rfl⟩
def num (y m d : Int) : Int := Cal.dby y - 719162 + Cal.cum y m + d - 1
set_option maxHeartbeats 1000000 in
theorem impl_DaysOf_ok (y m d : Int) (w : World) (hT : Tab w) (hv : vldB y m d = true) :
  Calls Tryz.prog 199 #[.agg #[.int .i64 y, .int .i64 m, .int .i64 d]] w fun e w' => e = .returned (.int .i64 (num y m d)) ∧ Below w.heap.size w w' := by
 have ⟨y1, y2, m1, m2, d1, d2⟩ := vld_t hv
 have hR := fun w (h : Tab w) => impl_DateRight y m d w h
 rw [hv] at hR
 have db := Cal.dby_bd y y1 (by omega)
 have dm := Cal.dim_bd y m
 clear hv
 go_enter Tryz.func199, Tryz.ntmps199
 go_wp2_with fail
 refine (hR _ (hT.alloc _)).mono ?_
 rintro e w1 ⟨rfl, hb⟩
 obtain ⟨hc, hf⟩ := bcell hb
 have hz : w.heap.size + 1 ≤ w1.heap.size := by have := hb.size; simpa using this
 have hT1 : Tab w1 := (hT.alloc _).of_below hb
 have hB : Below w.heap.size w w1 := ((Below.refl _ _).alloc (Nat.le_refl _) _).trans (hb.mono (by simp))
 clear hR hb hT
 go_wp2_with (go_at_call 216; refine (impl_dby _ _ y1 (by omega)).mono ?_; rintro e w' ⟨rfl, rfl⟩)
 go_loop [3, 4] (fun t k => ∃ j : Int, 1 ≤ j ∧ j ≤ m ∧ k = .int .i64 j ∧ t = .int .i64 (Cal.dby y - 719162 + Cal.cum y j)) (fun _ k => (m - intOf k).toNat)
 case atStart => exact ⟨1, by omega, by omega, rfl, by rw [Cal.cum_one]; go_num⟩
 case round =>
  obtain ⟨j, j1, j2, rfl, rfl⟩ := hrel
  have cb := Cal.cum_bd y j
  have cs := Cal.cum_succ y j j1 (by omega)
  have dj := Cal.dim_bd y j
  have CS : Hid (Cal.cum y (j + 1) = Cal.cum y j + Cal.dim y j) := cs
  clear cs
  by_cases hlt : j < m
  ·
   go_wp2_with (go_at_call 162; refine (impl_MonthDays_ok _ _ _ hT1 y1 y2 j1 (by omega)).mono ?_; rintro e w' ⟨rfl, rfl⟩)
   go_round
   case rel => exact ⟨j + 1, by omega, by omega, rfl, by rw [CS.out]; go_num⟩
   case measure => simp [intOf]; omega
  ·
   have e : j = m := by omega
   subst e
   go_wp2
   go_ret
   exact ⟨ret_int (by unfold num; omega), hB⟩
set_option maxHeartbeats 1000000 in
theorem spec_l01Days (y m d : Int) (w : World) (y1 : 1 ≤ y) (y2 : y ≤ 9999) (m1 : 1 ≤ m) (m2 : m ≤ 12) (d1 : 0 ≤ d) (d2 : d ≤ 1000) :
  Calls Tryz.prog 144 #[.agg #[.int .i64 y, .int .i64 m, .int .i64 d]] w fun e w' => e = .returned (.int .i64 (num y m d)) ∧ Below w.heap.size w w' := by
 have db := Cal.dby_bd y y1 (by omega)
 go_enter Tryz.func144, Tryz.ntmps144
 go_wp2_with (go_at_call 180; refine (spec_dby _ _ y1 (by omega)).mono ?_; rintro e w' ⟨rfl, rfl⟩)
 go_loop [3, 4] (fun t k => ∃ j : Int, 1 ≤ j ∧ j ≤ m ∧ k = .int .i64 j ∧ t = .int .i64 (Cal.dby y - 719162 + Cal.cum y j)) (fun _ k => (m - intOf k).toNat)
 case atStart => exact ⟨1, by omega, by omega, rfl, by rw [Cal.cum_one]; go_num⟩
 case round =>
  obtain ⟨j, j1, j2, rfl, rfl⟩ := hrel
  have cb := Cal.cum_bd y j
  have cs := Cal.cum_succ y j j1 (by omega)
  have dj := Cal.dim_bd y j
  have CS : Hid (Cal.cum y (j + 1) = Cal.cum y j + Cal.dim y j) := cs
  clear cs
  by_cases hlt : j < m
  ·
   go_wp2_with (go_at_call 143; refine (spec_l01Month _ _ _ y1 y2).mono ?_; rintro e w' ⟨rfl, rfl⟩)
   go_round
   case rel => exact ⟨j + 1, by omega, by omega, rfl, by rw [CS.out]; go_num⟩
   case measure => simp [intOf]; omega
  ·
   have e : j = m := by omega
   subst e
   go_wp2
   go_ret
   exact ⟨ret_int (by unfold num; omega), (Below.refl _ _).alloc (Nat.le_refl _) _⟩
end Go.Proofs.YtcelbkmnbjcjhaaGreatDoor
namespace Go.Proofs.YtcelbkmnbjcjhaaGreatDoor
open Go.RowKit

end Go.Proofs.YtcelbkmnbjcjhaaGreatDoor
namespace Go.Proofs.YtcelbkmnbjcjhaaGreatDoor

theorem num_bd {x y z : Int} (h : vldB x y z = true) : -719162 ≤ num x y z ∧ num x y z ≤ 2932896 := by
 have ⟨a, b, c, d, e, f⟩ := vld_t h
 have h1 := Cal.dby_bd x a (by omega)
 have h2 := Cal.cum_bd x y
 have h3 := Cal.cum_succ x y c d
 have h4 := Cal.cum_mono (y := x) (a := y + 1) (b := 13) (by omega) (by omega) (by omega)
 have h5 := Cal.cum_13 x
 have h6 := Cal.dby_succ x a
 have h7 := Cal.dby_mono (a := x + 1) (b := 10000) (by omega) (by omega)
 have h8 := Cal.dby_10000
 unfold num
 omega
end Go.Proofs.YtcelbkmnbjcjhaaGreatDoor
namespace Go.Proofs.YtcelbkmnbjcjhaaGreatDoor

abbrev S (l : List UInt8) : ByteArray := ⟨l.toArray⟩
theorem S_append (a b : List UInt8) : S a ++ S b = S (a ++ b) := by
 apply ByteArray.ext
 simp [S]
theorem S_size (l : List UInt8) : (S l).size = l.length := by simp [ByteArray.size]
theorem byteAt_ex {s : ByteArray} {a b i : Nat} (hb : b ≤ s.size) (hi : i < b - a) : byteAt (s.extract a b) i = byteAt s (a + i) := by
 have h1 : i < (s.extract a b).size := by rw [ByteArray.size_extract]; omega
 have h2 : a + i < s.size := by omega
 rw [← byteAt_eq _ _ h1, ← byteAt_eq _ _ h2, ByteArray.getElem_extract]
theorem byteAt_S {l : List UInt8} {i : Nat} {c : UInt8} (h : l[i]? = some c) : byteAt (S l) i = (c.toNat : Int) := by
 obtain ⟨hi, hc⟩ := List.getElem?_eq_some_iff.mp h
 have h1 : i < (S l).size := by rw [S_size]; exact hi
 rw [← byteAt_eq _ _ h1]
 subst hc
 rfl
theorem bytes_ext {s t : ByteArray} (hz : s.size = t.size) (h : ∀ i, i < s.size → byteAt s i = byteAt t i) : s = t := by
 apply ByteArray.ext_getElem hz
 intro i h1 h2
 have := h i h1
 rw [← byteAt_eq _ _ h1, ← byteAt_eq _ _ h2] at this
 apply UInt8.toNat_inj.mp
 omega
end Go.Proofs.YtcelbkmnbjcjhaaGreatDoor
