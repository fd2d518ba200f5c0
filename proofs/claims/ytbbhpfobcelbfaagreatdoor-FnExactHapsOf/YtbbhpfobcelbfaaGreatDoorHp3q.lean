/- What happens by the rules of a name, in wall times: the model's l03Walls. -/
import Derived.Test.YtbbhpfobcelbfaaGreatDoorHp2q
import Derived.Test.YtbbhpfobcelbfaaGreatDoorOnPq
import Derived.Test.YtbbhpfobcelbfaaGreatDoorRightWq
namespace Go.Proofs.YtbbhpfobcelbfaaGreatDoor
open Go.RowKit

/-- a rule in a year. -/
def wallsY (i : Nat) (x : RuleD) (y : Int) : List WallD := if moV y x.month x.on = -1000000 then [] else [⟨86400 * moV y x.month x.on + x.at_, i⟩]
def wallsN (i : Nat) (x : RuleD) (y : Int) : Nat → List WallD
  | 0 => []
  | n + 1 => wallsN i x y n ++ wallsY i x (y + n)
def yrs (x : RuleD) : Nat := (min x.hi 2037 - max x.lo 1960 + 1).toNat
def wallsX (i : Nat) (x : RuleD) : List WallD := wallsN i x (max x.lo 1960) (yrs x)
/-- of the first k rules those of a name. -/
def wallsT (nm : ByteArray) (l : List RuleD) : Nat → List WallD
  | 0 => []
  | k + 1 => wallsT nm l k ++ (match l[k]? with | some x => if (x.name.toList == nm.toList) = true then wallsX k x else [] | none => [])
theorem wallsY_no {i : Nat} {x : RuleD} {y : Int} (h : moV y x.month x.on = -1000000) : wallsY i x y = [] := by unfold wallsY; rw [if_pos h]
theorem wallsY_yes {i : Nat} {x : RuleD} {y : Int} (h : moV y x.month x.on ≠ -1000000) : wallsY i x y = [⟨86400 * moV y x.month x.on + x.at_, i⟩] := by unfold wallsY; rw [if_neg h]
theorem wallsT_yes {nm : ByteArray} {l : List RuleD} {k : Nat} {x : RuleD} (hx : l[k]? = some x) (h : (x.name.toList == nm.toList) = true) : wallsT nm l (k + 1) = wallsT nm l k ++ wallsX k x := by rw [wallsT, hx]; simp only [h, if_true]
theorem wallsT_no {nm : ByteArray} {l : List RuleD} {k : Nat} {x : RuleD} (hx : l[k]? = some x) (h : (x.name.toList == nm.toList) = false) : wallsT nm l (k + 1) = wallsT nm l k := by rw [wallsT, hx]; simp [h]
theorem wallsN_len (i : Nat) (x : RuleD) (y : Int) : ∀ n, (wallsN i x y n).length ≤ n := by
  intro n
  induction n with
  | zero => simp [wallsN]
  | succ n ih =>
    rw [wallsN, List.length_append]
    have : (wallsY i x (y + n)).length ≤ 1 := by unfold wallsY; split <;> simp
    omega
theorem yrs_le (x : RuleD) : yrs x ≤ 78 := by unfold yrs; omega
theorem wallsT_len (nm : ByteArray) (l : List RuleD) : ∀ k, (wallsT nm l k).length ≤ 78 * k := by
  intro k
  induction k with
  | zero => simp [wallsT]
  | succ k ih =>
    rw [wallsT, List.length_append]
    have h78 : ∀ x, (wallsX k x).length ≤ 78 := fun x => Nat.le_trans (wallsN_len _ _ _ _) (yrs_le x)
    split
    · rename_i x _
      split
      · have := h78 x; omega
      · simp; omega
    · simp; omega
structure RuleR (x : RuleD) : Prop where
  month : 1 ≤ x.month ∧ x.month ≤ 12
  at_ : 0 ≤ x.at_ ∧ x.at_ ≤ 604800
  save : -7200 ≤ x.save ∧ x.save ≤ 7200
theorem rule_r {x : RuleD} (h : ruleB x = true) : RuleR x := by
  unfold ruleB at h
  simp only [Bool.and_eq_true] at h
  obtain ⟨_, _, _, hm, _, ha, _, hs, _⟩ := h
  exact ⟨isB_of_t hm, isB_of_t ha, isB_of_t hs⟩
theorem mo_bd {y m : Int} {s : ByteArray} (hy : ymB y m = true) : moV y m s = -1000000 ∨ (-800000 ≤ moV y m s ∧ moV y m s ≤ 3000000) := by
  have := told_bd (y := y) (m := m) (s := s)
  unfold toldV at this
  rw [hy, if_pos rfl, on_same hy] at this
  exact this
theorem ym_ok {y m : Int} (h1 : 1960 ≤ y) (h2 : y ≤ 2037) (h3 : 1 ≤ m) (h4 : m ≤ 12) : ymB y m = true := by
  unfold ymB
  simp
  omega
set_option maxHeartbeats 400000 in
theorem spec_l01MaxR (a b : Int) (w : World) : Calls Tryz.prog 145 #[.int .i64 a, .int .i64 b] w fun e w' => e = .returned (.int .i64 (max a b)) ∧ w' = w := by
  by_cases h : b < a
  · go_enter Tryz.func145, Tryz.ntmps145
    go_wp2
    go_ret
    exact ⟨ret_int (by omega), rfl⟩
  · go_enter Tryz.func145, Tryz.ntmps145
    go_wp2
    go_ret
    exact ⟨ret_int (by omega), rfl⟩
set_option maxHeartbeats 400000 in
theorem spec_l01MinR (a b : Int) (w : World) : Calls Tryz.prog 146 #[.int .i64 a, .int .i64 b] w fun e w' => e = .returned (.int .i64 (min a b)) ∧ w' = w := by
  by_cases h : a < b
  · go_enter Tryz.func146, Tryz.ntmps146
    go_wp2
    go_ret
    exact ⟨ret_int (by omega), rfl⟩
  · go_enter Tryz.func146, Tryz.ntmps146
    go_wp2
    go_ret
    exact ⟨ret_int (by omega), rfl⟩
/-- what is told of the rules of a name. -/
def WallsR (r : RelD) (nm : ByteArray) (s : List WallD) (b : Bool) : Prop := ((wallsT nm r.rules r.rules.length).length ≤ 2000 ∧ b = true ∧ SrtOf (wallsT nm r.rules r.rules.length) s) ∨ (¬ (wallsT nm r.rules r.rules.length).length ≤ 2000 ∧ b = false ∧ s = [])
end Go.Proofs.YtbbhpfobcelbfaaGreatDoor
