/- What is asked of a rule: the program's and the model's. -/
import Derived.Test.YtjdokmllidhapaaGreatDoorRight1
import Derived.Test.YtjdokmllidhapaaGreatDoorOn9
import Derived.Test.YtjdokmllidhapaaGreatDoorRel1
namespace Go.Proofs.YtjdokmllidhapaaGreatDoor
open Go.RowKit

def EnvZ (w : World) : Prop := Tab w ∧ Mx w
theorem EnvZ.of_below {w w' : World} (h : EnvZ w) (hb : Below w.heap.size w w') : EnvZ w' := ⟨h.1.of_below hb, h.2.of_below hb⟩
theorem EnvZ.alloc {w : World} (h : EnvZ w) (o : Obj) : EnvZ (w.alloc o) := ⟨h.1.alloc o, h.2.alloc o⟩
/-- does the text tell a day of a month of 31 days. -/
def onB (s : ByteArray) : Bool := toldV 2000 1 s != -1000000
set_option maxHeartbeats 400000 in
theorem impl_onRight (s : ByteArray) (w : World) (hE : EnvZ w) (hz : s.size ≤ 1048576) :
    Calls Tryz.prog 135 #[.string s] w fun e w' => e = .returned (.bool (onB s)) ∧ Below w.heap.size w w' := by
  have hX := fun w (h : EnvZ w) => impl_told 2000 1 s w h.1 h.2 hz
  unfold onB
  generalize toldV 2000 1 s = r at *
  go_enter Tryz.func135, Tryz.ntmps135
  go_wp2_with fail
  refine (hX _ hE).mono ?_
  rintro e w1 ⟨rfl, hb⟩
  go_wp2
  go_ret
  exact ⟨rfl, hb⟩
set_option maxHeartbeats 400000 in
theorem spec_l02OnRight (s : ByteArray) (w : World) (hz : s.size ≤ 1048576) :
    Calls Tryz.prog 124 #[.string s] w fun e w' => e = .returned (.bool (onB s)) ∧ Below w.heap.size w w' := by
  have hy : ymB 2000 1 = true := by decide
  have hX := fun w => spec_l01On 2000 1 s w hy hz
  have e : toldV 2000 1 s = moV 2000 1 s := by unfold toldV; rw [hy, if_pos rfl, on_same hy]
  unfold onB
  rw [e]
  clear e
  generalize moV 2000 1 s = r at *
  go_enter Tryz.func124, Tryz.ntmps124
  go_wp2_with fail
  refine (hX _).mono ?_
  rintro e w1 ⟨rfl, hb⟩
  go_wp2
  go_ret
  exact ⟨rfl, hb⟩
/-- is a rule right. -/
def ruleB (r : RuleD) : Bool := nameB r.name && (isB r.lo 1 9999 && (isB r.hi r.lo 9999 && (isB r.month 1 12 && (onB r.on && (isB r.at_ 0 604800 && (ofB r.of && (isB r.save (-7200) 7200 && ltB r.letter)))))))
def ruleP (r : RuleD) : Bool := nameB r.name && (isB r.lo 1 9999 && (isB r.hi 1 9999 && (decide (r.lo ≤ r.hi) && (decide (1 ≤ r.month) && (decide (r.month ≤ 12) && (onB r.on && (decide (0 ≤ r.at_) && (decide (r.at_ ≤ 604800) && (ofB r.of && (isB r.save (-7200) 7200 && ltB r.letter))))))))))
theorem rule_same (r : RuleD) : ruleP r = ruleB r := by
  unfold ruleP ruleB
  have e1 : isB r.month 1 12 = (decide (1 ≤ r.month) && decide (r.month ≤ 12)) := by unfold isB; simp
  have e2 : isB r.at_ 0 604800 = (decide (0 ≤ r.at_) && decide (r.at_ ≤ 604800)) := by unfold isB; simp
  have e3 : (isB r.lo 1 9999 && (isB r.hi 1 9999 && decide (r.lo ≤ r.hi))) = (isB r.lo 1 9999 && isB r.hi r.lo 9999) := by
    rw [Bool.eq_iff_iff]; unfold isB; simp; omega
  rw [e1, e2]
  have e4 : ∀ x, (isB r.lo 1 9999 && (isB r.hi 1 9999 && (decide (r.lo ≤ r.hi) && x))) = (isB r.lo 1 9999 && (isB r.hi r.lo 9999 && x)) := fun x => by
    rw [← Bool.and_assoc (isB r.hi 1 9999), ← Bool.and_assoc (isB r.lo 1 9999), e3, Bool.and_assoc]
  rw [e4]
  simp only [Bool.and_assoc]
set_option maxHeartbeats 2000000 in
theorem impl_ruleRightP (r : RuleD) (w : World) (hE : EnvZ w) (ok : r.ok) (hz : r.on.size ≤ 1048576) :
    Calls Tryz.prog 70 #[r.v] w fun e w' => e = .returned (.bool (ruleP r)) ∧ Below w.heap.size w w' := by
  obtain ⟨name, lo, hi, month, on, at_, of, save, letter⟩ := r
  obtain ⟨k1, k2, k3, k4⟩ := ok
  simp only [RuleD.v, ruleP] at *
  have h1 := fun w => impl_NameRight name w k1
  have h2 := fun w => impl_yearRight lo w
  have h3 := fun w => impl_yearRight hi w
  have h4 := fun w (h : EnvZ w) => impl_onRight on w h hz
  have h5 := fun w => impl_ofRight of w
  have h6 := fun w => impl_saveRight save w
  have h7 := fun w => impl_letterRight letter w k4
  generalize nameB name = b1 at *
  generalize isB lo 1 9999 = b2 at *
  generalize isB hi 1 9999 = b3 at *
  generalize onB on = b4 at *
  generalize ofB of = b5 at *
  generalize isB save (-7200) 7200 = b6 at *
  generalize ltB letter = b7 at *
  have hB0 := fun o => (Below.refl w.heap.size w).alloc (Nat.le_refl _) o
  go_enter Tryz.func70, Tryz.ntmps70
  go_wp2_with fail
  refine (h1 _).mono ?_
  rintro e w9 ⟨rfl, rfl⟩
  cases b1
  case false =>
    go_wp2
    go_ret
    exact ⟨ret_bool (by simp), (hB0 _)⟩
  go_wp2_with fail
  refine (h2 _).mono ?_
  rintro e w9 ⟨rfl, rfl⟩
  cases b2
  case false =>
    go_wp2
    go_ret
    exact ⟨ret_bool (by simp), (hB0 _)⟩
  go_wp2_with fail
  refine (h3 _).mono ?_
  rintro e w9 ⟨rfl, rfl⟩
  cases b3
  case false =>
    go_wp2
    go_ret
    exact ⟨ret_bool (by simp), (hB0 _)⟩
  by_cases g1 : lo ≤ hi
  case neg =>
    go_wp2
    go_ret
    exact ⟨ret_bool (by simp; intros; omega), (hB0 _)⟩
  by_cases g2 : 1 ≤ month
  case neg =>
    go_wp2
    go_ret
    exact ⟨ret_bool (by simp; intros; omega), (hB0 _)⟩
  by_cases g3 : month ≤ 12
  case neg =>
    go_wp2
    go_ret
    exact ⟨ret_bool (by simp; intros; omega), (hB0 _)⟩
  go_wp2_with fail
  refine (h4 _ (hE.alloc _)).mono ?_
  rintro e w1 ⟨rfl, hb1⟩
  obtain ⟨hc, _⟩ := bcell hb1
  have hlt : w.heap.size < w1.heap.size := by have := hb1.size; simp at this; omega
  have hB1 := (hB0 _).trans (hb1.mono (by simp))
  cases b4
  case false =>
    go_wp2
    go_ret
    exact ⟨ret_bool (by simp), hB1⟩
  by_cases g4 : 0 ≤ at_
  case neg =>
    go_wp2
    go_ret
    exact ⟨ret_bool (by simp; intros; omega), hB1⟩
  by_cases g5 : at_ ≤ 604800
  case neg =>
    go_wp2
    go_ret
    exact ⟨ret_bool (by simp; intros; omega), hB1⟩
  go_wp2_with fail
  refine (h5 _).mono ?_
  rintro e w9 ⟨rfl, rfl⟩
  cases b5
  case false =>
    go_wp2
    go_ret
    exact ⟨ret_bool (by simp), hB1⟩
  go_wp2_with fail
  refine (h6 _).mono ?_
  rintro e w9 ⟨rfl, rfl⟩
  cases b6
  case false =>
    go_wp2
    go_ret
    exact ⟨ret_bool (by simp), hB1⟩
  go_wp2_with fail
  refine (h7 _).mono ?_
  rintro e w9 ⟨rfl, rfl⟩
  go_wp2
  go_ret
  exact ⟨ret_bool (by simp [*]), hB1⟩
set_option maxHeartbeats 2000000 in
theorem spec_l02Rule (r : RuleD) (w : World) (ok : r.ok) (hz : r.on.size ≤ 1048576) :
    Calls Tryz.prog 62 #[r.v] w fun e w' => e = .returned (.bool (ruleB r)) ∧ Below w.heap.size w w' := by
  obtain ⟨name, lo, hi, month, on, at_, of, save, letter⟩ := r
  obtain ⟨k1, k2, k3, k4⟩ := ok
  simp only [RuleD.v, ruleB] at *
  have h1 := fun w => spec_NameRight name w k1
  have h2 := fun w => spec_l01Year lo w
  have h3 := fun w => spec_l01Is hi lo 9999 w
  have h8 := fun w => spec_l01Is month 1 12 w
  have h4 := fun w => spec_l02OnRight on w hz
  have h9 := fun w => spec_l01Is at_ 0 604800 w
  have h5 := fun w => spec_l02Of of w
  have h6 := fun w => spec_l02Save save w
  have h7 := fun w => spec_l02Letter letter w k4
  generalize nameB name = b1 at *
  generalize isB lo 1 9999 = b2 at *
  generalize isB hi lo 9999 = b3 at *
  generalize isB month 1 12 = b8 at *
  generalize onB on = b4 at *
  generalize isB at_ 0 604800 = b9 at *
  generalize ofB of = b5 at *
  generalize isB save (-7200) 7200 = b6 at *
  generalize ltB letter = b7 at *
  have hB0 := fun o => (Below.refl w.heap.size w).alloc (Nat.le_refl _) o
  go_enter Tryz.func62, Tryz.ntmps62
  go_wp2_with fail
  refine (h1 _).mono ?_
  rintro e w9 ⟨rfl, rfl⟩
  cases b1
  case false =>
    go_wp2
    go_ret
    exact ⟨ret_bool (by simp), (hB0 _)⟩
  go_wp2_with fail
  refine (h2 _).mono ?_
  rintro e w9 ⟨rfl, rfl⟩
  cases b2
  case false =>
    go_wp2
    go_ret
    exact ⟨ret_bool (by simp), (hB0 _)⟩
  go_wp2_with fail
  refine (h3 _).mono ?_
  rintro e w9 ⟨rfl, rfl⟩
  cases b3
  case false =>
    go_wp2
    go_ret
    exact ⟨ret_bool (by simp), (hB0 _)⟩
  go_wp2_with fail
  refine (h8 _).mono ?_
  rintro e w9 ⟨rfl, rfl⟩
  cases b8
  case false =>
    go_wp2
    go_ret
    exact ⟨ret_bool (by simp), (hB0 _)⟩
  go_wp2_with fail
  refine (h4 _).mono ?_
  rintro e w1 ⟨rfl, hb1⟩
  obtain ⟨hc, _⟩ := bcell hb1
  have hlt : w.heap.size < w1.heap.size := by have := hb1.size; simp at this; omega
  have hB1 := (hB0 _).trans (hb1.mono (by simp))
  cases b4
  case false =>
    go_wp2
    go_ret
    exact ⟨ret_bool (by simp), hB1⟩
  go_wp2_with fail
  refine (h9 _).mono ?_
  rintro e w9 ⟨rfl, rfl⟩
  cases b9
  case false =>
    go_wp2
    go_ret
    exact ⟨ret_bool (by simp), hB1⟩
  go_wp2_with fail
  refine (h5 _).mono ?_
  rintro e w9 ⟨rfl, rfl⟩
  cases b5
  case false =>
    go_wp2
    go_ret
    exact ⟨ret_bool (by simp), hB1⟩
  go_wp2_with fail
  refine (h6 _).mono ?_
  rintro e w9 ⟨rfl, rfl⟩
  cases b6
  case false =>
    go_wp2
    go_ret
    exact ⟨ret_bool (by simp), hB1⟩
  go_wp2_with fail
  refine (h7 _).mono ?_
  rintro e w9 ⟨rfl, rfl⟩
  go_wp2
  go_ret
  exact ⟨ret_bool (by simp [*]), hB1⟩
theorem impl_ruleRight (r : RuleD) (w : World) (hE : EnvZ w) (ok : r.ok) (hz : r.on.size ≤ 1048576) :
    Calls Tryz.prog 70 #[r.v] w fun e w' => e = .returned (.bool (ruleB r)) ∧ Below w.heap.size w w' := by
  rw [← rule_same]; exact impl_ruleRightP r w hE ok hz
end Go.Proofs.YtjdokmllidhapaaGreatDoor
