/- Packed: Right1 Right2 Right3 Right4 Right5 Right6 Right7 Right8 Right9 Right10 Right11 Right12 Right13. -/
import Derived.Test.YtbbhpfobcelbfaaGreatDoorBasePt
import Derived.Test.YtbbhpfobcelbfaaGreatDoorOnPt
import Derived.Test.YtbbhpfobcelbfaaGreatDoorRelPt
import Derived.Test.YtbbhpfobcelbfaaGreatDoorShelf
import Derived.Laws.EntriesVeiled
namespace Go.Proofs.YtbbhpfobcelbfaaGreatDoor
open Go.RowKit

def ofB (s : ByteArray) : Bool := (s.toList == [119]) || ((s.toList == [115]) || (s.toList == [117]))
set_option maxHeartbeats 400000 in
theorem impl_ofRight (s : ByteArray) (w : World) :
    Calls Tryz.prog 124 #[.string s] w fun e w' => e = .returned (.bool (ofB s)) ∧ w' = w := by
  unfold ofB
  cases h1 : (s.toList == [119])
  · cases h2 : (s.toList == [115])
    · go_enter Tryz.func124, Tryz.ntmps124
      go_wp2
      go_ret
      exact ⟨ret_bool (by simp), rfl⟩
    · go_enter Tryz.func124, Tryz.ntmps124
      go_wp2
      go_ret
      exact ⟨ret_bool (by simp), rfl⟩
  · go_enter Tryz.func124, Tryz.ntmps124
    go_wp2
    go_ret
    exact ⟨ret_bool (by simp), rfl⟩
set_option maxHeartbeats 400000 in
theorem spec_l02Of (s : ByteArray) (w : World) :
    Calls Tryz.prog 140 #[.string s] w fun e w' => e = .returned (.bool (ofB s)) ∧ w' = w := by
  unfold ofB
  cases h1 : (s.toList == [119])
  · cases h2 : (s.toList == [115])
    · go_enter Tryz.func140, Tryz.ntmps140
      go_wp2
      go_ret
      exact ⟨ret_bool (by simp), rfl⟩
    · go_enter Tryz.func140, Tryz.ntmps140
      go_wp2
      go_ret
      exact ⟨ret_bool (by simp), rfl⟩
  · go_enter Tryz.func140, Tryz.ntmps140
    go_wp2
    go_ret
    exact ⟨ret_bool (by simp), rfl⟩
set_option maxHeartbeats 400000 in
theorem impl_saveRight (n : Int) (w : World) :
    Calls Tryz.prog 102 #[.int .i64 n] w fun e w' => e = .returned (.bool (isB n (-7200) 7200)) ∧ w' = w := by
  by_cases h : -7200 ≤ n
  · go_enter Tryz.func102, Tryz.ntmps102
    go_wp2
    go_ret
    exact ⟨ret_bool (by unfold isB; simp [h]), rfl⟩
  · go_enter Tryz.func102, Tryz.ntmps102
    go_wp2
    go_ret
    exact ⟨ret_bool (isB_f (by omega)).symm, rfl⟩
set_option maxHeartbeats 400000 in
theorem spec_l02Save (n : Int) (w : World) :
    Calls Tryz.prog 50 #[.int .i64 n] w fun e w' => e = .returned (.bool (isB n (-7200) 7200)) ∧ w' = w := by
  go_enter Tryz.func50, Tryz.ntmps50
  go_wp2_with (go_at_call 38; refine (spec_l01Is _ _ _ _).mono ?_; rintro e w' ⟨rfl, rfl⟩)
  go_ret
  exact ⟨rfl, rfl⟩
set_option maxHeartbeats 400000 in
theorem impl_yearRight (n : Int) (w : World) :
    Calls Tryz.prog 122 #[.int .i64 n] w fun e w' => e = .returned (.bool (isB n 1 9999)) ∧ w' = w := by
  by_cases h : 1 ≤ n
  · go_enter Tryz.func122, Tryz.ntmps122
    go_wp2
    go_ret
    exact ⟨ret_bool (by unfold isB; simp [h]), rfl⟩
  · go_enter Tryz.func122, Tryz.ntmps122
    go_wp2
    go_ret
    exact ⟨ret_bool (isB_f (by omega)).symm, rfl⟩
/-- a byte of a rule's letter. -/
def lbB (c : Int) : Bool := letB c || (c == 43 || c == 45)
def ltB (s : ByteArray) : Bool := decide (s.size ≤ 6) && (!(s.toList == [45]) && decide (∀ i, i < s.size → lbB (byteAt s i) = true))
theorem lt_no1 {s : ByteArray} (h : 6 < s.size) : ltB s = false := by unfold ltB; rw [decide_eq_false (by omega)]; rfl
theorem lt_no2 {s : ByteArray} (h : (s.toList == [45]) = true) : ltB s = false := by unfold ltB; rw [h]; simp
theorem lt_no3 {s : ByteArray} {k : Nat} (hk : k < s.size) (h : lbB (byteAt s k) = false) : ltB s = false := by
  unfold ltB
  have : decide (∀ i, i < s.size → lbB (byteAt s i) = true) = false := decide_eq_false fun hn => by rw [hn k hk] at h; cases h
  rw [this]; simp
theorem lt_all {s : ByteArray} (h : ∀ i, i < s.size → lbB (byteAt s i) = true) : ltB s = (decide (s.size ≤ 6) && !(s.toList == [45])) := by
  unfold ltB; rw [decide_eq_true h]; simp
theorem lbB_f {c : Int} (h : lbB c = false) : letB c = false ∧ (c != 43) = true ∧ (c != 45) = true := by
  unfold lbB at h; simp at h; simpa using h
set_option maxHeartbeats 1000000 in
theorem impl_letterRight (s : ByteArray) (w : World) (hs : s.size ≤ maxLen) :
    Calls Tryz.prog 125 #[.string s] w fun e w' => e = .returned (.bool (ltB s)) ∧ w' = w := by
  unfold maxLen at hs
  by_cases h6 : 6 < s.size
  · rw [lt_no1 h6]
    go_enter Tryz.func125, Tryz.ntmps125
    go_wp2
    go_ret
    exact ⟨rfl, rfl⟩
  cases hm : (s.toList == [45])
  · go_enter Tryz.func125, Tryz.ntmps125
    go_wp2
    go_loop [14] (fun i => ∃ k : Nat, k ≤ s.size ∧ i = .int .i64 k ∧ Hid (∀ j, j < k → lbB (byteAt s j) = true)) (fun i => s.size - (intOf i).toNat)
    case atStart => exact ⟨0, by omega, rfl, upto_zero⟩
    case round =>
      obtain ⟨k, hk, rfl, hall⟩ := hrel
      by_cases hlt : k < s.size
      · have hB := fun w => impl_isLetter (byteAt s k) w
        have e := byteAt_eq s k hlt
        cases hb : lbB (byteAt s k)
        · have HB : Hid (ltB s = false) := lt_no3 hlt hb
          obtain ⟨g1, g2, g3⟩ := lbB_f hb
          rw [g1, ← e] at hB
          rw [← e] at g2 g3
          clear hb e g1
          go_wp2_with (go_at_call 176; refine (hB _).mono ?_; rintro e w' ⟨rfl, rfl⟩)
          go_ret
          exact ⟨ret_bool HB.out.symm, rfl⟩
        · have HB : Hid (∀ j, j < k + 1 → lbB (byteAt s j) = true) := upto_succ hall.out hb
          unfold lbB at hb
          cases g1 : letB (byteAt s k)
          · rw [g1] at hb hB
            simp at hb
            rw [← e] at hB hb
            by_cases g2 : (s[k].toNat : Int) = 43
            · have g2' : ((s[k].toNat : Int) != 43) = false := by simp [g2]
              clear e g1 hb g2
              go_wp2_with (go_at_call 176; refine (hB _).mono ?_; rintro e w' ⟨rfl, rfl⟩)
              go_round
              case rel => exact ⟨k + 1, by omega, by go_num, HB⟩
              case measure => simp [intOf]; omega
            · have g2' : ((s[k].toNat : Int) != 43) = true := by simpa using g2
              have g3' : ((s[k].toNat : Int) != 45) = false := by simp; omega
              clear e g1 hb g2
              go_wp2_with (go_at_call 176; refine (hB _).mono ?_; rintro e w' ⟨rfl, rfl⟩)
              go_round
              case rel => exact ⟨k + 1, by omega, by go_num, HB⟩
              case measure => simp [intOf]; omega
          · rw [g1, ← e] at hB
            clear e g1 hb
            go_wp2_with (go_at_call 176; refine (hB _).mono ?_; rintro e w' ⟨rfl, rfl⟩)
            go_round
            case rel => exact ⟨k + 1, by omega, by go_num, HB⟩
            case measure => simp [intOf]; omega
      · have e : k = s.size := by omega
        subst e
        have HB : Hid (ltB s = true) := by
          simp only [Hid]; rw [lt_all hall.out, hm]; simp; omega
        go_wp2
        go_ret
        exact ⟨ret_bool HB.out.symm, rfl⟩
  · rw [lt_no2 hm]
    go_enter Tryz.func125, Tryz.ntmps125
    go_wp2
    go_ret
    exact ⟨rfl, rfl⟩
set_option maxHeartbeats 1000000 in
theorem spec_l02Letter (s : ByteArray) (w : World) (hs : s.size ≤ maxLen) :
    Calls Tryz.prog 141 #[.string s] w fun e w' => e = .returned (.bool (ltB s)) ∧ w' = w := by
  unfold maxLen at hs
  go_enter Tryz.func141, Tryz.ntmps141
  go_wp2
  go_loop [3] (fun i => ∃ k : Nat, k ≤ s.size ∧ i = .int .i64 k ∧ Hid (∀ j, j < k → lbB (byteAt s j) = true)) (fun i => s.size - (intOf i).toNat)
  case atStart => exact ⟨0, by omega, rfl, upto_zero⟩
  case round =>
    obtain ⟨k, hk, rfl, hall⟩ := hrel
    by_cases hlt : k < s.size
    · have hB := fun w => spec_l01Letter (byteAt s k) w
      have e := byteAt_eq s k hlt
      cases hb : lbB (byteAt s k)
      · have HB : Hid (ltB s = false) := lt_no3 hlt hb
        obtain ⟨g1, g2, g3⟩ := lbB_f hb
        rw [g1, ← e] at hB
        rw [← e] at g2 g3
        clear hb e g1
        go_wp2_with (go_at_call 143; refine (hB _).mono ?_; rintro e w' ⟨rfl, rfl⟩)
        go_ret
        exact ⟨ret_bool HB.out.symm, rfl⟩
      · have HB : Hid (∀ j, j < k + 1 → lbB (byteAt s j) = true) := upto_succ hall.out hb
        unfold lbB at hb
        cases g1 : letB (byteAt s k)
        · rw [g1] at hb hB
          simp at hb
          rw [← e] at hB hb
          by_cases g2 : (s[k].toNat : Int) = 43
          · have g2' : ((s[k].toNat : Int) != 43) = false := by simp [g2]
            clear e g1 hb g2
            go_wp2_with (go_at_call 143; refine (hB _).mono ?_; rintro e w' ⟨rfl, rfl⟩)
            go_round
            case rel => exact ⟨k + 1, by omega, by go_num, HB⟩
            case measure => simp [intOf]; omega
          · have g2' : ((s[k].toNat : Int) != 43) = true := by simpa using g2
            have g3' : ((s[k].toNat : Int) != 45) = false := by simp; omega
            clear e g1 hb g2
            go_wp2_with (go_at_call 143; refine (hB _).mono ?_; rintro e w' ⟨rfl, rfl⟩)
            go_round
            case rel => exact ⟨k + 1, by omega, by go_num, HB⟩
            case measure => simp [intOf]; omega
        · rw [g1, ← e] at hB
          clear e g1 hb
          go_wp2_with (go_at_call 143; refine (hB _).mono ?_; rintro e w' ⟨rfl, rfl⟩)
          go_round
          case rel => exact ⟨k + 1, by omega, by go_num, HB⟩
          case measure => simp [intOf]; omega
    · have e : k = s.size := by omega
      subst e
      have HB : Hid (ltB s = (decide (s.size ≤ 6) && !(s.toList == [45]))) := lt_all hall.out
      by_cases h6 : s.size ≤ 6
      · go_wp2
        go_ret
        exact ⟨ret_bool (by rw [HB.out]; simp [h6]), rfl⟩
      · go_wp2
        go_ret
        exact ⟨ret_bool (by rw [HB.out]; simp [h6]), rfl⟩
end Go.Proofs.YtbbhpfobcelbfaaGreatDoor
namespace Go.Proofs.YtbbhpfobcelbfaaGreatDoor
open Go.RowKit

def EnvZ (w : World) : Prop := Tab w ∧ Mx w
theorem EnvZ.of_below {w w' : World} (h : EnvZ w) (hb : Below w.heap.size w w') : EnvZ w' := ⟨h.1.of_below hb, h.2.of_below hb⟩
theorem EnvZ.alloc {w : World} (h : EnvZ w) (o : Obj) : EnvZ (w.alloc o) := ⟨h.1.alloc o, h.2.alloc o⟩
/-- does the text tell a day of a month of 31 days. -/
def onB (s : ByteArray) : Bool := toldV 2000 1 s != -1000000
set_option maxHeartbeats 400000 in
theorem impl_onRight (s : ByteArray) (w : World) (hE : EnvZ w) (hz : s.size ≤ 1048576) :
    Calls Tryz.prog 123 #[.string s] w fun e w' => e = .returned (.bool (onB s)) ∧ Below w.heap.size w w' := by
  have hX := fun w (h : EnvZ w) => impl_told 2000 1 s w h.1 h.2 hz
  unfold onB
  generalize toldV 2000 1 s = r at *
  go_enter Tryz.func123, Tryz.ntmps123
  go_wp2_with fail
  refine (hX _ hE).mono ?_
  rintro e w1 ⟨rfl, hb⟩
  go_wp2
  go_ret
  exact ⟨rfl, hb⟩
set_option maxHeartbeats 400000 in
theorem spec_l02OnRight (s : ByteArray) (w : World) (hz : s.size ≤ 1048576) :
    Calls Tryz.prog 139 #[.string s] w fun e w' => e = .returned (.bool (onB s)) ∧ Below w.heap.size w w' := by
  have hy : ymB 2000 1 = true := by decide
  have hX := fun w => spec_l01On 2000 1 s w hy hz
  have e : toldV 2000 1 s = moV 2000 1 s := by unfold toldV; rw [hy, if_pos rfl, on_same hy]
  unfold onB
  rw [e]
  clear e
  generalize moV 2000 1 s = r at *
  go_enter Tryz.func139, Tryz.ntmps139
  go_wp2_with fail
  refine (hX _).mono ?_
  rintro e w1 ⟨rfl, hb⟩
  go_wp2
  go_ret
  exact ⟨rfl, hb⟩
/-- is a rule right. -/
def ruleB (r : RuleD) : Bool := nameB r.name && (isB r.lo 1 9999 && (isB r.hi r.lo 9999 && (isB r.month 1 12 && (onB r.on && (isB r.at_ 0 604800 && (ofB r.of && (isB r.save (-7200) 7200 && ltB r.letter)))))))
def ruleP (r : RuleD) : Bool := nameB r.name && (isB r.lo 1 9999 && (isB r.hi 1 9999 && (decide (r.lo ≤ r.hi) && (decide (1 ≤ r.month) && (decide (r.month ≤ 12) && (onB r.on && (decide (0 ≤ r.at_) && (decide (r.at_ ≤ 604800) && (ofB r.of && (isB r.save (-7200) 7200 && ltB r.letter))))))))))
theorem rule_same (r : RuleD) : ruleP r = ruleB r := by
  unfold ruleP ruleB
  have e1 : isB r.month 1 12 = (decide (1 ≤ r.month) && decide (r.month ≤ 12)) := by unfold isB; simp
  have e2 : isB r.at_ 0 604800 = (decide (0 ≤ r.at_) && decide (r.at_ ≤ 604800)) := by unfold isB; simp
  have e3 : (isB r.lo 1 9999 && (isB r.hi 1 9999 && decide (r.lo ≤ r.hi))) = (isB r.lo 1 9999 && isB r.hi r.lo 9999) := by
    rw [Bool.eq_iff_iff]; unfold isB; simp; omega
  rw [e1, e2]
  have e4 : ∀ x, (isB r.lo 1 9999 && (isB r.hi 1 9999 && (decide (r.lo ≤ r.hi) && x))) = (isB r.lo 1 9999 && (isB r.hi r.lo 9999 && x)) := fun x => by
    rw [← Bool.and_assoc (isB r.hi 1 9999), ← Bool.and_assoc (isB r.lo 1 9999), e3, Bool.and_assoc]
  rw [e4]
  simp only [Bool.and_assoc]
set_option maxHeartbeats 2000000 in
theorem impl_ruleRightP (r : RuleD) (w : World) (hE : EnvZ w) (ok : r.ok) (hz : r.on.size ≤ 1048576) :
    Calls Tryz.prog 72 #[r.v] w fun e w' => e = .returned (.bool (ruleP r)) ∧ Below w.heap.size w w' := by
  obtain ⟨name, lo, hi, month, on, at_, of, save, letter⟩ := r
  obtain ⟨k1, k2, k3, k4⟩ := ok
  simp only [RuleD.v, ruleP] at *
  have h1 := fun w => impl_NameRight name w k1
  have h2 := fun w => impl_yearRight lo w
  have h3 := fun w => impl_yearRight hi w
  have h4 := fun w (h : EnvZ w) => impl_onRight on w h hz
  have h5 := fun w => impl_ofRight of w
  have h6 := fun w => impl_saveRight save w
  have h7 := fun w => impl_letterRight letter w k4
  generalize nameB name = b1 at *
  generalize isB lo 1 9999 = b2 at *
  generalize isB hi 1 9999 = b3 at *
  generalize onB on = b4 at *
  generalize ofB of = b5 at *
  generalize isB save (-7200) 7200 = b6 at *
  generalize ltB letter = b7 at *
  have hB0 := fun o => (Below.refl w.heap.size w).alloc (Nat.le_refl _) o
  go_enter Tryz.func72, Tryz.ntmps72
  go_wp2_with fail
  refine (h1 _).mono ?_
  rintro e w9 ⟨rfl, rfl⟩
  cases b1
  case false =>
    go_wp2
    go_ret
    exact ⟨ret_bool (by simp), (hB0 _)⟩
  go_wp2_with fail
  refine (h2 _).mono ?_
  rintro e w9 ⟨rfl, rfl⟩
  cases b2
  case false =>
    go_wp2
    go_ret
    exact ⟨ret_bool (by simp), (hB0 _)⟩
  go_wp2_with fail
  refine (h3 _).mono ?_
  rintro e w9 ⟨rfl, rfl⟩
  cases b3
  case false =>
    go_wp2
    go_ret
    exact ⟨ret_bool (by simp), (hB0 _)⟩
  by_cases g1 : lo ≤ hi
  case neg =>
    go_wp2
    go_ret
    exact ⟨ret_bool (by simp; intros; omega), (hB0 _)⟩
  by_cases g2 : 1 ≤ month
  case neg =>
    go_wp2
    go_ret
    exact ⟨ret_bool (by simp; intros; omega), (hB0 _)⟩
  by_cases g3 : month ≤ 12
  case neg =>
    go_wp2
    go_ret
    exact ⟨ret_bool (by simp; intros; omega), (hB0 _)⟩
  go_wp2_with fail
  refine (h4 _ (hE.alloc _)).mono ?_
  rintro e w1 ⟨rfl, hb1⟩
  obtain ⟨hc, _⟩ := bcell hb1
  have hlt : w.heap.size < w1.heap.size := by have := hb1.size; simp at this; omega
  have hB1 := (hB0 _).trans (hb1.mono (by simp))
  cases b4
  case false =>
    go_wp2
    go_ret
    exact ⟨ret_bool (by simp), hB1⟩
  by_cases g4 : 0 ≤ at_
  case neg =>
    go_wp2
    go_ret
    exact ⟨ret_bool (by simp; intros; omega), hB1⟩
  by_cases g5 : at_ ≤ 604800
  case neg =>
    go_wp2
    go_ret
    exact ⟨ret_bool (by simp; intros; omega), hB1⟩
  go_wp2_with fail
  refine (h5 _).mono ?_
  rintro e w9 ⟨rfl, rfl⟩
  cases b5
  case false =>
    go_wp2
    go_ret
    exact ⟨ret_bool (by simp), hB1⟩
  go_wp2_with fail
  refine (h6 _).mono ?_
  rintro e w9 ⟨rfl, rfl⟩
  cases b6
  case false =>
    go_wp2
    go_ret
    exact ⟨ret_bool (by simp), hB1⟩
  go_wp2_with fail
  refine (h7 _).mono ?_
  rintro e w9 ⟨rfl, rfl⟩
  go_wp2
  go_ret
  exact ⟨ret_bool (by simp [*]), hB1⟩
set_option maxHeartbeats 2000000 in
theorem spec_l02Rule (r : RuleD) (w : World) (ok : r.ok) (hz : r.on.size ≤ 1048576) :
    Calls Tryz.prog 82 #[r.v] w fun e w' => e = .returned (.bool (ruleB r)) ∧ Below w.heap.size w w' := by
  obtain ⟨name, lo, hi, month, on, at_, of, save, letter⟩ := r
  obtain ⟨k1, k2, k3, k4⟩ := ok
  simp only [RuleD.v, ruleB] at *
  have h1 := fun w => spec_NameRight name w k1
  have h2 := fun w => spec_l01Year lo w
  have h3 := fun w => spec_l01Is hi lo 9999 w
  have h8 := fun w => spec_l01Is month 1 12 w
  have h4 := fun w => spec_l02OnRight on w hz
  have h9 := fun w => spec_l01Is at_ 0 604800 w
  have h5 := fun w => spec_l02Of of w
  have h6 := fun w => spec_l02Save save w
  have h7 := fun w => spec_l02Letter letter w k4
  generalize nameB name = b1 at *
  generalize isB lo 1 9999 = b2 at *
  generalize isB hi lo 9999 = b3 at *
  generalize isB month 1 12 = b8 at *
  generalize onB on = b4 at *
  generalize isB at_ 0 604800 = b9 at *
  generalize ofB of = b5 at *
  generalize isB save (-7200) 7200 = b6 at *
  generalize ltB letter = b7 at *
  have hB0 := fun o => (Below.refl w.heap.size w).alloc (Nat.le_refl _) o
  go_enter Tryz.func82, Tryz.ntmps82
  go_wp2_with fail
  refine (h1 _).mono ?_
  rintro e w9 ⟨rfl, rfl⟩
  cases b1
  case false =>
    go_wp2
    go_ret
    exact ⟨ret_bool (by simp), (hB0 _)⟩
  go_wp2_with fail
  refine (h2 _).mono ?_
  rintro e w9 ⟨rfl, rfl⟩
  cases b2
  case false =>
    go_wp2
    go_ret
    exact ⟨ret_bool (by simp), (hB0 _)⟩
  go_wp2_with fail
  refine (h3 _).mono ?_
  rintro e w9 ⟨rfl, rfl⟩
  cases b3
  case false =>
    go_wp2
    go_ret
    exact ⟨ret_bool (by simp), (hB0 _)⟩
  go_wp2_with fail
  refine (h8 _).mono ?_
  rintro e w9 ⟨rfl, rfl⟩
  cases b8
  case false =>
    go_wp2
    go_ret
    exact ⟨ret_bool (by simp), (hB0 _)⟩
  go_wp2_with fail
  refine (h4 _).mono ?_
  rintro e w1 ⟨rfl, hb1⟩
  obtain ⟨hc, _⟩ := bcell hb1
  have hlt : w.heap.size < w1.heap.size := by have := hb1.size; simp at this; omega
  have hB1 := (hB0 _).trans (hb1.mono (by simp))
  cases b4
  case false =>
    go_wp2
    go_ret
    exact ⟨ret_bool (by simp), hB1⟩
  go_wp2_with fail
  refine (h9 _).mono ?_
  rintro e w9 ⟨rfl, rfl⟩
  cases b9
  case false =>
    go_wp2
    go_ret
    exact ⟨ret_bool (by simp), hB1⟩
  go_wp2_with fail
  refine (h5 _).mono ?_
  rintro e w9 ⟨rfl, rfl⟩
  cases b5
  case false =>
    go_wp2
    go_ret
    exact ⟨ret_bool (by simp), hB1⟩
  go_wp2_with fail
  refine (h6 _).mono ?_
  rintro e w9 ⟨rfl, rfl⟩
  cases b6
  case false =>
    go_wp2
    go_ret
    exact ⟨ret_bool (by simp), hB1⟩
  go_wp2_with fail
  refine (h7 _).mono ?_
  rintro e w9 ⟨rfl, rfl⟩
  go_wp2
  go_ret
  exact ⟨ret_bool (by simp [*]), hB1⟩
theorem impl_ruleRight (r : RuleD) (w : World) (hE : EnvZ w) (ok : r.ok) (hz : r.on.size ≤ 1048576) :
    Calls Tryz.prog 72 #[r.v] w fun e w' => e = .returned (.bool (ruleB r)) ∧ Below w.heap.size w w' := by
  rw [← rule_same]; exact impl_ruleRightP r w hE ok hz
end Go.Proofs.YtbbhpfobcelbfaaGreatDoor
namespace Go.Proofs.YtbbhpfobcelbfaaGreatDoor
open Go.RowKit

/-- a byte of a format. -/
def fbB (c : Int) : Bool := letB c || (digB c || (c == 43 || (c == 45 || (c == 37 || c == 47))))
/-- how many of the first k bytes are a stroke. -/
def strokes (s : ByteArray) : Nat → Int
  | 0 => 0
  | k + 1 => strokes s k + (if byteAt s k = 47 then 1 else 0)
theorem strokes_bd (s : ByteArray) (k : Nat) : 0 ≤ strokes s k ∧ strokes s k ≤ k := by
  induction k with
  | zero => simp [strokes]
  | succ k ih => simp only [strokes]; split <;> omega
def fmtB (s : ByteArray) : Bool := decide (1 ≤ s.size ∧ s.size ≤ 12 ∧ strokes s s.size ≤ 1 ∧ ∀ i, i < s.size → fbB (byteAt s i) = true)
theorem fmt_no {s : ByteArray} (h : ¬ (1 ≤ s.size ∧ s.size ≤ 12 ∧ strokes s s.size ≤ 1)) : fmtB s = false := decide_eq_false fun hn => h ⟨hn.1, hn.2.1, hn.2.2.1⟩
theorem fmt_no3 {s : ByteArray} {k : Nat} (hk : k < s.size) (h : fbB (byteAt s k) = false) : fmtB s = false := decide_eq_false fun hn => by rw [hn.2.2.2 k hk] at h; cases h
theorem fmt_yes {s : ByteArray} (h1 : 1 ≤ s.size) (h2 : s.size ≤ 12) (h3 : strokes s s.size ≤ 1) (h : ∀ i, i < s.size → fbB (byteAt s i) = true) : fmtB s = true := decide_eq_true ⟨h1, h2, h3, h⟩
theorem fbB_eq {c : Int} {b : Bool} (h : b = true ↔ (letB c = true ∨ digB c = true ∨ c = 43 ∨ c = 45 ∨ c = 37 ∨ c = 47)) : b = fbB c := by
  unfold fbB; rw [Bool.eq_iff_iff, h]; simp
set_option maxHeartbeats 1000000 in
theorem impl_isFormatByte (c : Int) (w : World) :
    Calls Tryz.prog 216 #[.int .u8 c] w fun e w' => e = .returned (.bool (fbB c)) ∧ w' = w := by
  have hL := fun w => impl_isLetter c w
  have hD := fun w => impl_isDigit c w
  unfold fbB
  generalize letB c = b1 at *
  generalize digB c = b2 at *
  go_enter Tryz.func216, Tryz.ntmps216
  go_wp2_with fail
  refine (hL _).mono ?_
  rintro e w1 ⟨rfl, rfl⟩
  cases b1
  case true =>
    go_wp2
    go_ret
    exact ⟨ret_bool (by simp), rfl⟩
  go_wp2_with fail
  refine (hD _).mono ?_
  rintro e w1 ⟨rfl, rfl⟩
  cases b2
  case true =>
    go_wp2
    go_ret
    exact ⟨ret_bool (by simp), rfl⟩
  go_wp2
  all_goals go_ret
  all_goals exact ⟨ret_bool (by first | (simp_all; done) | simp [Bool.or_assoc]), rfl⟩
theorem strokes_count (s : ByteArray) (k : Nat) (hk : k ≤ s.size) : strokes s k = ((s.data.toList.take k).count 47 : Nat) := by
  have hz : s.data.toList.length = s.size := by rw [Array.length_toList]; rfl
  induction k with
  | zero => simp [strokes]
  | succ k ih =>
    have hlt : k < s.data.toList.length := by omega
    have e : byteAt s k = (s.data.toList[k].toNat : Int) := by
      rw [← byteAt_eq s k (by omega)]; rfl
    rw [List.take_add_one, List.getElem?_eq_getElem hlt, List.count_append, strokes, ih (by omega), e]
    by_cases h : s.data.toList[k] = 47
    · rw [h]; simp
    · have h2 : ¬ (s.data.toList[k].toNat : Int) = 47 := fun hn => h (by
        apply UInt8.toNat_inj.mp
        show s.data.toList[k].toNat = 47
        omega)
      have hc : List.count 47 [s.data.toList[k]] = 0 := List.count_eq_zero_of_not_mem (by simpa using fun hn => h hn.symm)
      rw [if_neg h2, Option.toList_some, hc]
      simp
theorem strokes_all (s : ByteArray) : (Lib.countByte s.data.toList 47 : Int) = strokes s s.size := by
  have hz : s.data.toList.length = s.size := by rw [Array.length_toList]; rfl
  rw [strokes_count s s.size (Nat.le_refl _), List.take_of_length_le (by omega)]
  rfl
set_option maxHeartbeats 1000000 in
theorem impl_formatRight (s : ByteArray) (w : World) (hs : s.size ≤ maxLen) :
    Calls Tryz.prog 180 #[.string s] w fun e w' => e = .returned (.bool (fmtB s)) ∧ w' = w := by
  unfold maxLen at hs
  by_cases h1 : s.size < 1
  · rw [fmt_no (by omega)]
    go_enter Tryz.func180, Tryz.ntmps180
    go_wp2
    go_ret
    exact ⟨rfl, rfl⟩
  by_cases h2 : 12 < s.size
  · rw [fmt_no (by omega)]
    go_enter Tryz.func180, Tryz.ntmps180
    go_wp2
    go_ret
    exact ⟨rfl, rfl⟩
  have hC := fun w => Tryz.strings_Count_one s 47 w
  rw [strokes_all] at hC
  by_cases h3 : 1 < strokes s s.size
  · rw [fmt_no (by omega)]
    generalize strokes s s.size = n at *
    go_enter Tryz.func180, Tryz.ntmps180
    go_wp2_with (go_at_call 88; refine (hC _).mono ?_; rintro e w' ⟨rfl, rfl⟩)
    go_ret
    exact ⟨rfl, rfl⟩
  have h3' : Hid (strokes s s.size ≤ 1) := by simp only [Hid]; omega
  generalize hn : strokes s s.size = n at hC h3
  go_enter Tryz.func180, Tryz.ntmps180
  go_wp2_with (go_at_call 88; refine (hC _).mono ?_; rintro e w' ⟨rfl, rfl⟩)
  go_loop [19] (fun i => ∃ k : Nat, k ≤ s.size ∧ i = .int .i64 k ∧ Hid (∀ j, j < k → fbB (byteAt s j) = true)) (fun i => s.size - (intOf i).toNat)
  case atStart => exact ⟨0, by omega, rfl, upto_zero⟩
  case round =>
    obtain ⟨k, hk, rfl, hall⟩ := hrel
    by_cases hlt : k < s.size
    · have hB := fun w => impl_isFormatByte (byteAt s k) w
      have e := byteAt_eq s k hlt
      cases hb : fbB (byteAt s k)
      · have HB : Hid (fmtB s = false) := fmt_no3 hlt hb
        rw [hb, ← e] at hB
        clear hb e
        go_wp2_with (go_at_call 216; refine (hB _).mono ?_; rintro e w' ⟨rfl, rfl⟩)
        go_ret
        exact ⟨ret_bool HB.out.symm, rfl⟩
      · have HB : Hid (∀ j, j < k + 1 → fbB (byteAt s j) = true) := upto_succ hall.out hb
        rw [hb, ← e] at hB
        clear hb e
        go_wp2_with (go_at_call 216; refine (hB _).mono ?_; rintro e w' ⟨rfl, rfl⟩)
        go_round
        case rel => exact ⟨k + 1, by omega, by go_num, HB⟩
        case measure => simp [intOf]; omega
    · have e : k = s.size := by omega
      subst e
      have HB : Hid (fmtB s = true) := fmt_yes (by omega) (by omega) h3'.out hall.out
      go_wp2
      go_ret
      exact ⟨ret_bool HB.out.symm, rfl⟩
set_option maxHeartbeats 2000000 in
theorem spec_l02Format (s : ByteArray) (w : World) (hs : s.size ≤ maxLen) :
    Calls Tryz.prog 187 #[.string s] w fun e w' => e = .returned (.bool (fmtB s)) ∧ w' = w := by
  unfold maxLen at hs
  go_enter Tryz.func187, Tryz.ntmps187
  go_wp2
  go_loop [3, 4] (fun x i => ∃ k : Nat, k ≤ s.size ∧ i = .int .i64 k ∧ x = .int .i64 (strokes s k) ∧ Hid (∀ j, j < k → fbB (byteAt s j) = true)) (fun _ i => s.size - (intOf i).toNat)
  case atStart => exact ⟨0, by omega, rfl, rfl, upto_zero⟩
  case round =>
    obtain ⟨k, hk, rfl, rfl, hall⟩ := hrel
    have sb := strokes_bd s k
    by_cases hlt : k < s.size
    · have hL := fun w => spec_l01Letter (byteAt s k) w
      have hD := fun w => spec_l01Digit (byteAt s k) w
      have e := byteAt_eq s k hlt
      by_cases h47 : byteAt s k = 47
      · have HN : Hid (strokes s (k + 1) = strokes s k + 1) := by simp only [Hid, strokes]; rw [if_pos h47]
        have HB : Hid (∀ j, j < k + 1 → fbB (byteAt s j) = true) := upto_succ hall.out (by rw [h47]; decide)
        have g : ((s[k].toNat : Int) == 47) = true := by rw [e, h47]; rfl
        clear e h47 hL hD
        go_wp2
        go_round
        case rel => exact ⟨k + 1, by omega, by go_num, by rw [HN.out], HB⟩
        case measure => simp [intOf]; omega
      · have HN : Hid (strokes s (k + 1) = strokes s k) := by simp only [Hid, strokes]; rw [if_neg h47]; omega
        have g : ((s[k].toNat : Int) == 47) = false := by rw [e]; simpa using h47
        cases hb : fbB (byteAt s k)
        · have HB : Hid (fmtB s = false) := fmt_no3 hlt hb
          unfold fbB at hb
          simp only [Bool.or_eq_false_iff] at hb
          obtain ⟨q1, q2, q3, q4, q5, _⟩ := hb
          rw [q1, ← e] at hL
          rw [q2, ← e] at hD
          rw [← e] at q3 q4 q5
          have q3' : ((s[k].toNat : Int) != 43) = true := by simpa using q3
          have q4' : ((s[k].toNat : Int) != 45) = true := by simpa using q4
          have q5' : ((s[k].toNat : Int) != 37) = true := by simpa using q5
          clear e h47 q1 q2 q3 q4 q5
          go_wp2_with (first | (go_at_call 143; refine (hL _).mono ?_; rintro e w' ⟨rfl, rfl⟩) | (go_at_call 144; refine (hD _).mono ?_; rintro e w' ⟨rfl, rfl⟩))
          go_ret
          exact ⟨ret_bool HB.out.symm, rfl⟩
        · have HB : Hid (∀ j, j < k + 1 → fbB (byteAt s j) = true) := upto_succ hall.out hb
          have hc : letB (byteAt s k) = true ∨ (letB (byteAt s k) = false ∧ digB (byteAt s k) = true) ∨ (letB (byteAt s k) = false ∧ digB (byteAt s k) = false ∧ byteAt s k = 43) ∨ (letB (byteAt s k) = false ∧ digB (byteAt s k) = false ∧ byteAt s k = 45) ∨ (letB (byteAt s k) = false ∧ digB (byteAt s k) = false ∧ byteAt s k = 37) := by
            unfold fbB at hb
            cases q1 : letB (byteAt s k)
            · cases q2 : digB (byteAt s k)
              · rw [q1, q2] at hb
                simp at hb
                rcases hb with h | h | h | h
                · exact .inr (.inr (.inl ⟨rfl, rfl, h⟩))
                · exact .inr (.inr (.inr (.inl ⟨rfl, rfl, h⟩)))
                · exact .inr (.inr (.inr (.inr ⟨rfl, rfl, h⟩)))
                · exact absurd h h47
              · exact .inr (.inl ⟨rfl, rfl⟩)
            · exact .inl rfl
          clear hb h47
          rcases hc with q1 | ⟨q1, q2⟩ | ⟨q1, q2, q3⟩ | ⟨q1, q2, q3⟩ | ⟨q1, q2, q3⟩
          · rw [q1, ← e] at hL
            clear e q1 hD
            go_wp2_with (go_at_call 143; refine (hL _).mono ?_; rintro e w' ⟨rfl, rfl⟩)
            go_round
            case rel => exact ⟨k + 1, by omega, by go_num, by rw [HN.out], HB⟩
            case measure => simp [intOf]; omega
          all_goals
            rw [q1, ← e] at hL
            rw [q2, ← e] at hD
          · clear e q1 q2
            go_wp2_with (first | (go_at_call 143; refine (hL _).mono ?_; rintro e w' ⟨rfl, rfl⟩) | (go_at_call 144; refine (hD _).mono ?_; rintro e w' ⟨rfl, rfl⟩))
            go_round
            case rel => exact ⟨k + 1, by omega, by go_num, by rw [HN.out], HB⟩
            case measure => simp [intOf]; omega
          · have t1 : ((s[k].toNat : Int) != 43) = false := by rw [e, q3]; rfl
            clear e q1 q2 q3
            go_wp2_with (first | (go_at_call 143; refine (hL _).mono ?_; rintro e w' ⟨rfl, rfl⟩) | (go_at_call 144; refine (hD _).mono ?_; rintro e w' ⟨rfl, rfl⟩))
            go_round
            case rel => exact ⟨k + 1, by omega, by go_num, by rw [HN.out], HB⟩
            case measure => simp [intOf]; omega
          · have t1 : ((s[k].toNat : Int) != 43) = true := by rw [e, q3]; rfl
            have t2 : ((s[k].toNat : Int) != 45) = false := by rw [e, q3]; rfl
            clear e q1 q2 q3
            go_wp2_with (first | (go_at_call 143; refine (hL _).mono ?_; rintro e w' ⟨rfl, rfl⟩) | (go_at_call 144; refine (hD _).mono ?_; rintro e w' ⟨rfl, rfl⟩))
            go_round
            case rel => exact ⟨k + 1, by omega, by go_num, by rw [HN.out], HB⟩
            case measure => simp [intOf]; omega
          · have t1 : ((s[k].toNat : Int) != 43) = true := by rw [e, q3]; rfl
            have t2 : ((s[k].toNat : Int) != 45) = true := by rw [e, q3]; rfl
            have t3 : ((s[k].toNat : Int) != 37) = false := by rw [e, q3]; rfl
            clear e q1 q2 q3
            go_wp2_with (first | (go_at_call 143; refine (hL _).mono ?_; rintro e w' ⟨rfl, rfl⟩) | (go_at_call 144; refine (hD _).mono ?_; rintro e w' ⟨rfl, rfl⟩))
            go_round
            case rel => exact ⟨k + 1, by omega, by go_num, by rw [HN.out], HB⟩
            case measure => simp [intOf]; omega
    · have e : k = s.size := by omega
      subst e
      by_cases h1 : 1 ≤ s.size
      · by_cases h2 : s.size ≤ 12
        · by_cases h3 : strokes s s.size ≤ 1
          · have HB : Hid (fmtB s = true) := fmt_yes h1 h2 h3 hall.out
            go_wp2
            go_ret
            exact ⟨ret_bool HB.out.symm, rfl⟩
          · have HB : Hid (fmtB s = false) := fmt_no (by omega)
            go_wp2
            go_ret
            exact ⟨ret_bool HB.out.symm, rfl⟩
        · have HB : Hid (fmtB s = false) := fmt_no (by omega)
          go_wp2
          go_ret
          exact ⟨ret_bool HB.out.symm, rfl⟩
      · have HB : Hid (fmtB s = false) := fmt_no (by omega)
        go_wp2
        go_ret
        exact ⟨ret_bool HB.out.symm, rfl⟩
end Go.Proofs.YtbbhpfobcelbfaaGreatDoor
namespace Go.Proofs.YtbbhpfobcelbfaaGreatDoor
open Go.RowKit

/-- a save, or the rules' name. -/
def erB (e : EraD) : Bool := if e.rules.toList.isEmpty = true then isB e.save (-7200) 7200 else nameB e.rules && decide (e.save = 0)
set_option maxHeartbeats 1000000 in
theorem impl_eraRulesRight (e : EraD) (w : World) (ok : e.ok) :
    Calls Tryz.prog 179 #[e.v] w fun x w' => x = .returned (.bool (erB e)) ∧ Below w.heap.size w w' := by
  obtain ⟨offset, rules, save, format, until_, of⟩ := e
  obtain ⟨k1, k2, k3⟩ := ok
  simp only [EraD.v, erB] at *
  have h1 := fun w => impl_saveRight save w
  have h2 := fun w => impl_NameRight rules w k1
  generalize isB save (-7200) 7200 = b1 at *
  generalize nameB rules = b2 at *
  cases he : rules.toList.isEmpty
  · simp only [Bool.false_eq_true, if_false]
    go_enter Tryz.func179, Tryz.ntmps179
    go_wp2_with fail
    refine (h2 _).mono ?_
    rintro e w1 ⟨rfl, rfl⟩
    cases b2
    · go_wp2
      go_ret
      exact ⟨ret_bool (by simp), (Below.refl _ _).alloc (Nat.le_refl _) _⟩
    · go_wp2
      go_ret
      exact ⟨ret_bool (by simp; rfl), (Below.refl _ _).alloc (Nat.le_refl _) _⟩
  · simp only [if_true]
    go_enter Tryz.func179, Tryz.ntmps179
    go_wp2_with fail
    refine (h1 _).mono ?_
    rintro e w1 ⟨rfl, rfl⟩
    go_wp2
    go_ret
    exact ⟨rfl, (Below.refl _ _).alloc (Nat.le_refl _) _⟩
def eraP (e : EraD) : Bool := decide (-86400 ≤ e.offset) && (decide (e.offset ≤ 86400) && (erB e && (fmtB e.format && (decide (-62135596800 ≤ e.until_) && (decide (e.until_ ≤ 253402300799) && ofB e.of)))))
set_option maxHeartbeats 400000 in
theorem impl_isTimeR (n : Int) (w : World) :
    Calls Tryz.prog 181 #[.int .i64 n] w fun e w' => e = .returned (.bool (isB n (-62135596800) 253402300799)) ∧ w' = w := by
  by_cases h : -62135596800 ≤ n
  · go_enter Tryz.func181, Tryz.ntmps181
    go_wp2
    go_ret
    exact ⟨ret_bool (by unfold isB; simp [h]), rfl⟩
  · go_enter Tryz.func181, Tryz.ntmps181
    go_wp2
    go_ret
    exact ⟨ret_bool (isB_f (by omega)).symm, rfl⟩
set_option maxHeartbeats 1000000 in
theorem impl_eraRight (e : EraD) (w : World) (ok : e.ok) :
    Calls Tryz.prog 127 #[e.v] w fun x w' => x = .returned (.bool (eraP e)) ∧ Below w.heap.size w w' := by
  have h1 := fun w => impl_eraRulesRight e w ok
  unfold eraP
  generalize erB e = b1 at *
  obtain ⟨offset, rules, save, format, until_, of⟩ := e
  obtain ⟨k1, k2, k3⟩ := ok
  simp only [EraD.v] at *
  have h2 := fun w => impl_formatRight format w k2
  have h3 := fun w => impl_ofRight of w
  have h4 := fun w => impl_isTimeR until_ w
  generalize fmtB format = b2 at *
  generalize ofB of = b3 at *
  have hB0 := fun o => (Below.refl w.heap.size w).alloc (Nat.le_refl _) o
  go_enter Tryz.func127, Tryz.ntmps127
  by_cases g1 : -86400 ≤ offset
  case neg =>
    go_wp2
    go_ret
    exact ⟨ret_bool (by simp; intros; omega), hB0 _⟩
  by_cases g2 : offset ≤ 86400
  case neg =>
    go_wp2
    go_ret
    exact ⟨ret_bool (by simp; intros; omega), hB0 _⟩
  go_wp2_with fail
  refine (h1 _).mono ?_
  rintro e w1 ⟨rfl, hb1⟩
  obtain ⟨hc, _⟩ := bcell hb1
  have hlt : w.heap.size < w1.heap.size := by have := hb1.size; simp at this; omega
  have hB1 := (hB0 _).trans (hb1.mono (by simp))
  cases b1
  case false =>
    go_wp2
    go_ret
    exact ⟨ret_bool (by simp), hB1⟩
  go_wp2_with fail
  refine (h2 _).mono ?_
  rintro e w9 ⟨rfl, rfl⟩
  cases b2
  case false =>
    go_wp2
    go_ret
    exact ⟨ret_bool (by simp), hB1⟩
  by_cases g34 : -62135596800 ≤ until_ ∧ until_ ≤ 253402300799
  case neg =>
    rw [isB_f g34] at h4
    go_wp2_with fail
    refine (h4 _).mono ?_
    rintro e w8 ⟨rfl, rfl⟩
    go_wp2
    go_ret
    exact ⟨ret_bool (by simp; intros; omega), hB1⟩
  rw [isB_t g34.1 g34.2] at h4
  obtain ⟨g3, g4⟩ := g34
  go_wp2_with fail
  refine (h4 _).mono ?_
  rintro e w8 ⟨rfl, rfl⟩
  go_wp2_with fail
  refine (h3 _).mono ?_
  rintro e w9 ⟨rfl, rfl⟩
  go_wp2
  go_ret
  exact ⟨ret_bool (by simp [*]), hB1⟩
def linkB (l : LinkD) : Bool := nameB l.to_ && nameB l.name
set_option maxHeartbeats 1000000 in
theorem impl_linkRight (l : LinkD) (w : World) (ok : l.ok) :
    Calls Tryz.prog 76 #[l.v] w fun x w' => x = .returned (.bool (linkB l)) ∧ Below w.heap.size w w' := by
  obtain ⟨to_, name⟩ := l
  obtain ⟨k1, k2⟩ := ok
  simp only [LinkD.v, linkB] at *
  have h1 := fun w => impl_NameRight to_ w k1
  have h2 := fun w => impl_NameRight name w k2
  generalize nameB to_ = b1 at *
  generalize nameB name = b2 at *
  go_enter Tryz.func76, Tryz.ntmps76
  go_wp2_with fail
  refine (h1 _).mono ?_
  rintro e w1 ⟨rfl, rfl⟩
  cases b1
  case false =>
    go_wp2
    go_ret
    exact ⟨ret_bool (by simp), (Below.refl _ _).alloc (Nat.le_refl _) _⟩
  go_wp2_with fail
  refine (h2 _).mono ?_
  rintro e w1 ⟨rfl, rfl⟩
  go_wp2
  go_ret
  exact ⟨ret_bool (by simp), (Below.refl _ _).alloc (Nat.le_refl _) _⟩
end Go.Proofs.YtbbhpfobcelbfaaGreatDoor
namespace Go.Proofs.YtbbhpfobcelbfaaGreatDoor
open Go.RowKit

theorem all_no {α : Type} {l : List α} {p : α → Bool} {k : Nat} {x : α} (hk : l[k]? = some x) (h : p x = false) : l.all p = false := by
  rw [List.all_eq_false]
  exact ⟨x, List.mem_of_getElem? hk, by simp [h]⟩
theorem all_yes {α : Type} {l : List α} {p : α → Bool} (h : ∀ j, j < l.length → ∀ x, l[j]? = some x → p x = true) : l.all p = true := by
  rw [List.all_eq_true]
  intro x hx
  obtain ⟨j, hj⟩ := List.getElem?_of_mem hx
  exact h j (List.getElem?_eq_some_iff.mp hj).1 x hj
set_option maxHeartbeats 2000000 in
theorem impl_allRule (l : List RuleD) (a : Option Addr) (cap : Nat) (w : World) (hE : EnvZ w) (hA : SeqAt w a 9 (l.map RuleD.cs)) (hok : ∀ r ∈ l, r.ok) (hz : ∀ r ∈ l, r.on.size ≤ 1048576) (hl : l.length ≤ 1048576) :
    Calls Tryz.prog 71 #[.slice a l.length cap, .func (.func 72) #[] #[]] w fun e w' => e = .returned (.bool (l.all ruleB)) ∧ Below w.heap.size w w' := by
  go_enter Tryz.func71, Tryz.ntmps71
  go_wp2
  go_loopw [9] (fun i wr => ∃ k : Nat, k ≤ l.length ∧ i = .int .i64 k ∧ Hid (∀ j, j < k → ∀ x, l[j]? = some x → ruleB x = true) ∧ Below w.heap.size w wr) (fun i _ => l.length - (intOf i).toNat)
  case atStart => exact ⟨0, by omega, rfl, fun j hj => by omega, Below.refl _ _⟩
  case round =>
    obtain ⟨k, hk, rfl, hall, hB⟩ := hrel
    by_cases hlt : k < l.length
    · obtain ⟨r, hr⟩ : ∃ r, l[k]? = some r := ⟨_, List.getElem?_eq_getElem hlt⟩
      have hrow : (l.map RuleD.cs)[k]? = some r.cs := by rw [List.getElem?_map, hr]; rfl
      obtain ⟨b, o, rfl, hc⟩ := (hA.below hB).at (i := k) hrow
      have ok := hok r (List.mem_of_getElem? hr)
      have hS := fun w (h : EnvZ w) => impl_ruleRight r w h ok (hz r (List.mem_of_getElem? hr))
      have hE1 := hE.of_below hB
      have c0 : wr.cell? ⟨b, o + k * 9, none⟩ = some (.string r.name) := hc 0 _ rfl
      have c1 := hc 1 _ rfl
      have c2 := hc 2 _ rfl
      have c3 := hc 3 _ rfl
      have c4 := hc 4 _ rfl
      have c5 := hc 5 _ rfl
      have c6 := hc 6 _ rfl
      have c7 := hc 7 _ rfl
      have c8 := hc 8 _ rfl
      clear hc
      unfold RuleD.v at hS
      cases hb : ruleB r
      · have HR : Hid (l.all ruleB = false) := all_no hr hb
        rw [hb] at hS
        clear hb
        go_wp2_with fail
        refine (hS _ (hE1.alloc _)).mono ?_
        rintro e w2 ⟨rfl, hb2⟩
        go_wp2
        go_ret
        exact ⟨ret_bool HR.out.symm, (hB.alloc hB.size _).trans (hb2.mono (by simp; have := hB.size; omega))⟩
      · have HR : Hid (∀ j, j < k + 1 → ∀ x, l[j]? = some x → ruleB x = true) := fun j hj x hx => by
          by_cases e : j = k
          · subst e; rw [hr] at hx; obtain rfl := Option.some.inj hx; exact hb
          · exact hall.out j (by omega) x hx
        rw [hb] at hS
        clear hb
        go_wp2_with fail
        refine (hS _ (hE1.alloc _)).mono ?_
        rintro e w2 ⟨rfl, hb2⟩
        go_wp2
        go_roundw
        case rel => exact ⟨k + 1, by omega, by go_num, HR, (hB.alloc hB.size _).trans (hb2.mono (by simp; have := hB.size; omega))⟩
        case measure => simp [intOf]; omega
    · have e : k = l.length := by omega
      subst e
      have HR : Hid (l.all ruleB = true) := all_yes hall.out
      go_wp2
      go_ret
      exact ⟨ret_bool HR.out.symm, hB⟩
set_option maxHeartbeats 2000000 in
theorem impl_allEra (l : List EraD) (a : Option Addr) (cap : Nat) (w : World) (hA : SeqAt w a 6 (l.map EraD.cs)) (hok : ∀ r ∈ l, r.ok) (hl : l.length ≤ 1048576) :
    Calls Tryz.prog 126 #[.slice a l.length cap, .func (.func 127) #[] #[]] w fun e w' => e = .returned (.bool (l.all eraP)) ∧ Below w.heap.size w w' := by
  go_enter Tryz.func126, Tryz.ntmps126
  go_wp2
  go_loopw [9] (fun i wr => ∃ k : Nat, k ≤ l.length ∧ i = .int .i64 k ∧ Hid (∀ j, j < k → ∀ x, l[j]? = some x → eraP x = true) ∧ Below w.heap.size w wr) (fun i _ => l.length - (intOf i).toNat)
  case atStart => exact ⟨0, by omega, rfl, fun j hj => by omega, Below.refl _ _⟩
  case round =>
    obtain ⟨k, hk, rfl, hall, hB⟩ := hrel
    by_cases hlt : k < l.length
    · obtain ⟨r, hr⟩ : ∃ r, l[k]? = some r := ⟨_, List.getElem?_eq_getElem hlt⟩
      have hrow : (l.map EraD.cs)[k]? = some r.cs := by rw [List.getElem?_map, hr]; rfl
      obtain ⟨b, o, rfl, hc⟩ := (hA.below hB).at (i := k) hrow
      have ok := hok r (List.mem_of_getElem? hr)
      have hS := fun w => impl_eraRight r w ok
      have c0 : wr.cell? ⟨b, o + k * 6, none⟩ = some (.int .i64 r.offset) := hc 0 _ rfl
      have c1 := hc 1 _ rfl
      have c2 := hc 2 _ rfl
      have c3 := hc 3 _ rfl
      have c4 := hc 4 _ rfl
      have c5 := hc 5 _ rfl
      clear hc
      unfold EraD.v at hS
      cases hb : eraP r
      · have HR : Hid (l.all eraP = false) := all_no hr hb
        rw [hb] at hS
        clear hb
        go_wp2_with fail
        refine (hS _).mono ?_
        rintro e w2 ⟨rfl, hb2⟩
        go_wp2
        go_ret
        exact ⟨ret_bool HR.out.symm, (hB.alloc hB.size _).trans (hb2.mono (by simp; have := hB.size; omega))⟩
      · have HR : Hid (∀ j, j < k + 1 → ∀ x, l[j]? = some x → eraP x = true) := fun j hj x hx => by
          by_cases e : j = k
          · subst e; rw [hr] at hx; obtain rfl := Option.some.inj hx; exact hb
          · exact hall.out j (by omega) x hx
        rw [hb] at hS
        clear hb
        go_wp2_with fail
        refine (hS _).mono ?_
        rintro e w2 ⟨rfl, hb2⟩
        go_wp2
        go_roundw
        case rel => exact ⟨k + 1, by omega, by go_num, HR, (hB.alloc hB.size _).trans (hb2.mono (by simp; have := hB.size; omega))⟩
        case measure => simp [intOf]; omega
    · have e : k = l.length := by omega
      subst e
      have HR : Hid (l.all eraP = true) := all_yes hall.out
      go_wp2
      go_ret
      exact ⟨ret_bool HR.out.symm, hB⟩
set_option maxHeartbeats 2000000 in
theorem impl_allLink (l : List LinkD) (a : Option Addr) (cap : Nat) (w : World) (hA : SeqAt w a 2 (l.map LinkD.cs)) (hok : ∀ r ∈ l, r.ok) (hl : l.length ≤ 1048576) :
    Calls Tryz.prog 75 #[.slice a l.length cap, .func (.func 76) #[] #[]] w fun e w' => e = .returned (.bool (l.all linkB)) ∧ Below w.heap.size w w' := by
  go_enter Tryz.func75, Tryz.ntmps75
  go_wp2
  go_loopw [9] (fun i wr => ∃ k : Nat, k ≤ l.length ∧ i = .int .i64 k ∧ Hid (∀ j, j < k → ∀ x, l[j]? = some x → linkB x = true) ∧ Below w.heap.size w wr) (fun i _ => l.length - (intOf i).toNat)
  case atStart => exact ⟨0, by omega, rfl, fun j hj => by omega, Below.refl _ _⟩
  case round =>
    obtain ⟨k, hk, rfl, hall, hB⟩ := hrel
    by_cases hlt : k < l.length
    · obtain ⟨r, hr⟩ : ∃ r, l[k]? = some r := ⟨_, List.getElem?_eq_getElem hlt⟩
      have hrow : (l.map LinkD.cs)[k]? = some r.cs := by rw [List.getElem?_map, hr]; rfl
      obtain ⟨b, o, rfl, hc⟩ := (hA.below hB).at (i := k) hrow
      have ok := hok r (List.mem_of_getElem? hr)
      have hS := fun w => impl_linkRight r w ok
      have c0 : wr.cell? ⟨b, o + k * 2, none⟩ = some (.string r.to_) := hc 0 _ rfl
      have c1 := hc 1 _ rfl
      clear hc
      unfold LinkD.v at hS
      cases hb : linkB r
      · have HR : Hid (l.all linkB = false) := all_no hr hb
        rw [hb] at hS
        clear hb
        go_wp2_with fail
        refine (hS _).mono ?_
        rintro e w2 ⟨rfl, hb2⟩
        go_wp2
        go_ret
        exact ⟨ret_bool HR.out.symm, (hB.alloc hB.size _).trans (hb2.mono (by simp; have := hB.size; omega))⟩
      · have HR : Hid (∀ j, j < k + 1 → ∀ x, l[j]? = some x → linkB x = true) := fun j hj x hx => by
          by_cases e : j = k
          · subst e; rw [hr] at hx; obtain rfl := Option.some.inj hx; exact hb
          · exact hall.out j (by omega) x hx
        rw [hb] at hS
        clear hb
        go_wp2_with fail
        refine (hS _).mono ?_
        rintro e w2 ⟨rfl, hb2⟩
        go_wp2
        go_roundw
        case rel => exact ⟨k + 1, by omega, by go_num, HR, (hB.alloc hB.size _).trans (hb2.mono (by simp; have := hB.size; omega))⟩
        case measure => simp [intOf]; omega
    · have e : k = l.length := by omega
      subst e
      have HR : Hid (l.all linkB = true) := all_yes hall.out
      go_wp2
      go_ret
      exact ⟨ret_bool HR.out.symm, hB⟩
end Go.Proofs.YtbbhpfobcelbfaaGreatDoor
namespace Go.Proofs.YtbbhpfobcelbfaaGreatDoor
open Go.RowKit

/-- the untils rise, from one on. -/
def upB : List EraD → Bool
  | [] => true
  | [_] => true
  | x :: y :: l => decide (x.until_ < y.until_) && upB (y :: l)
theorem up_no {es : List EraD} : ∀ {i : Nat} {x y : EraD}, es[i]? = some x → es[i + 1]? = some y → ¬ x.until_ < y.until_ → upB es = false := by
  induction es with
  | nil => intro i x y h; simp at h
  | cons a l ih =>
    intro i x y hx hy hn
    match l, i with
    | [], _ => simp at hy
    | b :: l, 0 =>
      simp at hx hy
      subst hx hy
      simp [upB, hn]
    | b :: l, i + 1 =>
      have := ih (i := i) (x := x) (y := y) (by simpa using hx) (by simpa using hy) hn
      simp only [upB, this, Bool.and_false]
theorem up_yes {es : List EraD} (h : ∀ i x y, es[i]? = some x → es[i + 1]? = some y → x.until_ < y.until_) : upB es = true := by
  induction es with
  | nil => rfl
  | cons a l ih =>
    match l with
    | [] => rfl
    | b :: l =>
      have h0 := h 0 a b rfl rfl
      have := ih fun i x y hx hy => h (i + 1) x y (by simpa using hx) (by simpa using hy)
      simp only [upB, this, decide_eq_true h0, Bool.and_true]
def laB2 (es : List EraD) : Bool := match es[es.length - 1]? with
  | some e => (e.until_ == 253402300799) && (e.of.toList == [119])
  | none => false
def zoneP (z : ZoneD) : Bool := nameB z.name && (decide (1 ≤ z.eras.length ∧ z.eras.length ≤ 8) && (z.eras.all eraP && (upB z.eras && laB2 z.eras)))
theorem zone_no1 {z : ZoneD} (h : nameB z.name = false) : zoneP z = false := by unfold zoneP; rw [h]; rfl
theorem zone_no2 {z : ZoneD} (h : ¬ (1 ≤ z.eras.length ∧ z.eras.length ≤ 8)) : zoneP z = false := by unfold zoneP; rw [decide_eq_false h]; simp
theorem zone_no3 {z : ZoneD} (h : z.eras.all eraP = false) : zoneP z = false := by unfold zoneP; rw [h]; simp
theorem zone_no4 {z : ZoneD} (h : upB z.eras = false) : zoneP z = false := by unfold zoneP; rw [h]; simp
theorem zone_yes {z : ZoneD} (h1 : nameB z.name = true) (h2 : 1 ≤ z.eras.length ∧ z.eras.length ≤ 8) (h3 : z.eras.all eraP = true) (h4 : upB z.eras = true) : zoneP z = laB2 z.eras := by unfold zoneP; rw [h1, decide_eq_true h2, h3, h4]; simp
set_option maxHeartbeats 2000000 in
theorem impl_zoneRight (z : ZoneD) (v : Value) (w : World) (hv : EraSl w v z.eras) (hm : z.ok) :
    Calls Tryz.prog 74 #[.agg #[.string z.name, v]] w fun e w' => e = .returned (.bool (zoneP z)) ∧ Below w.heap.size w w' := by
  obtain ⟨a, cap, rfl, hA⟩ := hv
  obtain ⟨m1, m2, m3⟩ := hm
  have h1 := fun w => impl_NameRight z.name w m1
  have hB0 := fun o => (Below.refl w.heap.size w).alloc (Nat.le_refl _) o
  unfold maxLen at m2
  cases hn : nameB z.name
  · rw [zone_no1 hn]
    rw [hn] at h1
    generalize z.name = nm at *
    clear hn
    go_enter Tryz.func74, Tryz.ntmps74
    go_wp2_with (go_at_call 121; refine (h1 _).mono ?_; rintro e w' ⟨rfl, rfl⟩)
    go_ret
    exact ⟨rfl, hB0 _⟩
  rw [hn] at h1
  by_cases hl0 : z.eras.length < 1
  · rw [zone_no2 (by omega)]
    go_enter Tryz.func74, Tryz.ntmps74
    go_wp2_with (go_at_call 121; refine (h1 _).mono ?_; rintro e w' ⟨rfl, rfl⟩)
    go_ret
    exact ⟨rfl, hB0 _⟩
  by_cases hl8 : 8 < z.eras.length
  · rw [zone_no2 (by omega)]
    go_enter Tryz.func74, Tryz.ntmps74
    go_wp2_with (go_at_call 121; refine (h1 _).mono ?_; rintro e w' ⟨rfl, rfl⟩)
    go_ret
    exact ⟨rfl, hB0 _⟩
  have h2 := fun w (h : SeqAt w a 6 (z.eras.map EraD.cs)) => impl_allEra z.eras a cap w h m3 (by omega)
  cases ha : z.eras.all eraP
  · rw [zone_no3 ha]
    rw [ha] at h2
    clear ha
    go_enter Tryz.func74, Tryz.ntmps74
    go_wp2_with fail
    refine (h1 _).mono ?_
    rintro e w1 ⟨rfl, rfl⟩
    go_wp2_with fail
    refine (h2 _ (hA.below (hB0 _))).mono ?_
    rintro e w1 ⟨rfl, hb1⟩
    go_wp2
    go_ret
    exact ⟨rfl, (hB0 _).trans (hb1.mono (by simp))⟩
  rw [ha] at h2
  have HZ : Hid (upB z.eras = true → zoneP z = laB2 z.eras) := fun h => zone_yes hn (by omega) ha h
  have HN : Hid (upB z.eras = false → zoneP z = false) := fun h => zone_no4 h
  clear hn ha
  generalize zoneP z = zb at *
  go_enter Tryz.func74, Tryz.ntmps74
  go_wp2_with fail
  refine (h1 _).mono ?_
  rintro e w1 ⟨rfl, rfl⟩
  go_wp2_with fail
  refine (h2 _ (hA.below (hB0 _))).mono ?_
  rintro e w1 ⟨rfl, hb1⟩
  obtain ⟨hc, _⟩ := bcell hb1
  have hB1 := (hB0 _).trans (hb1.mono (by simp))
  have x1 : w1.cell? ⟨w.heap.size, 1, none⟩ = some (.slice a z.eras.length cap) := (hc _ _ (by simp)).trans (by simp [go_sem])
  have hA1 := hA.below hB1
  clear hc hb1 h1 h2
  obtain ⟨n, hlen⟩ : ∃ n, z.eras.length = n + 1 := ⟨z.eras.length - 1, by omega⟩
  go_wp2
  go_loopw [28] (fun i wr => ∃ k : Nat, k ≤ n ∧ i = .int .i64 k ∧ Hid (∀ j, j < k → ∀ x y, z.eras[j]? = some x → z.eras[j + 1]? = some y → x.until_ < y.until_) ∧ Below w1.heap.size w1 wr) (fun i _ => n - (intOf i).toNat)
  case atStart => exact ⟨0, by omega, rfl, fun j hj => by omega, Below.refl _ _⟩
  case round =>
    obtain ⟨k, hk, rfl, hall, hB⟩ := hrel
    have y1 : wr.cell? ⟨w.heap.size, 1, none⟩ = some (.slice a z.eras.length cap) := by rw [(bcell hB).1 _ _ (World.block_lt_of_cell? _ _ x1)]; exact x1
    have hBB := hB1.trans (hB.mono hB1.size)
    by_cases hlt : k < n
    · obtain ⟨r, hr⟩ : ∃ r, z.eras[k]? = some r := ⟨_, List.getElem?_eq_getElem (by omega)⟩
      obtain ⟨r2, hr2⟩ : ∃ r, z.eras[k + 1]? = some r := ⟨_, List.getElem?_eq_getElem (by omega)⟩
      obtain ⟨b, o, rfl, hc⟩ := (hA1.below hB).at (i := k) (r := r.cs) (by rw [List.getElem?_map, hr]; rfl)
      obtain ⟨b', o', he, hd⟩ := (hA1.below hB).at (i := k + 1) (r := r2.cs) (by rw [List.getElem?_map, hr2]; rfl)
      injection he with he
      injection he with e1 e2
      subst e1 e2
      have c4 := hc 4 _ rfl
      have d4 := hd 4 _ rfl
      clear hc hd
      by_cases hu : r.until_ < r2.until_
      · have HR : Hid (∀ j, j < k + 1 → ∀ x y, z.eras[j]? = some x → z.eras[j + 1]? = some y → x.until_ < y.until_) := fun j hj x y hx hy => by
          by_cases e : j = k
          · subst e; rw [hr] at hx; rw [hr2] at hy; obtain rfl := Option.some.inj hx; obtain rfl := Option.some.inj hy; exact hu
          · exact hall.out j (by omega) x y hx hy
        go_wp2_with fail
        go_quiet (fail)
        go_wp2
        go_roundw
        case rel => exact ⟨k + 1, by omega, by go_num, HR, below_drewN hB _⟩
        case measure => simp [intOf]; omega
      · have HR : Hid (zb = false) := HN.out (up_no hr hr2 hu)
        go_wp2_with fail
        go_quiet (fail)
        go_wp2
        go_ret
        exact ⟨ret_bool HR.out.symm, below_drewN hBB _⟩
    · have e : k = n := by omega
      subst e
      obtain ⟨r, hr⟩ : ∃ r, z.eras[k]? = some r := ⟨_, List.getElem?_eq_getElem (by omega)⟩
      obtain ⟨b, o, rfl, hc⟩ := (hA1.below hB).at (i := k) (r := r.cs) (by rw [List.getElem?_map, hr]; rfl)
      have c4 := hc 4 _ rfl
      have c5 := hc 5 _ rfl
      clear hc
      have HR : Hid (zb = ((r.until_ == 253402300799) && (r.of.toList == [119]))) := by
        simp only [Hid]
        rw [HZ.out (up_yes fun i x y hx hy => hall.out i (by have := (List.getElem?_eq_some_iff.mp hy).1; omega) x y hx hy)]
        unfold laB2
        rw [show z.eras.length - 1 = k by omega, hr]
      cases g : (r.until_ == 253402300799)
      · rw [g] at HR
        go_wp2
        go_ret
        exact ⟨ret_bool HR.out.symm, hBB⟩
      · rw [g] at HR
        go_wp2
        go_ret
        exact ⟨ret_bool (by rw [HR.out]; simp), hBB⟩
end Go.Proofs.YtbbhpfobcelbfaaGreatDoor
namespace Go.Proofs.YtbbhpfobcelbfaaGreatDoor
open Go.RowKit

theorem any_yes {α : Type} {l : List α} {p : α → Bool} {k : Nat} {x : α} (hk : l[k]? = some x) (h : p x = true) : l.any p = true := by
  rw [List.any_eq_true]
  exact ⟨x, List.mem_of_getElem? hk, h⟩
theorem any_no {α : Type} {l : List α} {p : α → Bool} (h : ∀ j, j < l.length → ∀ x, l[j]? = some x → p x = false) : l.any p = false := by
  rw [List.any_eq_false]
  intro x hx
  obtain ⟨j, hj⟩ := List.getElem?_of_mem hx
  simp [h j (List.getElem?_eq_some_iff.mp hj).1 x hj]
/-- is there a rule of that name. -/
def hasB (rs : List RuleD) (s : ByteArray) : Bool := rs.any fun x => x.name.toList == s.toList
set_option maxHeartbeats 2000000 in
theorem spec_l02Rules (r : RelD) (v : Value) (s : ByteArray) (w : World) (hv : RelAt w v r) (hl : r.rules.length ≤ 1048576) :
    Calls Tryz.prog 186 #[v, .string s] w fun e w' => e = .returned (.bool (hasB r.rules s)) ∧ Below w.heap.size w w' := by
  obtain ⟨a, b, c, ca, cb, cc, rfl, hA, _, _⟩ := hv.form
  generalize r.rules = l at *
  generalize r.zones.length = zn at *
  generalize r.links.length = ln at *
  clear hv
  have hB := (Below.refl w.heap.size w).alloc (Nat.le_refl _) (.cells #[.slice a l.length ca, .slice b zn cb, .slice c ln cc] 27)
  have hA1 := hA.below hB
  unfold hasB
  go_enter Tryz.func186, Tryz.ntmps186
  go_wp2
  go_loop [5] (fun i => ∃ k : Nat, k ≤ l.length ∧ i = .int .i64 k ∧ Hid (∀ j, j < k → ∀ x, l[j]? = some x → (x.name.toList == s.toList) = false)) (fun i => l.length - (intOf i).toNat)
  case atStart => exact ⟨0, by omega, rfl, fun j hj => by omega⟩
  case round =>
    obtain ⟨k, hk, rfl, hall⟩ := hrel
    by_cases hlt : k < l.length
    · obtain ⟨x, hx⟩ : ∃ x, l[k]? = some x := ⟨_, List.getElem?_eq_getElem hlt⟩
      obtain ⟨b', o, rfl, hc⟩ := hA1.at (i := k) (r := x.cs) (by rw [List.getElem?_map, hx]; rfl)
      have c0 : (w.alloc (.cells #[.slice (some ⟨b', o, none⟩) l.length ca, .slice b zn cb, .slice c ln cc] 27)).cell? ⟨b', o + k * 9, none⟩ = some (.string x.name) := hc 0 _ rfl
      clear hc
      cases hb : (x.name.toList == s.toList)
      · have HR : Hid (∀ j, j < k + 1 → ∀ x, l[j]? = some x → (x.name.toList == s.toList) = false) := fun j hj y hy => by
          by_cases e : j = k
          · subst e; rw [hx] at hy; obtain rfl := Option.some.inj hy; exact hb
          · exact hall.out j (by omega) y hy
        generalize x.name = nm at *
        go_wp2
        go_round
        case rel => exact ⟨k + 1, by omega, by go_num, HR⟩
        case measure => simp [intOf]; omega
      · have HR : Hid ((l.any fun x => x.name.toList == s.toList) = true) := any_yes hx hb
        generalize x.name = nm at *
        go_wp2
        go_ret
        exact ⟨ret_bool HR.out.symm, hB⟩
    · have e : k = l.length := by omega
      subst e
      have HR : Hid ((l.any fun x => x.name.toList == s.toList) = false) := any_no hall.out
      go_wp2
      go_ret
      exact ⟨ret_bool HR.out.symm, hB⟩
end Go.Proofs.YtbbhpfobcelbfaaGreatDoor
namespace Go.Proofs.YtbbhpfobcelbfaaGreatDoor
open Go.RowKit

set_option maxHeartbeats 2000000 in
theorem impl_allZone (l : List ZoneD) (a : Option Addr) (cap : Nat) (w : World) (hA : ZonesAt w a l) (hok : ∀ r ∈ l, r.ok) (hl : l.length ≤ 1048576) :
    Calls Tryz.prog 73 #[.slice a l.length cap, .func (.func 74) #[] #[]] w fun e w' => e = .returned (.bool (l.all zoneP)) ∧ Below w.heap.size w w' := by
  go_enter Tryz.func73, Tryz.ntmps73
  go_wp2
  go_loopw [9] (fun i wr => ∃ k : Nat, k ≤ l.length ∧ i = .int .i64 k ∧ Hid (∀ j, j < k → ∀ x, l[j]? = some x → zoneP x = true) ∧ Below w.heap.size w wr) (fun i _ => l.length - (intOf i).toNat)
  case atStart => exact ⟨0, by omega, rfl, fun j hj => by omega, Below.refl _ _⟩
  case round =>
    obtain ⟨k, hk, rfl, hall, hB⟩ := hrel
    by_cases hlt : k < l.length
    · obtain ⟨r, hr⟩ : ∃ r, l[k]? = some r := ⟨_, List.getElem?_eq_getElem hlt⟩
      obtain ⟨b, o, rfl, c0, v, c1, hv⟩ := (hA.below hB).at hr
      have ok := hok r (List.mem_of_getElem? hr)
      have hS := fun o => impl_zoneRight r v (wr.alloc o) (hv.below ((Below.refl _ _).alloc (Nat.le_refl _) o)) ok
      obtain ⟨ae, ce, rfl, _⟩ := hv
      generalize r.eras.length = en at *
      cases hb : zoneP r
      · have HR : Hid (l.all zoneP = false) := all_no hr hb
        rw [hb] at hS
        clear hb
        go_wp2_with fail
        refine (hS _).mono ?_
        rintro e w2 ⟨rfl, hb2⟩
        go_wp2
        go_ret
        exact ⟨ret_bool HR.out.symm, (hB.alloc hB.size _).trans (hb2.mono (by simp; have := hB.size; omega))⟩
      · have HR : Hid (∀ j, j < k + 1 → ∀ x, l[j]? = some x → zoneP x = true) := fun j hj x hx => by
          by_cases e : j = k
          · subst e; rw [hr] at hx; obtain rfl := Option.some.inj hx; exact hb
          · exact hall.out j (by omega) x hx
        rw [hb] at hS
        clear hb
        go_wp2_with fail
        refine (hS _).mono ?_
        rintro e w2 ⟨rfl, hb2⟩
        go_wp2
        go_roundw
        case rel => exact ⟨k + 1, by omega, by go_num, HR, (hB.alloc hB.size _).trans (hb2.mono (by simp; have := hB.size; omega))⟩
        case measure => simp [intOf]; omega
    · have e : k = l.length := by omega
      subst e
      have HR : Hid (l.all zoneP = true) := all_yes hall.out
      go_wp2
      go_ret
      exact ⟨ret_bool HR.out.symm, hB⟩
/-- an era, as the model asks of it. -/
def eraM (rs : List RuleD) (e : EraD) : Bool := (e.rules.toList.isEmpty || (decide (e.save = 0) && hasB rs e.rules)) && (isB e.offset (-86400) 86400 && (isB e.save (-7200) 7200 && (fmtB e.format && (isB e.until_ (-62135596800) 253402300799 && ofB e.of))))
set_option maxHeartbeats 400000 in
theorem spec_l01TimeZ (n : Int) (w : World) :
    Calls Tryz.prog 188 #[.int .i64 n] w fun e w' => e = .returned (.bool (isB n (-62135596800) 253402300799)) ∧ w' = w := by
  go_enter Tryz.func188, Tryz.ntmps188
  go_wp2_with (go_at_call 38; refine (spec_l01Is _ _ _ _).mono ?_; rintro e w' ⟨rfl, rfl⟩)
  go_ret
  exact ⟨rfl, rfl⟩
set_option maxHeartbeats 2000000 in
theorem spec_l02Era (r : RelD) (v : Value) (e : EraD) (w : World) (hv : RelAt w v r) (ok : e.ok) (hl : r.rules.length ≤ 1048576) :
    Calls Tryz.prog 142 #[v, e.v] w fun x w' => x = .returned (.bool (eraM r.rules e)) ∧ Below w.heap.size w w' := by
  have hB0 := fun o o2 => ((Below.refl w.heap.size w).alloc (Nat.le_refl _) o).alloc (by simp) o2
  have hR := fun s o o2 => spec_l02Rules r v s ((w.alloc o).alloc o2) (hv.below (hB0 o o2)) hl
  obtain ⟨a, b, c, ca, cb, cc, rfl, _, _, _⟩ := hv.form
  generalize r.rules.length = rn at *
  generalize r.zones.length = zn at *
  generalize r.links.length = ln at *
  clear hv
  obtain ⟨offset, rules, save, format, until_, of⟩ := e
  obtain ⟨k1, k2, k3⟩ := ok
  simp only [EraD.v, eraM] at *
  have h1 := fun w => spec_l01Is offset (-86400) 86400 w
  have h2 := fun w => spec_l02Save save w
  have h3 := fun w => spec_l02Format format w k2
  have h4 := fun w => spec_l01TimeZ until_ w
  have h5 := fun w => spec_l02Of of w
  have hR1 := hR rules
  clear hR
  generalize hasB r.rules rules = q at *
  generalize isB offset (-86400) 86400 = b1 at *
  generalize isB save (-7200) 7200 = b2 at *
  generalize fmtB format = b3 at *
  generalize isB until_ (-62135596800) 253402300799 = b4 at *
  generalize ofB of = b5 at *
  cases he : rules.toList.isEmpty
  · by_cases hs : save = 0
    · subst hs
      cases q
      · go_enter Tryz.func142, Tryz.ntmps142
        go_wp2_with fail
        refine (hR1 _ _).mono ?_
        rintro e w1 ⟨rfl, hb1⟩
        go_wp2
        go_ret
        exact ⟨ret_bool (by simp), (hB0 _ _).trans (hb1.mono (by simp; omega))⟩
      · go_enter Tryz.func142, Tryz.ntmps142
        go_wp2_with fail
        refine (hR1 _ _).mono ?_
        rintro e w1 ⟨rfl, hb1⟩
        obtain ⟨hc, _⟩ := bcell hb1
        have hlt : w.heap.size + 1 < w1.heap.size := by have := hb1.size; simp at this; omega
        have hB1 := (hB0 _ _).trans (hb1.mono (by simp; omega))
        go_wp2_with fail
        refine (h1 _).mono ?_
        rintro e w9 ⟨rfl, rfl⟩
        cases b1
        case false =>
          go_wp2
          go_ret
          exact ⟨ret_bool (by simp), hB1⟩
        go_wp2_with fail
        refine (h2 _).mono ?_
        rintro e w9 ⟨rfl, rfl⟩
        cases b2
        case false =>
          go_wp2
          go_ret
          exact ⟨ret_bool (by simp), hB1⟩
        go_wp2_with fail
        refine (h3 _).mono ?_
        rintro e w9 ⟨rfl, rfl⟩
        cases b3
        case false =>
          go_wp2
          go_ret
          exact ⟨ret_bool (by simp), hB1⟩
        go_wp2_with fail
        refine (h4 _).mono ?_
        rintro e w9 ⟨rfl, rfl⟩
        cases b4
        case false =>
          go_wp2
          go_ret
          exact ⟨ret_bool (by simp), hB1⟩
        go_wp2_with fail
        refine (h5 _).mono ?_
        rintro e w9 ⟨rfl, rfl⟩
        go_wp2
        go_ret
        exact ⟨ret_bool (by simp), hB1⟩
    · have hs' : (save != 0) = true := by simpa using hs
      go_enter Tryz.func142, Tryz.ntmps142
      go_wp2
      go_ret
      exact ⟨ret_bool (by simp [hs]), hB0 _ _⟩
  · go_enter Tryz.func142, Tryz.ntmps142
    go_wp2_with fail
    refine (h1 _).mono ?_
    rintro e w9 ⟨rfl, rfl⟩
    cases b1
    case false =>
      go_wp2
      go_ret
      exact ⟨ret_bool (by simp), hB0 _ _⟩
    go_wp2_with fail
    refine (h2 _).mono ?_
    rintro e w9 ⟨rfl, rfl⟩
    cases b2
    case false =>
      go_wp2
      go_ret
      exact ⟨ret_bool (by simp), hB0 _ _⟩
    go_wp2_with fail
    refine (h3 _).mono ?_
    rintro e w9 ⟨rfl, rfl⟩
    cases b3
    case false =>
      go_wp2
      go_ret
      exact ⟨ret_bool (by simp), hB0 _ _⟩
    go_wp2_with fail
    refine (h4 _).mono ?_
    rintro e w9 ⟨rfl, rfl⟩
    cases b4
    case false =>
      go_wp2
      go_ret
      exact ⟨ret_bool (by simp), hB0 _ _⟩
    go_wp2_with fail
    refine (h5 _).mono ?_
    rintro e w9 ⟨rfl, rfl⟩
    go_wp2
    go_ret
    exact ⟨ret_bool (by simp), hB0 _ _⟩
end Go.Proofs.YtbbhpfobcelbfaaGreatDoor
namespace Go.Proofs.YtbbhpfobcelbfaaGreatDoor
open Go.RowKit

/-- a list of texts in memory. -/
def StrsAt (w : World) (a : Option Addr) (ss : List ByteArray) : Prop :=
  ss = [] ∨ ∃ b o, a = some ⟨b, o, none⟩ ∧ ∀ i s, ss[i]? = some s → w.cell? ⟨b, o + i, none⟩ = some (.string s)
theorem StrsAt.at {w : World} {a : Option Addr} {ss : List ByteArray} (h : StrsAt w a ss) {i : Nat} {s : ByteArray} (hi : ss[i]? = some s) : ∃ b o, a = some ⟨b, o, none⟩ ∧ w.cell? ⟨b, o + i, none⟩ = some (.string s) := by
  rcases h with rfl | ⟨b, o, ha, hc⟩
  · simp at hi
  · exact ⟨b, o, ha, hc i s hi⟩
theorem StrsAt.below {w w' : World} {a : Option Addr} {ss : List ByteArray} (h : StrsAt w a ss) (hb : Below w.heap.size w w') : StrsAt w' a ss := by
  rcases h with h | ⟨b, o, ha, hc⟩
  · exact .inl h
  · exact .inr ⟨b, o, ha, fun i s hi => by
      have := hc i s hi
      rw [(bcell hb).1 _ _ (World.block_lt_of_cell? _ _ this)]; exact this⟩
theorem StrsAt.take {w : World} {a : Option Addr} {ss : List ByteArray} (h : StrsAt w a ss) (n : Nat) : StrsAt w a (ss.take n) := by
  rcases h with rfl | ⟨b, o, ha, hc⟩
  · exact .inl (by simp)
  · exact .inr ⟨b, o, ha, fun i s hi => hc i s (by rw [List.getElem?_take] at hi; split at hi <;> simp_all)⟩
def inB (ss : List ByteArray) (t : ByteArray) : Bool := ss.any fun s => s.toList == t.toList
set_option maxHeartbeats 2000000 in
theorem spec_l02In (l : List ByteArray) (a : Option Addr) (cap : Nat) (t : ByteArray) (w : World) (hA : StrsAt w a l) (hl : l.length ≤ 1048576) :
    Calls Tryz.prog 85 #[.slice a l.length cap, .string t] w fun e w' => e = .returned (.bool (inB l t)) ∧ w' = w := by
  unfold inB
  go_enter Tryz.func85, Tryz.ntmps85
  go_wp2
  go_loop [5] (fun i => ∃ k : Nat, k ≤ l.length ∧ i = .int .i64 k ∧ Hid (∀ j, j < k → ∀ x, l[j]? = some x → (x.toList == t.toList) = false)) (fun i => l.length - (intOf i).toNat)
  case atStart => exact ⟨0, by omega, rfl, fun j hj => by omega⟩
  case round =>
    obtain ⟨k, hk, rfl, hall⟩ := hrel
    by_cases hlt : k < l.length
    · obtain ⟨x, hx⟩ : ∃ x, l[k]? = some x := ⟨_, List.getElem?_eq_getElem hlt⟩
      obtain ⟨b, o, rfl, c0⟩ := hA.at hx
      cases hb : (x.toList == t.toList)
      · have HR : Hid (∀ j, j < k + 1 → ∀ x, l[j]? = some x → (x.toList == t.toList) = false) := fun j hj y hy => by
          by_cases e : j = k
          · subst e; rw [hx] at hy; obtain rfl := Option.some.inj hy; exact hb
          · exact hall.out j (by omega) y hy
        go_wp2
        go_round
        case rel => exact ⟨k + 1, by omega, by go_num, HR⟩
        case measure => simp [intOf]; omega
      · have HR : Hid ((l.any fun x => x.toList == t.toList) = true) := any_yes hx hb
        go_wp2
        go_ret
        exact ⟨ret_bool HR.out.symm, rfl⟩
    · have e : k = l.length := by omega
      subst e
      have HR : Hid ((l.any fun x => x.toList == t.toList) = false) := any_no hall.out
      go_wp2
      go_ret
      exact ⟨ret_bool HR.out.symm, rfl⟩
end Go.Proofs.YtbbhpfobcelbfaaGreatDoor
namespace Go.Proofs.YtbbhpfobcelbfaaGreatDoor
open Go.RowKit

set_option maxHeartbeats 400000 in
theorem impl_named (r : RuleD) (p : Nat) (s : ByteArray) (w : World) (hp : w.cell? ⟨p, 1, none⟩ = some (.string s)) :
    Calls Tryz.prog 130 #[r.v, .pointer (some ⟨p, 0, none⟩)] w fun e w' => e = .returned (.bool (r.name.toList == s.toList)) ∧ Below w.heap.size w w' := by
  have hlt := World.block_lt_of_cell? _ _ hp
  have hne : p ≠ w.heap.size := by simp at hlt; omega
  obtain ⟨name, lo, hi, month, on, at_, of, save, letter⟩ := r
  simp only [RuleD.v] at *
  go_enter Tryz.func130, Tryz.ntmps130
  go_wp2
  go_ret
  exact ⟨rfl, (Below.refl _ _).alloc (Nat.le_refl _) _⟩
set_option maxHeartbeats 2000000 in
theorem impl_indexRule (l : List RuleD) (a : Option Addr) (cap p : Nat) (s : ByteArray) (w : World) (hA : SeqAt w a 9 (l.map RuleD.cs)) (hl : l.length ≤ 1048576) (hp : w.cell? ⟨p, 1, none⟩ = some (.string s)) :
    Calls Tryz.prog 184 #[.slice a l.length cap, .func (.func 130) #[] #[.pointer (some ⟨p, 0, none⟩)]] w fun e w' => (∃ n : Int, e = .returned (.int .i64 n) ∧ decide (0 ≤ n) = hasB l s) ∧ Below w.heap.size w w' := by
  unfold hasB
  go_enter Tryz.func184, Tryz.ntmps184
  go_wp2
  go_loopw [8] (fun i wr => ∃ k : Nat, k ≤ l.length ∧ i = .int .i64 k ∧ Hid (∀ j, j < k → ∀ x, l[j]? = some x → (x.name.toList == s.toList) = false) ∧ Below w.heap.size w wr) (fun i _ => l.length - (intOf i).toNat)
  case atStart => exact ⟨0, by omega, rfl, fun j hj => by omega, Below.refl _ _⟩
  case round =>
    obtain ⟨k, hk, rfl, hall, hB⟩ := hrel
    by_cases hlt : k < l.length
    · obtain ⟨r, hr⟩ : ∃ r, l[k]? = some r := ⟨_, List.getElem?_eq_getElem hlt⟩
      obtain ⟨b, o, rfl, hc⟩ := (hA.below hB).at (i := k) (r := r.cs) (by rw [List.getElem?_map, hr]; rfl)
      have c0 : wr.cell? ⟨b, o + k * 9, none⟩ = some (.string r.name) := hc 0 _ rfl
      have c1 := hc 1 _ rfl
      have c2 := hc 2 _ rfl
      have c3 := hc 3 _ rfl
      have c4 := hc 4 _ rfl
      have c5 := hc 5 _ rfl
      have c6 := hc 6 _ rfl
      have c7 := hc 7 _ rfl
      have c8 := hc 8 _ rfl
      clear hc
      have hS := impl_named r p s wr (by rw [(bcell hB).1 _ _ (World.block_lt_of_cell? _ _ hp)]; exact hp)
      unfold RuleD.v at hS
      cases hb : (r.name.toList == s.toList)
      · have HR : Hid (∀ j, j < k + 1 → ∀ x, l[j]? = some x → (x.name.toList == s.toList) = false) := fun j hj x hx => by
          by_cases e : j = k
          · subst e; rw [hr] at hx; obtain rfl := Option.some.inj hx; exact hb
          · exact hall.out j (by omega) x hx
        rw [hb] at hS
        clear hb
        go_wp2_with fail
        refine hS.mono ?_
        rintro e w2 ⟨rfl, hb2⟩
        go_wp2
        go_roundw
        case rel => exact ⟨k + 1, by omega, by go_num, HR, hB.trans (hb2.mono hB.size)⟩
        case measure => simp [intOf]; omega
      · have HR : Hid ((l.any fun x => x.name.toList == s.toList) = true) := any_yes hr hb
        rw [hb] at hS
        clear hb
        go_wp2_with fail
        refine hS.mono ?_
        rintro e w2 ⟨rfl, hb2⟩
        go_wp2
        go_ret
        exact ⟨⟨_, rfl, by rw [HR.out]; simp⟩, hB.trans (hb2.mono hB.size)⟩
    · have e : k = l.length := by omega
      subst e
      have HR : Hid ((l.any fun x => x.name.toList == s.toList) = false) := any_no hall.out
      go_wp2
      go_ret
      exact ⟨⟨_, rfl, by rw [HR.out]; rfl⟩, hB⟩
set_option maxHeartbeats 400000 in
theorem impl_containsRule (l : List RuleD) (a : Option Addr) (cap p : Nat) (s : ByteArray) (w : World) (hA : SeqAt w a 9 (l.map RuleD.cs)) (hl : l.length ≤ 1048576) (hp : w.cell? ⟨p, 1, none⟩ = some (.string s)) :
    Calls Tryz.prog 131 #[.slice a l.length cap, .func (.func 130) #[] #[.pointer (some ⟨p, 0, none⟩)]] w fun e w' => e = .returned (.bool (hasB l s)) ∧ Below w.heap.size w w' := by
  have hI := impl_indexRule l a cap p s w hA hl hp
  generalize hasB l s = q at *
  go_enter Tryz.func131, Tryz.ntmps131
  go_wp2_with fail
  refine hI.mono ?_
  rintro e w1 ⟨⟨n, rfl, hn⟩, hb⟩
  go_wp2
  go_ret
  exact ⟨ret_bool (by simp), hb⟩
end Go.Proofs.YtbbhpfobcelbfaaGreatDoor
namespace Go.Proofs.YtbbhpfobcelbfaaGreatDoor
open Go.RowKit

/-- is there a zone of a name? -/
def hasZ (l : List ZoneD) (s : ByteArray) : Bool := l.any fun x => x.name.toList == s.toList
set_option maxHeartbeats 400000 in
theorem impl_namedZ (r : ZoneD) (v : Value) (p : Nat) (s : ByteArray) (w : World) (hp : w.cell? ⟨p, 0, none⟩ = some (.string s)) :
    Calls Tryz.prog 132 #[.agg #[.string r.name, v], .pointer (some ⟨p, 0, none⟩)] w fun e w' => e = .returned (.bool (r.name.toList == s.toList)) ∧ Below w.heap.size w w' := by
  have hlt := World.block_lt_of_cell? _ _ hp
  have hne : p ≠ w.heap.size := by simp at hlt; omega
  go_enter Tryz.func132, Tryz.ntmps132
  go_wp2
  go_ret
  exact ⟨rfl, (Below.refl _ _).alloc (Nat.le_refl _) _⟩
set_option maxHeartbeats 2000000 in
theorem impl_indexZone (l : List ZoneD) (a : Option Addr) (cap p : Nat) (s : ByteArray) (w : World) (hA : ZonesAt w a l) (hl : l.length ≤ 1048576) (hp : w.cell? ⟨p, 0, none⟩ = some (.string s)) :
    Calls Tryz.prog 185 #[.slice a l.length cap, .func (.func 132) #[] #[.pointer (some ⟨p, 0, none⟩)]] w fun e w' => (∃ n : Int, e = .returned (.int .i64 n) ∧ decide (0 ≤ n) = hasZ l s) ∧ Below w.heap.size w w' := by
  unfold hasZ
  go_enter Tryz.func185, Tryz.ntmps185
  go_wp2
  go_loopw [8] (fun i wr => ∃ k : Nat, k ≤ l.length ∧ i = .int .i64 k ∧ Hid (∀ j, j < k → ∀ x, l[j]? = some x → (x.name.toList == s.toList) = false) ∧ Below w.heap.size w wr) (fun i _ => l.length - (intOf i).toNat)
  case atStart => exact ⟨0, by omega, rfl, fun j hj => by omega, Below.refl _ _⟩
  case round =>
    obtain ⟨k, hk, rfl, hall, hB⟩ := hrel
    by_cases hlt : k < l.length
    · obtain ⟨r, hr⟩ : ∃ r, l[k]? = some r := ⟨_, List.getElem?_eq_getElem hlt⟩
      obtain ⟨b, o, rfl, c0, v, c1, hv⟩ := (hA.below hB).at hr
      have hS := impl_namedZ r v p s wr (by rw [(bcell hB).1 _ _ (World.block_lt_of_cell? _ _ hp)]; exact hp)
      obtain ⟨ae, ce, rfl, _⟩ := hv
      generalize r.eras.length = en at *
      cases hb : (r.name.toList == s.toList)
      · have HR : Hid (∀ j, j < k + 1 → ∀ x, l[j]? = some x → (x.name.toList == s.toList) = false) := fun j hj x hx => by
          by_cases e : j = k
          · subst e; rw [hr] at hx; obtain rfl := Option.some.inj hx; exact hb
          · exact hall.out j (by omega) x hx
        rw [hb] at hS
        clear hb
        go_wp2_with fail
        refine hS.mono ?_
        rintro e w2 ⟨rfl, hb2⟩
        go_wp2
        go_roundw
        case rel => exact ⟨k + 1, by omega, by go_num, HR, hB.trans (hb2.mono hB.size)⟩
        case measure => simp [intOf]; omega
      · have HR : Hid ((l.any fun x => x.name.toList == s.toList) = true) := any_yes hr hb
        rw [hb] at hS
        clear hb
        go_wp2_with fail
        refine hS.mono ?_
        rintro e w2 ⟨rfl, hb2⟩
        go_wp2
        go_ret
        exact ⟨⟨_, rfl, by rw [HR.out]; simp⟩, hB.trans (hb2.mono hB.size)⟩
    · have e : k = l.length := by omega
      subst e
      have HR : Hid ((l.any fun x => x.name.toList == s.toList) = false) := any_no hall.out
      go_wp2
      go_ret
      exact ⟨⟨_, rfl, by rw [HR.out]; rfl⟩, hB⟩
set_option maxHeartbeats 400000 in
theorem impl_containsZone (l : List ZoneD) (a : Option Addr) (cap p : Nat) (s : ByteArray) (w : World) (hA : ZonesAt w a l) (hl : l.length ≤ 1048576) (hp : w.cell? ⟨p, 0, none⟩ = some (.string s)) :
    Calls Tryz.prog 133 #[.slice a l.length cap, .func (.func 132) #[] #[.pointer (some ⟨p, 0, none⟩)]] w fun e w' => e = .returned (.bool (hasZ l s)) ∧ Below w.heap.size w w' := by
  have hI := impl_indexZone l a cap p s w hA hl hp
  generalize hasZ l s = q at *
  go_enter Tryz.func133, Tryz.ntmps133
  go_wp2_with fail
  refine hI.mono ?_
  rintro e w1 ⟨⟨n, rfl, hn⟩, hb⟩
  go_wp2
  go_ret
  exact ⟨ret_bool (by simp), hb⟩
end Go.Proofs.YtbbhpfobcelbfaaGreatDoor
namespace Go.Proofs.YtbbhpfobcelbfaaGreatDoor
open Go.RowKit

set_option maxHeartbeats 2000000 in
theorem impl_zonesThere (r : RelD) (v : Value) (w : World) (hv : RelAt w v r) (hz : r.zones.length ≤ 1048576) (hl : r.links.length ≤ 1048576) :
    Calls Tryz.prog 79 #[v] w fun e w' => e = .returned (.bool (r.links.all fun x => hasZ r.zones x.to_)) ∧ Below w.heap.size w w' := by
  obtain ⟨a, b, c, ca, cb, cc, rfl, _, hZ, hA⟩ := hv.form
  clear hv
  generalize r.rules.length = rn at *
  generalize r.links = l at *
  generalize r.zones = zs at *
  have hB0 := (Below.refl w.heap.size w).alloc (Nat.le_refl _) (.cells #[.slice a rn ca, .slice b zs.length cb, .slice c l.length cc] 27)
  have hA1 := hA.below hB0
  have hZ1 := hZ.below hB0
  have hown : (w.alloc (.cells #[.slice a rn ca, .slice b zs.length cb, .slice c l.length cc] 27)).cell? ⟨w.heap.size, 1, none⟩ = some (.slice b zs.length cb) := by simp
  go_enter Tryz.func79, Tryz.ntmps79
  go_wp2
  generalize hW : (w.alloc (.cells #[.slice a rn ca, .slice b zs.length cb, .slice c l.length cc] 27)) = W at *
  go_loopw [9] (fun i wr => ∃ k : Nat, k ≤ l.length ∧ i = .int .i64 k ∧ Hid (∀ j, j < k → ∀ x, l[j]? = some x → hasZ zs x.to_ = true) ∧ Below W.heap.size W wr) (fun i _ => l.length - (intOf i).toNat)
  case atStart => exact ⟨0, by omega, rfl, fun j hj => by omega, by subst hW; exact Below.refl _ _⟩
  case round =>
    obtain ⟨k, hk, rfl, hall, hB⟩ := hrel
    have hT : Below w.heap.size w wr := hB0.trans (hB.mono hB0.size)
    have ho : wr.cell? ⟨w.heap.size, 1, none⟩ = some (.slice b zs.length cb) := by rw [(bcell hB).1 _ _ (World.block_lt_of_cell? _ _ hown)]; exact hown
    by_cases hlt : k < l.length
    · obtain ⟨x, hx⟩ : ∃ x, l[k]? = some x := ⟨_, List.getElem?_eq_getElem hlt⟩
      obtain ⟨b', o, rfl, hc⟩ := (hA1.below hB).at (i := k) (r := x.cs) (by rw [List.getElem?_map, hx]; rfl)
      have c0 : wr.cell? ⟨b', o + k * 2, none⟩ = some (.string x.to_) := hc 0 _ rfl
      have c1 := hc 1 _ rfl
      clear hc
      have hl0 := World.block_lt_of_cell? _ _ ho
      have hB2 : Below W.heap.size W (wr.alloc (.cells #[.string x.to_, .string x.name] 118)) := hB.alloc hB.size _
      have hS := impl_containsZone zs b cb wr.heap.size x.to_ (wr.alloc (.cells #[.string x.to_, .string x.name] 118)) (hZ1.below hB2) hz (by simp)
      cases hb : hasZ zs x.to_
      · have HR : Hid ((l.all fun x => hasZ zs x.to_) = false) := all_no hx hb
        rw [hb] at hS
        clear hb
        go_wp2_with fail
        refine hS.mono ?_
        rintro e w2 ⟨rfl, hb2⟩
        go_wp2
        go_ret
        exact ⟨ret_bool HR.out.symm, hB0.trans ((hB2.trans (hb2.mono hB2.size)).mono hB0.size)⟩
      · have HR : Hid (∀ j, j < k + 1 → ∀ x, l[j]? = some x → hasZ zs x.to_ = true) := fun j hj y hy => by
          by_cases e : j = k
          · subst e; rw [hx] at hy; obtain rfl := Option.some.inj hy; exact hb
          · exact hall.out j (by omega) y hy
        rw [hb] at hS
        clear hb
        go_wp2_with fail
        refine hS.mono ?_
        rintro e w2 ⟨rfl, hb2⟩
        go_wp2
        go_roundw
        case rel => exact ⟨k + 1, by omega, by go_num, HR, hB2.trans (hb2.mono hB2.size)⟩
        case measure => simp [intOf]; omega
    · have e : k = l.length := by omega
      subst e
      have HR : Hid ((l.all fun x => hasZ zs x.to_) = true) := all_yes hall.out
      go_wp2
      go_ret
      exact ⟨ret_bool HR.out.symm, hT⟩
end Go.Proofs.YtbbhpfobcelbfaaGreatDoor
namespace Go.Proofs.YtbbhpfobcelbfaaGreatDoor
open Go.RowKit

/-- the rules of an era are there, if it names some. -/
def thereB (rs : List RuleD) (e : EraD) : Bool := e.rules.toList.isEmpty || hasB rs e.rules
set_option maxHeartbeats 4000000 in
theorem impl_rulesThere (r : RelD) (v : Value) (w : World) (hv : RelAt w v r) (hr : r.rules.length ≤ 1048576) (hz : r.zones.length ≤ 1048576) (hok : ∀ x ∈ r.zones, x.ok) :
    Calls Tryz.prog 78 #[v] w fun e w' => e = .returned (.bool (r.zones.all fun z => z.eras.all (thereB r.rules))) ∧ Below w.heap.size w w' := by
  obtain ⟨a, b, c, ca, cb, cc, rfl, hR, hA, _⟩ := hv.form
  clear hv
  generalize r.rules = rs at *
  generalize r.links.length = ln at *
  generalize r.zones = l at *
  have hB0 := (Below.refl w.heap.size w).alloc (Nat.le_refl _) (.cells #[.slice a rs.length ca, .slice b l.length cb, .slice c ln cc] 27)
  have hA1 := hA.below hB0
  have hR1 := hR.below hB0
  have hown : (w.alloc (.cells #[.slice a rs.length ca, .slice b l.length cb, .slice c ln cc] 27)).cell? ⟨w.heap.size, 0, none⟩ = some (.slice a rs.length ca) := by simp
  go_enter Tryz.func78, Tryz.ntmps78
  go_wp2
  generalize hW : (w.alloc (.cells #[.slice a rs.length ca, .slice b l.length cb, .slice c ln cc] 27)) = W at *
  go_loopw [11] (fun i wr => ∃ k : Nat, k ≤ l.length ∧ i = .int .i64 k ∧ Hid (∀ j, j < k → ∀ x, l[j]? = some x → x.eras.all (thereB rs) = true) ∧ Below W.heap.size W wr) (fun i _ => l.length - (intOf i).toNat)
  case atStart => exact ⟨0, by omega, rfl, fun j hj => by omega, by subst hW; exact Below.refl _ _⟩
  case round =>
    obtain ⟨k, hk, rfl, hall, hB⟩ := hrel
    have hT : Below w.heap.size w wr := hB0.trans (hB.mono hB0.size)
    by_cases hlt : k < l.length
    · obtain ⟨x, hx⟩ : ∃ x, l[k]? = some x := ⟨_, List.getElem?_eq_getElem hlt⟩
      obtain ⟨b', o, rfl, c0, v, c1, hv⟩ := (hA1.below hB).at hx
      have ok := (hok x (List.mem_of_getElem? hx)).2.1
      obtain ⟨ae, ce, rfl, hE⟩ := hv
      unfold maxLen at ok
      obtain ⟨nm, es⟩ := x
      simp only at *
      have hB2 : Below W.heap.size W (wr.alloc (.cells #[.string nm, .slice ae es.length ce] 49)) := hB.alloc hB.size _
      have hE2 : SeqAt (wr.alloc (.cells #[.string nm, .slice ae es.length ce] 49)) ae 6 (es.map EraD.cs) := hE.below ((Below.refl _ _).alloc (Nat.le_refl _) _)
      go_wp2
      generalize hV : (wr.alloc (.cells #[.string nm, .slice ae es.length ce] 49)) = V at *
      obtain ⟨wo, rfl⟩ : ∃ wo : World, wo = wr := ⟨_, rfl⟩
      go_loopw [18] (fun i wr => ∃ m : Nat, m ≤ es.length ∧ i = .int .i64 m ∧ Hid (∀ j, j < m → ∀ x, es[j]? = some x → thereB rs x = true) ∧ Below V.heap.size V wr) (fun i _ => es.length - (intOf i).toNat)
      case atStart => exact ⟨0, by omega, rfl, fun j hj => by omega, by subst hV; exact Below.refl _ _⟩
      case round =>
        obtain ⟨m, hm, rfl, hall2, hC⟩ := hrel
        have hBC : Below W.heap.size W wr := hB2.trans (hC.mono hB2.size)
        have ho : wr.cell? ⟨w.heap.size, 0, none⟩ = some (.slice a rs.length ca) := by rw [(bcell hBC).1 _ _ (World.block_lt_of_cell? _ _ hown)]; exact hown
        by_cases hlt2 : m < es.length
        · obtain ⟨y, hy⟩ : ∃ y, es[m]? = some y := ⟨_, List.getElem?_eq_getElem hlt2⟩
          obtain ⟨b2, o2, rfl, hc⟩ := (hE2.below hC).at (i := m) (r := y.cs) (by rw [List.getElem?_map, hy]; rfl)
          have d0 : wr.cell? ⟨b2, o2 + m * 6, none⟩ = some (.int .i64 y.offset) := hc 0 _ rfl
          have d1 := hc 1 _ rfl
          have d2 := hc 2 _ rfl
          have d3 := hc 3 _ rfl
          have d4 := hc 4 _ rfl
          have d5 := hc 5 _ rfl
          clear hc
          have hl0 := World.block_lt_of_cell? _ _ ho
          have hB3 : Below W.heap.size W (wr.alloc (.cells #[.int .i64 y.offset, .string y.rules, .int .i64 y.save, .string y.format, .int .i64 y.until_, .string y.of] 55)) := hBC.alloc hBC.size _
          have hC3 : Below V.heap.size V (wr.alloc (.cells #[.int .i64 y.offset, .string y.rules, .int .i64 y.save, .string y.format, .int .i64 y.until_, .string y.of] 55)) := hC.alloc hC.size _
          have hS := impl_containsRule rs a ca wr.heap.size y.rules (wr.alloc (.cells #[.int .i64 y.offset, .string y.rules, .int .i64 y.save, .string y.format, .int .i64 y.until_, .string y.of] 55)) (hR1.below hB3) hr (by simp)
          have hyes : thereB rs y = true → Hid (∀ j, j < m + 1 → ∀ x, es[j]? = some x → thereB rs x = true) := fun hb j hj z hz => by
            by_cases e : j = m
            · subst e; rw [hy] at hz; obtain rfl := Option.some.inj hz; exact hb
            · exact hall2.out j (by omega) z hz
          have hno : thereB rs y = false → Hid ((l.all fun z => z.eras.all (thereB rs)) = false) := fun hb => all_no hx (all_no hy hb)
          unfold thereB at hyes hno
          cases he : y.rules.toList.isEmpty
          · cases hb : hasB rs y.rules
            · have HR := hno (by rw [he, hb]; rfl)
              rw [hb] at hS
              clear hb hyes hno
              go_wp2_with fail
              refine hS.mono ?_
              rintro e w2 ⟨rfl, hb2⟩
              go_wp2
              go_ret
              exact ⟨ret_bool HR.out.symm, hB0.trans ((hB3.trans (hb2.mono hB3.size)).mono hB0.size)⟩
            · have HR := hyes (by rw [he, hb]; rfl)
              rw [hb] at hS
              clear hb hyes hno
              go_wp2_with fail
              refine hS.mono ?_
              rintro e w2 ⟨rfl, hb2⟩
              go_wp2
              go_roundw
              case rel => exact ⟨m + 1, by omega, by go_num, HR, hC3.trans (hb2.mono hC3.size)⟩
              case measure => simp [intOf]; omega
          · have HR := hyes (by rw [he]; rfl)
            clear hS hyes hno
            go_wp2
            go_roundw
            case rel => exact ⟨m + 1, by omega, by go_num, HR, hC3⟩
            case measure => simp [intOf]; omega
        · have e : m = es.length := by omega
          subst e
          have HR : Hid (∀ j, j < k + 1 → ∀ x, l[j]? = some x → x.eras.all (thereB rs) = true) := fun j hj z hz => by
            by_cases e : j = k
            · subst e; rw [hx] at hz; obtain rfl := Option.some.inj hz; exact all_yes hall2.out
            · exact hall.out j (by omega) z hz
          go_wp2
          go_roundw
          case rel => exact ⟨k + 1, by omega, by go_num, HR, hBC⟩
          case measure => simp [intOf]; omega
    · have e : k = l.length := by omega
      subst e
      have HR : Hid ((l.all fun z => z.eras.all (thereB rs)) = true) := all_yes hall.out
      go_wp2
      go_ret
      exact ⟨ret_bool HR.out.symm, hT⟩
end Go.Proofs.YtbbhpfobcelbfaaGreatDoor
