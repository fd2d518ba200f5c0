/- What is asked of a rule's fields: letters, saves, what a time is of. -/
import Derived.Test.YtgiieknbckhofaaGreatDoorBasePu
set_option maxHeartbeats 20000000
set_option linter.unusedSimpArgs false
namespace Go.Proofs.YtgiieknbckhofaaGreatDoor
open Go.RowKit
def ofB (s : ByteArray) : Bool := (s.toList == [119]) || ((s.toList == [115]) || (s.toList == [117]))
theorem jg0 (s : ByteArray) (w : World) :
  Cl 159 #[.string s] w fun e w' => e = .returned (.bool (ofB s)) /\ w' = w := by
 unfold ofB
 cases h1 : (s.toList == [119])
 ·cases h2 : (s.toList == [115])
  ·go_enter Tryz.func159, Tryz.ntmps159
   go_wp2
   go_ret
   exact ⟨ret_bool (by simp), rfl⟩
  ·go_enter Tryz.func159, Tryz.ntmps159
   go_wp2
   go_ret
   exact ⟨ret_bool (by simp), rfl⟩
 ·go_enter Tryz.func159, Tryz.ntmps159
  go_wp2
  go_ret
  exact ⟨ret_bool (by simp), rfl⟩
theorem jkv (s : ByteArray) (w : World) :
  Cl 115 #[.string s] w fun e w' => e = .returned (.bool (ofB s)) /\ w' = w := by
 unfold ofB
 cases h1 : (s.toList == [119])
 ·cases h2 : (s.toList == [115])
  ·go_enter Tryz.func115, Tryz.ntmps115
   go_wp2
   go_ret
   exact ⟨ret_bool (by simp), rfl⟩
  ·go_enter Tryz.func115, Tryz.ntmps115
   go_wp2
   go_ret
   exact ⟨ret_bool (by simp), rfl⟩
 ·go_enter Tryz.func115, Tryz.ntmps115
  go_wp2
  go_ret
  exact ⟨ret_bool (by simp), rfl⟩
theorem jey (n : Int) (w : World) :
  Cl 160 #[iv n] w fun e w' => e = .returned (.bool (isB n (-7200) 7200)) /\ w' = w := by
 by_cases h : -7200 <= n
 ·go_enter Tryz.func160, Tryz.ntmps160
  go_wp2
  go_ret
  exact ⟨ret_bool (by unfold isB; simp [h]), rfl⟩
 ·go_enter Tryz.func160, Tryz.ntmps160
  go_wp2
  go_ret
  exact ⟨ret_bool (jka (by omega)).symm, rfl⟩
theorem jgo (n : Int) (w : World) :
  Cl 116 #[iv n] w fun e w' => e = .returned (.bool (isB n (-7200) 7200)) /\ w' = w := by
 go_enter Tryz.func116, Tryz.ntmps116
 go_wp2_with (go_at_call 41; refine (jau _ _ _ _).mono ?_; rintro e w' ⟨rfl, rfl⟩)
 go_ret
 exact ⟨rfl, rfl⟩
theorem jew (n : Int) (w : World) :
  Cl 157 #[iv n] w fun e w' => e = .returned (.bool (isB n 1 9999)) /\ w' = w := by
 by_cases h : 1 <= n
 ·go_enter Tryz.func157, Tryz.ntmps157
  go_wp2
  go_ret
  exact ⟨ret_bool (by unfold isB; simp [h]), rfl⟩
 ·go_enter Tryz.func157, Tryz.ntmps157
  go_wp2
  go_ret
  exact ⟨ret_bool (jka (by omega)).symm, rfl⟩
def lbB (c : Int) : Bool := letB c || (c == 43 || c == 45)
def ltB (s : ByteArray) : Bool := decide (s.size <= 6) && (!(s.toList == [45]) && decide (∀ i, i < s.size -> lbB (jae s i) = true))
theorem j3l {s : ByteArray} (h : 6 < s.size) : ltB s = false := by unfold ltB; rw [dfe (by omega)]; rfl
theorem j3k {s : ByteArray} (h : (s.toList == [45]) = true) : ltB s = false := by unfold ltB; rw [h]; simp
theorem j1c {s : ByteArray} {k : Nat} (hk : k < s.size) (h : lbB (jae s k) = false) : ltB s = false := by
 unfold ltB
 have : decide (∀ i, i < s.size -> lbB (jae s i) = true) = false := dfe fun hn => by rw [hn k hk] at h; cases h
 rw [this]; simp
theorem j1d {s : ByteArray} (h : ∀ i, i < s.size -> lbB (jae s i) = true) : ltB s = (decide (s.size <= 6) && !(s.toList == [45])) := by
 unfold ltB; rw [dte h]; simp
theorem j3o {c : Int} (h : lbB c = false) : letB c = false /\ (c != 43) = true /\ (c != 45) = true := by
 unfold lbB at h; simp at h; simpa using h
theorem jhh (s : ByteArray) (w : World) (hs : s.size <= maxLen) :
  Cl 161 #[.string s] w fun e w' => e = .returned (.bool (ltB s)) /\ w' = w := by
 unfold maxLen at hs
 by_cases h6 : 6 < s.size
 ·rw [j3l h6]
  go_enter Tryz.func161, Tryz.ntmps161
  go_wp2
  go_ret
  exact ⟨rfl, rfl⟩
 cases hm : (s.toList == [45])
 ·go_enter Tryz.func161, Tryz.ntmps161
  go_wp2
  go_loop [14] (fun i => ∃ k : Nat, k <= s.size /\ i = iv k /\ Hid (∀ j, j < k -> lbB (jae s j) = true)) (fun i => s.size - (intOf i).toNat)
  case atStart => exact ⟨0, by omega, rfl, upto_zero⟩
  case round =>
   obtain ⟨k, hk, rfl, ak⟩ := hrel
   by_cases hlt : k < s.size
   ·have hB := fun w => jct (jae s k) w
    have e := jai s k hlt
    cases hb : lbB (jae s k)
    ·have HB : Hid (ltB s = false) := j1c hlt hb
     obtain ⟨g1, g2, g3⟩ := j3o hb
     rw [g1, <- e] at hB
     rw [<- e] at g2 g3
     clear hb e g1
     go_wp2_with (go_at_call 170; refine (hB _).mono ?_; rintro e w' ⟨rfl, rfl⟩)
     go_ret
     exact ⟨ret_bool HB.out.symm, rfl⟩
    ·have HB : Hid (∀ j, j < k + 1 -> lbB (jae s j) = true) := jbj ak.out hb
     unfold lbB at hb
     cases g1 : letB (jae s k)
     ·rw [g1] at hb hB
      simp at hb
      rw [<- e] at hB hb
      by_cases g2 : (s[k].toNat : Int) = 43
      ·have kr : ((s[k].toNat : Int) != 43) = false := by simp [g2]
       clear e g1 hb g2
       go_wp2_with (go_at_call 170; refine (hB _).mono ?_; rintro e w' ⟨rfl, rfl⟩)
       go_round
       case rel => exact ⟨k + 1, by omega, by go_num, HB⟩
       case measure => simp [intOf]; omega
      ·have kr : ((s[k].toNat : Int) != 43) = true := by simpa using g2
       have JV : ((s[k].toNat : Int) != 45) = false := by simp; omega
       clear e g1 hb g2
       go_wp2_with (go_at_call 170; refine (hB _).mono ?_; rintro e w' ⟨rfl, rfl⟩)
       go_round
       case rel => exact ⟨k + 1, by omega, by go_num, HB⟩
       case measure => simp [intOf]; omega
     ·rw [g1, <- e] at hB
      clear e g1 hb
      go_wp2_with (go_at_call 170; refine (hB _).mono ?_; rintro e w' ⟨rfl, rfl⟩)
      go_round
      case rel => exact ⟨k + 1, by omega, by go_num, HB⟩
      case measure => simp [intOf]; omega
   ·have e : k = s.size := by omega
    subst e
    have HB : Hid (ltB s = true) := by
     simp only [Hid]; rw [j1d ak.out, hm]; simp; omega
    go_wp2
    go_ret
    exact ⟨ret_bool HB.out.symm, rfl⟩
 ·rw [j3k hm]
  go_enter Tryz.func161, Tryz.ntmps161
  go_wp2
  go_ret
  exact ⟨rfl, rfl⟩
theorem jj0 (s : ByteArray) (w : World) (hs : s.size <= maxLen) :
  Cl 117 #[.string s] w fun e w' => e = .returned (.bool (ltB s)) /\ w' = w := by
 unfold maxLen at hs
 go_enter Tryz.func117, Tryz.ntmps117
 go_wp2
 go_loop [3] (fun i => ∃ k : Nat, k <= s.size /\ i = iv k /\ Hid (∀ j, j < k -> lbB (jae s j) = true)) (fun i => s.size - (intOf i).toNat)
 case atStart => exact ⟨0, by omega, rfl, upto_zero⟩
 case round =>
  obtain ⟨k, hk, rfl, ak⟩ := hrel
  by_cases hlt : k < s.size
  ·have hB := fun w => jch (jae s k) w
   have e := jai s k hlt
   cases hb : lbB (jae s k)
   ·have HB : Hid (ltB s = false) := j1c hlt hb
    obtain ⟨g1, g2, g3⟩ := j3o hb
    rw [g1, <- e] at hB
    rw [<- e] at g2 g3
    clear hb e g1
    go_wp2_with (go_at_call 119; refine (hB _).mono ?_; rintro e w' ⟨rfl, rfl⟩)
    go_ret
    exact ⟨ret_bool HB.out.symm, rfl⟩
   ·have HB : Hid (∀ j, j < k + 1 -> lbB (jae s j) = true) := jbj ak.out hb
    unfold lbB at hb
    cases g1 : letB (jae s k)
    ·rw [g1] at hb hB
     simp at hb
     rw [<- e] at hB hb
     by_cases g2 : (s[k].toNat : Int) = 43
     ·have kr : ((s[k].toNat : Int) != 43) = false := by simp [g2]
      clear e g1 hb g2
      go_wp2_with (go_at_call 119; refine (hB _).mono ?_; rintro e w' ⟨rfl, rfl⟩)
      go_round
      case rel => exact ⟨k + 1, by omega, by go_num, HB⟩
      case measure => simp [intOf]; omega
     ·have kr : ((s[k].toNat : Int) != 43) = true := by simpa using g2
      have JV : ((s[k].toNat : Int) != 45) = false := by simp; omega
      clear e g1 hb g2
      go_wp2_with (go_at_call 119; refine (hB _).mono ?_; rintro e w' ⟨rfl, rfl⟩)
      go_round
      case rel => exact ⟨k + 1, by omega, by go_num, HB⟩
      case measure => simp [intOf]; omega
    ·rw [g1, <- e] at hB
     clear e g1 hb
     go_wp2_with (go_at_call 119; refine (hB _).mono ?_; rintro e w' ⟨rfl, rfl⟩)
     go_round
     case rel => exact ⟨k + 1, by omega, by go_num, HB⟩
     case measure => simp [intOf]; omega
  ·have e : k = s.size := by omega
   subst e
   have HB : Hid (ltB s = (decide (s.size <= 6) && !(s.toList == [45]))) := j1d ak.out
   by_cases h6 : s.size <= 6
   ·go_wp2
    go_ret
    exact ⟨ret_bool (by rw [HB.out]; simp [h6]), rfl⟩
   ·go_wp2
    go_ret
    exact ⟨ret_bool (by rw [HB.out]; simp [h6]), rfl⟩
end Go.Proofs.YtgiieknbckhofaaGreatDoor
