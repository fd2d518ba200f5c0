/- Packed: Right2 Right3 Hp17. -/
import Derived.Test.YtcelbkmnbjcjhaaGreatNamesPd
import Derived.Test.YtcelbkmnbjcjhaaGreatOnPd
import Derived.Test.YtcelbkmnbjcjhaaGreatRelAd
import Derived.Test.YtcelbkmnbjcjhaaGreatShelf
namespace Go.Proofs.YtcelbkmnbjcjhaaGreat
open Go.RowKit

/-- does the text tell a day of a month of 31 days. -/
def onB (s : ByteArray) : Bool := toldV 2000 1 s != -1000000
set_option maxHeartbeats 400000 in
theorem spec_l02OnRight (s : ByteArray) (w : World) (hz : s.size ≤ 1048576) :
  Calls Tryz.prog 78 #[.string s] w fun e w' => e = .returned (.bool (onB s)) ∧ Below w.heap.size w w' := by
 have hy : ymB 2000 1 = true := by decide
 have hX := fun w => spec_l01On 2000 1 s w hy hz
 have e : toldV 2000 1 s = moV 2000 1 s := by unfold toldV; rw [hy, if_pos rfl, on_same hy]
 unfold onB
 rw [e]
 clear e
 generalize moV 2000 1 s = r at *
 go_enter Tryz.func78, Tryz.ntmps78
 go_wp2_with fail
 refine (hX _).mono ?_
 rintro e w1 ⟨rfl, hb⟩
 go_wp2
 go_ret
 exact ⟨rfl, hb⟩
/-- is a rule right. -/
def ruleB (r : RuleD) : Bool := nameB r.name && (isB r.lo 1 9999 && (isB r.hi r.lo 9999 && (isB r.month 1 12 && (onB r.on && (isB r.at_ 0 604800 && (ofB r.of && (isB r.save (-7200) 7200 && ltB r.letter)))))))
set_option maxHeartbeats 2000000 in
theorem spec_l02Rule (r : RuleD) (w : World) (ok : r.ok) (hz : r.on.size ≤ 1048576) :
  Calls Tryz.prog 67 #[r.v] w fun e w' => e = .returned (.bool (ruleB r)) ∧ Below w.heap.size w w' := by
 obtain ⟨name, lo, hi, month, on, at_, of, save, letter⟩ := r
 obtain ⟨k1, k2, k3, k4⟩ := ok
 simp only [RuleD.v, ruleB] at *
 have h1 := fun w => spec_NameRight name w k1
 have h2 := fun w => spec_l01Year lo w
 have h3 := fun w => spec_l01Is hi lo 9999 w
 have h8 := fun w => spec_l01Is month 1 12 w
 have h4 := fun w => spec_l02OnRight on w hz
 have h9 := fun w => spec_l01Is at_ 0 604800 w
 have h5 := fun w => spec_l02Of of w
 have h6 := fun w => spec_l02Save save w
 have h7 := fun w => spec_l02Letter letter w k4
 generalize nameB name = b1 at *
 generalize isB lo 1 9999 = b2 at *
 generalize isB hi lo 9999 = b3 at *
 generalize isB month 1 12 = b8 at *
 generalize onB on = b4 at *
 generalize isB at_ 0 604800 = b9 at *
 generalize ofB of = b5 at *
 generalize isB save (-7200) 7200 = b6 at *
 generalize ltB letter = b7 at *
 have hB0 := fun o => (Below.refl w.heap.size w).alloc (Nat.le_refl _) o
 go_enter Tryz.func67, Tryz.ntmps67
 go_wp2_with fail
 refine (h1 _).mono ?_
 rintro e w9 ⟨rfl, rfl⟩
 cases b1
 case false =>
  go_wp2
  go_ret
  exact ⟨ret_bool (by simp), (hB0 _)⟩
 go_wp2_with fail
 refine (h2 _).mono ?_
 rintro e w9 ⟨rfl, rfl⟩
 cases b2
 case false =>
  go_wp2
  go_ret
  exact ⟨ret_bool (by simp), (hB0 _)⟩
 go_wp2_with fail
 refine (h3 _).mono ?_
 rintro e w9 ⟨rfl, rfl⟩
 cases b3
 case false =>
  go_wp2
  go_ret
  exact ⟨ret_bool (by simp), (hB0 _)⟩
 go_wp2_with fail
 refine (h8 _).mono ?_
 rintro e w9 ⟨rfl, rfl⟩
 cases b8
 case false =>
  go_wp2
  go_ret
  exact ⟨ret_bool (by simp), (hB0 _)⟩
 go_wp2_with fail
 refine (h4 _).mono ?_
 rintro e w1 ⟨rfl, hb1⟩
 obtain ⟨hc, _⟩ := bcell hb1
 have hlt : w.heap.size < w1.heap.size := by have := hb1.size; simp at this; omega
 have hB1 := (hB0 _).trans (hb1.mono (by simp))
 cases b4
 case false =>
  go_wp2
  go_ret
  exact ⟨ret_bool (by simp), hB1⟩
 go_wp2_with fail
 refine (h9 _).mono ?_
 rintro e w9 ⟨rfl, rfl⟩
 cases b9
 case false =>
  go_wp2
  go_ret
  exact ⟨ret_bool (by simp), hB1⟩
 go_wp2_with fail
 refine (h5 _).mono ?_
 rintro e w9 ⟨rfl, rfl⟩
 cases b5
 case false =>
  go_wp2
  go_ret
  exact ⟨ret_bool (by simp), hB1⟩
 go_wp2_with fail
 refine (h6 _).mono ?_
 rintro e w9 ⟨rfl, rfl⟩
 cases b6
 case false =>
  go_wp2
  go_ret
  exact ⟨ret_bool (by simp), hB1⟩
 go_wp2_with fail
 refine (h7 _).mono ?_
 rintro e w9 ⟨rfl, rfl⟩
 go_wp2
 go_ret
 exact ⟨ret_bool (by simp [*]), hB1⟩
end Go.Proofs.YtcelbkmnbjcjhaaGreat
namespace Go.Proofs.YtcelbkmnbjcjhaaGreat
open Go.RowKit

/-- a byte of a format. -/
def fbB (c : Int) : Bool := letB c || (digB c || (c == 43 || (c == 45 || (c == 37 || c == 47))))
/-- how many of the first k bytes are a stroke. -/
def strokes (s : ByteArray) : Nat → Int
 | 0 => 0
 | k + 1 => strokes s k + (if byteAt s k = 47 then 1 else 0)
theorem strokes_bd (s : ByteArray) (k : Nat) : 0 ≤ strokes s k ∧ strokes s k ≤ k := by
 induction k with
 | zero => simp [strokes]
 | succ k ih => simp only [strokes]; split <;> omega
def fmtB (s : ByteArray) : Bool := decide (1 ≤ s.size ∧ s.size ≤ 12 ∧ strokes s s.size ≤ 1 ∧ ∀ i, i < s.size → fbB (byteAt s i) = true)
theorem fmt_no {s : ByteArray} (h : ¬ (1 ≤ s.size ∧ s.size ≤ 12 ∧ strokes s s.size ≤ 1)) : fmtB s = false := decide_eq_false fun hn => h ⟨hn.1, hn.2.1, hn.2.2.1⟩
theorem fmt_no3 {s : ByteArray} {k : Nat} (hk : k < s.size) (h : fbB (byteAt s k) = false) : fmtB s = false := decide_eq_false fun hn => by rw [hn.2.2.2 k hk] at h; cases h
theorem fmt_yes {s : ByteArray} (h1 : 1 ≤ s.size) (h2 : s.size ≤ 12) (h3 : strokes s s.size ≤ 1) (h : ∀ i, i < s.size → fbB (byteAt s i) = true) : fmtB s = true := decide_eq_true ⟨h1, h2, h3, h⟩
set_option maxHeartbeats 2000000 in
theorem spec_l02Format (s : ByteArray) (w : World) (hs : s.size ≤ maxLen) :
  Calls Tryz.prog 92 #[.string s] w fun e w' => e = .returned (.bool (fmtB s)) ∧ w' = w := by
 unfold maxLen at hs
 go_enter Tryz.func92, Tryz.ntmps92
 go_wp2
 go_loop [3, 4] (fun x i => ∃ k : Nat, k ≤ s.size ∧ i = .int .i64 k ∧ x = .int .i64 (strokes s k) ∧ Hid (∀ j, j < k → fbB (byteAt s j) = true)) (fun _ i => s.size - (intOf i).toNat)
 case atStart => exact ⟨0, by omega, rfl, rfl, upto_zero⟩
 case round =>
  obtain ⟨k, hk, rfl, rfl, hall⟩ := hrel
  have sb := strokes_bd s k
  by_cases hlt : k < s.size
  ·
   have hL := fun w => spec_l01Letter (byteAt s k) w
   have hD := fun w => spec_l01Digit (byteAt s k) w
   have e := byteAt_eq s k hlt
   by_cases h47 : byteAt s k = 47
   ·
    have HN : Hid (strokes s (k + 1) = strokes s k + 1) := by simp only [Hid, strokes]; rw [if_pos h47]
    have HB : Hid (∀ j, j < k + 1 → fbB (byteAt s j) = true) := upto_succ hall.out (by rw [h47]; decide)
    have g : ((s[k].toNat : Int) == 47) = true := by rw [e, h47]; rfl
    clear e h47 hL hD
    go_wp2
    go_round
    case rel => exact ⟨k + 1, by omega, by go_num, by rw [HN.out], HB⟩
    case measure => simp [intOf]; omega
   ·
    have HN : Hid (strokes s (k + 1) = strokes s k) := by simp only [Hid, strokes]; rw [if_neg h47]; omega
    have g : ((s[k].toNat : Int) == 47) = false := by rw [e]; simpa using h47
    cases hb : fbB (byteAt s k)
    ·
     have HB : Hid (fmtB s = false) := fmt_no3 hlt hb
     unfold fbB at hb
     simp only [Bool.or_eq_false_iff] at hb
     obtain ⟨q1, q2, q3, q4, q5, _⟩ := hb
     rw [q1, ← e] at hL
     rw [q2, ← e] at hD
     rw [← e] at q3 q4 q5
     have q3' : ((s[k].toNat : Int) != 43) = true := by simpa using q3
     have q4' : ((s[k].toNat : Int) != 45) = true := by simpa using q4
     have q5' : ((s[k].toNat : Int) != 37) = true := by simpa using q5
     clear e h47 q1 q2 q3 q4 q5
     go_wp2_with (first | (go_at_call 82; refine (hL _).mono ?_; rintro e w' ⟨rfl, rfl⟩) | (go_at_call 83; refine (hD _).mono ?_; rintro e w' ⟨rfl, rfl⟩))
     go_ret
     exact ⟨ret_bool HB.out.symm, rfl⟩
    ·
     have HB : Hid (∀ j, j < k + 1 → fbB (byteAt s j) = true) := upto_succ hall.out hb
     have hc : letB (byteAt s k) = true ∨ (letB (byteAt s k) = false ∧ digB (byteAt s k) = true) ∨ (letB (byteAt s k) = false ∧ digB (byteAt s k) = false ∧ byteAt s k = 43) ∨ (letB (byteAt s k) = false ∧ digB (byteAt s k) = false ∧ byteAt s k = 45) ∨ (letB (byteAt s k) = false ∧ digB (byteAt s k) = false ∧ byteAt s k = 37) := by
      unfold fbB at hb
      cases q1 : letB (byteAt s k)
      ·
       cases q2 : digB (byteAt s k)
       ·
        rw [q1, q2] at hb
        simp at hb
        rcases hb with h | h | h | h
        ·
         exact .inr (.inr (.inl ⟨rfl, rfl, h⟩))
        ·
         exact .inr (.inr (.inr (.inl ⟨rfl, rfl, h⟩)))
        ·
         exact .inr (.inr (.inr (.inr ⟨rfl, rfl, h⟩)))
        ·
         exact absurd h h47
       ·
        exact .inr (.inl ⟨rfl, rfl⟩)
      ·
       exact .inl rfl
     clear hb h47
     rcases hc with q1 | ⟨q1, q2⟩ | ⟨q1, q2, q3⟩ | ⟨q1, q2, q3⟩ | ⟨q1, q2, q3⟩
     ·
      rw [q1, ← e] at hL
      clear e q1 hD
      go_wp2_with (go_at_call 82; refine (hL _).mono ?_; rintro e w' ⟨rfl, rfl⟩)
      go_round
      case rel => exact ⟨k + 1, by omega, by go_num, by rw [HN.out], HB⟩
      case measure => simp [intOf]; omega
     all_goals
      rw [q1, ← e] at hL
      rw [q2, ← e] at hD
     ·
      clear e q1 q2
      go_wp2_with (first | (go_at_call 82; refine (hL _).mono ?_; rintro e w' ⟨rfl, rfl⟩) | (go_at_call 83; refine (hD _).mono ?_; rintro e w' ⟨rfl, rfl⟩))
      go_round
      case rel => exact ⟨k + 1, by omega, by go_num, by rw [HN.out], HB⟩
      case measure => simp [intOf]; omega
     ·
      have t1 : ((s[k].toNat : Int) != 43) = false := by rw [e, q3]; rfl
      clear e q1 q2 q3
      go_wp2_with (first | (go_at_call 82; refine (hL _).mono ?_; rintro e w' ⟨rfl, rfl⟩) | (go_at_call 83; refine (hD _).mono ?_; rintro e w' ⟨rfl, rfl⟩))
      go_round
      case rel => exact ⟨k + 1, by omega, by go_num, by rw [HN.out], HB⟩
      case measure => simp [intOf]; omega
     ·
      have t1 : ((s[k].toNat : Int) != 43) = true := by rw [e, q3]; rfl
      have t2 : ((s[k].toNat : Int) != 45) = false := by rw [e, q3]; rfl
      clear e q1 q2 q3
      go_wp2_with (first | (go_at_call 82; refine (hL _).mono ?_; rintro e w' ⟨rfl, rfl⟩) | (go_at_call 83; refine (hD _).mono ?_; rintro e w' ⟨rfl, rfl⟩))
      go_round
      case rel => exact ⟨k + 1, by omega, by go_num, by rw [HN.out], HB⟩
      case measure => simp [intOf]; omega
     ·
      have t1 : ((s[k].toNat : Int) != 43) = true := by rw [e, q3]; rfl
      have t2 : ((s[k].toNat : Int) != 45) = true := by rw [e, q3]; rfl
      have t3 : ((s[k].toNat : Int) != 37) = false := by rw [e, q3]; rfl
      clear e q1 q2 q3
      go_wp2_with (first | (go_at_call 82; refine (hL _).mono ?_; rintro e w' ⟨rfl, rfl⟩) | (go_at_call 83; refine (hD _).mono ?_; rintro e w' ⟨rfl, rfl⟩))
      go_round
      case rel => exact ⟨k + 1, by omega, by go_num, by rw [HN.out], HB⟩
      case measure => simp [intOf]; omega
  ·
   have e : k = s.size := by omega
   subst e
   by_cases h1 : 1 ≤ s.size
   ·
    by_cases h2 : s.size ≤ 12
    ·
     by_cases h3 : strokes s s.size ≤ 1
     ·
      have HB : Hid (fmtB s = true) := fmt_yes h1 h2 h3 hall.out
      go_wp2
      go_ret
      exact ⟨ret_bool HB.out.symm, rfl⟩
     ·
      have HB : Hid (fmtB s = false) := fmt_no (by omega)
      go_wp2
      go_ret
      exact ⟨ret_bool HB.out.symm, rfl⟩
    ·
     have HB : Hid (fmtB s = false) := fmt_no (by omega)
     go_wp2
     go_ret
     exact ⟨ret_bool HB.out.symm, rfl⟩
   ·
    have HB : Hid (fmtB s = false) := fmt_no (by omega)
    go_wp2
    go_ret
    exact ⟨ret_bool HB.out.symm, rfl⟩
end Go.Proofs.YtcelbkmnbjcjhaaGreat
namespace Go.Proofs.YtcelbkmnbjcjhaaGreat
open Go.RowKit

end Go.Proofs.YtcelbkmnbjcjhaaGreat
