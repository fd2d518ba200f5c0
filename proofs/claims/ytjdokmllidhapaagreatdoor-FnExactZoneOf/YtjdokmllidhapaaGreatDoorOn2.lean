/- Days by weekday and by number: the program's and the model's. -/
import Derived.Test.YtjdokmllidhapaaGreatDoorOn1
import Derived.Test.YtjdokmllidhapaaGreatDoorDays
import Derived.Test.YtjdokmllidhapaaGreatDoorRounds
namespace Go.Proofs.YtjdokmllidhapaaGreatDoor
open Go.RowKit

/-- the first day of a weekday from a day on; -1000000 where there is none. -/
def fromV (v d : Int) : Int := if v = -1 ∨ d = -1000000 then -1000000 else d + (v - (d + 719163) % 7 + 7) % 7
def uptoV (v d : Int) : Int := if v = -1 ∨ d = -1000000 then -1000000 else d - ((d + 719163) % 7 - v + 7) % 7
set_option maxHeartbeats 400000 in
theorem impl_weekdayFrom (v d : Int) (w : World) (hv : v = -1 ∨ (0 ≤ v ∧ v < 7)) (hd : d = -1000000 ∨ (-719162 ≤ d ∧ d ≤ 2932896)) :
    Calls Tryz.prog 285 #[.int .i64 v, .int .i64 d] w fun e w' => e = .returned (.int .i64 (fromV v d)) ∧ w' = w := by
  unfold fromV
  by_cases h1 : v = -1
  · subst h1
    rw [if_pos (.inl rfl)]
    go_enter Tryz.func285, Tryz.ntmps285
    go_wp2
    go_ret
    exact ⟨rfl, rfl⟩
  by_cases h2 : d = -1000000
  · subst h2
    have g1 : (v == -1) = false := by simpa using h1
    rw [if_pos (.inr rfl)]
    go_enter Tryz.func285, Tryz.ntmps285
    go_wp2
    go_ret
    exact ⟨rfl, rfl⟩
  · rw [if_neg (by omega)]
    have g1 : (v == -1) = false := by simpa using h1
    have g2 : (d == -1000000) = false := by simpa using h2
    have hW := fun w => impl_Weekday d w
    rw [wdv_ok (by omega) (by omega)] at hW
    have hr : 0 ≤ (d + 719163) % 7 ∧ (d + 719163) % 7 < 7 := by omega
    have hv' : 0 ≤ v ∧ v < 7 := by omega
    have hd' : -719162 ≤ d ∧ d ≤ 2932896 := by omega
    clear hv hd h1 h2
    generalize (d + 719163) % 7 = r at *
    go_enter Tryz.func285, Tryz.ntmps285
    go_wp2_with (go_at_call 304; refine (hW _).mono ?_; rintro e w' ⟨rfl, rfl⟩)
    go_ret
    exact ⟨ret_int (by omega), rfl⟩
set_option maxHeartbeats 400000 in
theorem impl_weekdayUpTo (v d : Int) (w : World) (hv : v = -1 ∨ (0 ≤ v ∧ v < 7)) (hd : d = -1000000 ∨ (-719162 ≤ d ∧ d ≤ 2932896)) :
    Calls Tryz.prog 282 #[.int .i64 v, .int .i64 d] w fun e w' => e = .returned (.int .i64 (uptoV v d)) ∧ w' = w := by
  unfold uptoV
  by_cases h1 : v = -1
  · subst h1
    rw [if_pos (.inl rfl)]
    go_enter Tryz.func282, Tryz.ntmps282
    go_wp2
    go_ret
    exact ⟨rfl, rfl⟩
  by_cases h2 : d = -1000000
  · subst h2
    have g1 : (v == -1) = false := by simpa using h1
    rw [if_pos (.inr rfl)]
    go_enter Tryz.func282, Tryz.ntmps282
    go_wp2
    go_ret
    exact ⟨rfl, rfl⟩
  · rw [if_neg (by omega)]
    have g1 : (v == -1) = false := by simpa using h1
    have g2 : (d == -1000000) = false := by simpa using h2
    have hW := fun w => impl_Weekday d w
    rw [wdv_ok (by omega) (by omega)] at hW
    have hr : 0 ≤ (d + 719163) % 7 ∧ (d + 719163) % 7 < 7 := by omega
    have hv' : 0 ≤ v ∧ v < 7 := by omega
    have hd' : -719162 ≤ d ∧ d ≤ 2932896 := by omega
    clear hv hd h1 h2
    generalize (d + 719163) % 7 = r at *
    go_enter Tryz.func282, Tryz.ntmps282
    go_wp2_with (go_at_call 304; refine (hW _).mono ?_; rintro e w' ⟨rfl, rfl⟩)
    go_ret
    exact ⟨ret_int (by omega), rfl⟩
/-- the day of the month of that number, or -1000000. -/
def nbB (y m : Int) (t : ByteArray) : Bool := decide (t.size ≤ 2) && (digs t && vldB y m (drN t))
def nbV (y m : Int) (t : ByteArray) : Int := if nbB y m t = true then num y m (drN t) else -1000000
theorem nbV_bd (y m : Int) (t : ByteArray) : nbV y m t = -1000000 ∨ (-719162 ≤ nbV y m t ∧ nbV y m t ≤ 2932896) := by
  unfold nbV
  split
  · rename_i h
    unfold nbB at h
    simp only [Bool.and_eq_true] at h
    exact .inr (num_bd h.2.2)
  · exact .inl rfl
set_option maxHeartbeats 1000000 in
theorem impl_numbered (y m : Int) (s t : ByteArray) (w : World) (hT : Tab w) (hz : t.size ≤ maxLen) :
    Calls Tryz.prog 280 #[.agg #[.int .i64 y, .int .i64 m, .string s], .string t] w fun e w' => e = .returned (.int .i64 (nbV y m t)) ∧ Below w.heap.size w w' := by
  unfold maxLen at hz
  unfold nbV nbB
  by_cases h2 : 2 < t.size
  · rw [if_neg (by simp; omega)]
    go_enter Tryz.func280, Tryz.ntmps280
    go_wp2
    go_ret
    exact ⟨rfl, (Below.refl _ _).alloc (Nat.le_refl _) _⟩
  have hD := fun w => impl_digitsRead t w (by omega)
  have hR := fun w (h : Tab w) => impl_DateRight y m (drN t) w h
  rw [decide_eq_true (show t.size ≤ 2 by omega)]
  cases hd : digs t
  · rw [hd] at hD
    simp only [Bool.false_and, Bool.and_false, Bool.false_eq_true, if_false]
    clear hd
    generalize drN t = k at *
    go_enter Tryz.func280, Tryz.ntmps280
    go_wp2_with (go_at_call 301; refine (hD _).mono ?_; rintro e w' ⟨rfl, rfl⟩)
    go_ret
    exact ⟨rfl, ((Below.refl _ _).alloc (Nat.le_refl _) _).alloc (by simp) _⟩
  · rw [hd] at hD
    simp only [Bool.true_and]
    clear hd
    cases hv : vldB y m (drN t)
    · rw [hv] at hR
      clear hv
      generalize drN t = k at *
      simp only [Bool.false_eq_true, if_false]
      go_enter Tryz.func280, Tryz.ntmps280
      go_wp2_with fail
      refine (hD _).mono ?_
      rintro e w1 ⟨rfl, rfl⟩
      go_wp2_with fail
      refine (hR _ ((hT.alloc _).alloc _)).mono ?_
      rintro e w2 ⟨rfl, hb⟩
      go_wp2
      go_ret
      exact ⟨rfl, (((Below.refl _ _).alloc (Nat.le_refl _) _).alloc (by simp) _).trans (hb.mono (by simp; omega))⟩
    · have hX := fun w (h : Tab w) => impl_DaysOf_ok y m (drN t) w h hv
      rw [hv] at hR
      clear hv
      generalize num y m (drN t) = q at *
      generalize drN t = k at *
      simp only [if_true]
      go_enter Tryz.func280, Tryz.ntmps280
      go_wp2_with fail
      refine (hD _).mono ?_
      rintro e w1 ⟨rfl, rfl⟩
      go_wp2_with fail
      refine (hR _ ((hT.alloc _).alloc _)).mono ?_
      rintro e w2 ⟨rfl, hb⟩
      obtain ⟨hc, hf⟩ := bcell hb
      have hB := (((Below.refl w.heap.size w).alloc (Nat.le_refl _) _).alloc (by simp) _).trans (hb.mono (by simp; omega))
      have hT2 := hT.of_below hB
      go_wp2_with fail
      refine (hX _ hT2).mono ?_
      rintro e w3 ⟨rfl, hb3⟩
      go_wp2
      go_ret
      exact ⟨rfl, hB.trans (hb3.mono hB.size)⟩
/-- one or two digits, or -1. -/
def twoN (t : ByteArray) : Int := if t.size ≤ 2 then ldN t else -1
set_option maxHeartbeats 1000000 in
theorem spec_l01Two (s : ByteArray) (w : World) (hz : s.size ≤ maxLen) :
    Calls Tryz.prog 231 #[.string s] w fun e w' => e = .returned (.int .i64 (twoN s)) ∧ w' = w := by
  unfold maxLen at hz
  unfold twoN
  by_cases h2 : 2 < s.size
  · rw [if_neg (by omega)]
    go_enter Tryz.func231, Tryz.ntmps231
    go_wp2
    go_ret
    exact ⟨rfl, rfl⟩
  rw [if_pos (by omega)]
  by_cases h0 : s.size < 1
  · have h := digs_no0 (s := s) (by omega)
    rw [ldN_f h]
    go_enter Tryz.func231, Tryz.ntmps231
    go_wp2
    go_ret
    exact ⟨rfl, rfl⟩
  · go_enter Tryz.func231, Tryz.ntmps231
    go_wp2
    go_loop [3, 4] (fun x i => ∃ k : Nat, k ≤ s.size ∧ i = .int .i64 k ∧ x = .int .i64 (numAt s k) ∧ Hid (∀ j, j < k → digB (byteAt s j) = true)) (fun _ i => s.size - (intOf i).toNat)
    case atStart => exact ⟨0, by omega, rfl, rfl, upto_zero⟩
    case round =>
      obtain ⟨k, hk, rfl, rfl, hall⟩ := hrel
      by_cases hlt : k < s.size
      · have hB := fun w => spec_l01Digit (byteAt s k) w
        have nb := numAt_bd9 (s := s) (k := k) (by omega) hall.out
        have e := byteAt_eq s k hlt
        cases hb : digB (byteAt s k)
        · have HB : Hid (digs s = false) := digs_no hlt hb
          rw [hb, ← e] at hB
          clear hb e
          go_wp2_with (go_at_call 129; refine (hB _).mono ?_; rintro e w' ⟨rfl, rfl⟩)
          go_ret
          exact ⟨ret_int (ldN_f HB.out).symm, rfl⟩
        · have HB : Hid (digB (byteAt s k) = true) := hb
          have ⟨b1, b2⟩ := digB_t hb
          have HN : Hid (numAt s (k + 1) = 10 * numAt s k + ((s[k].toNat : Int) - 48)) := by simp only [Hid, numAt]; rw [e]
          rw [hb, ← e] at hB
          rw [← e] at b1 b2
          clear hb e
          go_wp2_with (go_at_call 129; refine (hB _).mono ?_; rintro e w' ⟨rfl, rfl⟩)
          go_round
          case rel => exact ⟨k + 1, by omega, by go_num, by rw [HN.out], upto_succ hall.out HB.out⟩
          case measure => simp [intOf]; omega
      · have e : k = s.size := by omega
        subst e
        have HB : Hid (digs s = true) := digs_yes (by omega) hall.out
        go_wp2
        go_ret
        exact ⟨ret_int (ldN_t HB.out).symm, rfl⟩
end Go.Proofs.YtjdokmllidhapaaGreatDoor
