/- Packed: Rd2 Rd3 Rd4 Rd5 Rd7. -/
import Derived.Test.YtcelbkmnbjcjhaaGreatDrPd
import Derived.Test.YtcelbkmnbjcjhaaGreatOffAd
import Derived.Test.YtcelbkmnbjcjhaaGreatOffBd
import Derived.Test.YtcelbkmnbjcjhaaGreatNamesPd
import Derived.BigQuiet
import Derived.OwnWalk
import Derived.Test.YtcelbkmnbjcjhaaGreatOnPd
import Derived.Deep.Cut
import Derived.Test.YtcelbkmnbjcjhaaGreatRelAd
import Derived.Test.YtcelbkmnbjcjhaaGreatRightAd
import Derived.Deep.CutRange
import Derived.Deep.RegionHeld3
import Derived.BigRegion
namespace Go.Proofs.YtcelbkmnbjcjhaaGreat
open Go.RowKit

theorem rd_Y (s : ByteArray) (w : World) (hs : s.size ≤ 8000) :
  Calls Tryz.prog 93 #[.string s] w fun e w' => ∃ y : Int, e = .returned (.int .i64 y) ∧ 0 ≤ y ∧ y ≤ 9999 ∧ w' = w := by
 have hD : Calls Tryz.prog 101 #[.string s] w fun e w' => e = .returned (.int .i64 (ldM s)) ∧ w' = w := spec_l01DigitsM s w hs
 by_cases h1 : ldM s < 0
 ·
  go_enter Tryz.func93, Tryz.ntmps93
  go_wp2_with fail
  refine hD.mono ?_
  rintro e w1 ⟨rfl, hw⟩
  have hw := hw.symm
  subst hw
  go_wp2
  go_ret
  exact ⟨0, rfl, by omega, by omega, rfl⟩
 ·
  by_cases h2 : 9999 < ldM s
  ·
   go_enter Tryz.func93, Tryz.ntmps93
   go_wp2_with fail
   refine hD.mono ?_
   rintro e w1 ⟨rfl, hw⟩
   have hw := hw.symm
   subst hw
   go_wp2
   go_ret
   exact ⟨0, rfl, by omega, by omega, rfl⟩
  ·
   go_enter Tryz.func93, Tryz.ntmps93
   go_wp2_with fail
   refine hD.mono ?_
   rintro e w1 ⟨rfl, hw⟩
   have hw := hw.symm
   subst hw
   go_wp2
   go_ret
   exact ⟨_, rfl, by omega, by omega, rfl⟩
theorem rd_Months (w : World) :
  Calls Tryz.prog 102 #[] w fun e w' => e = .returned (.slice (some ⟨w.heap.size, 0, none⟩) 12 12) ∧ StrRow w' w.heap.size 12 100 ∧ Below w.heap.size w w' := by
 go_enter Tryz.func102, Tryz.ntmps102
 go_wp2
 go_ret
 exact ⟨rfl, str_row w [⟨#[74, 97, 110]⟩, ⟨#[70, 101, 98]⟩, ⟨#[77, 97, 114]⟩, ⟨#[65, 112, 114]⟩, ⟨#[77, 97, 121]⟩, ⟨#[74, 117, 110]⟩, ⟨#[74, 117, 108]⟩, ⟨#[65, 117, 103]⟩, ⟨#[83, 101, 112]⟩, ⟨#[79, 99, 116]⟩, ⟨#[78, 111, 118]⟩, ⟨#[68, 101, 99]⟩] _ (by decide), (Below.refl _ _).alloc (Nat.le_refl _) _⟩
set_option maxHeartbeats 1000000 in
theorem rd_Month (t : ByteArray) (w : World) :
  Calls Tryz.prog 94 #[.string t] w fun e w' => ∃ m : Int, e = .returned (.int .i64 m) ∧ 0 ≤ m ∧ m ≤ 12 ∧ Below w.heap.size w w' := by
 go_enter Tryz.func94, Tryz.ntmps94
 go_wp2_with fail
 refine (rd_Months _).mono ?_
 rintro e w1 ⟨rfl, hR, hb1⟩
 have HR : Hid (StrRow w1 w.heap.size 12 100) := hR
 clear hR
 go_wp2
 go_loopw [4] (fun i wr => ∃ k : Nat, k ≤ 12 ∧ i = .int .i64 k ∧ wr = w1) (fun i _ => 12 - (intOf i).toNat)
 case atStart => exact ⟨0, by omega, rfl, rfl⟩
 case round =>
  obtain ⟨k, hk, rfl, hw⟩ := hrel
  have hw := hw.symm
  subst hw
  by_cases hlt : k < 12
  ·
   obtain ⟨s, hs, _⟩ := HR.out k hlt
   have hki : (k : Int) < 12 := by omega
   cases hb : (s.toList == t.toList) with
   | true =>
    go_wp2
    go_ret
    exact ⟨(k : Int) + 1, by go_num, by omega, by omega, hb1⟩
   | false =>
    go_wp2
    go_roundw
    case rel => exact ⟨k + 1, by omega, by go_num, trivial⟩
    case measure => simp [intOf] <;> omega
  ·
   have hki : ¬ (k : Int) < 12 := by omega
   go_wp2
   go_ret
   exact ⟨0, rfl, by omega, by omega, hb1⟩
end Go.Proofs.YtcelbkmnbjcjhaaGreat
namespace Go.Proofs.YtcelbkmnbjcjhaaGreat
open Go.RowKit

/-- what a time read is. -/
structure TimeRP (w : World) (e : Ending) (w' : World) : Prop where
 ex : ∃ n f b, e = .returned (.tuple #[.int .i64 n, .string f, .bool b]) ∧ f.size ≤ 8000 ∧ Below w.heap.size w w'
theorem okO_none : okO ⟨#[]⟩ = false := by decide +kernel
theorem okO_some {s : ByteArray} (h : okO s = true) : 0 < s.size := by
 rcases Nat.eq_zero_or_pos s.size with h0 | h0
 ·
  have : s = ⟨#[]⟩ := by
   cases s with
   | mk d => simp [ByteArray.size] at h0; rw [h0]
  rw [this, okO_none] at h
  cases h
 ·
  exact h0
theorem one_short (s : ByteArray) (i j : Nat) (hs : s.size ≤ 8000) : (s.extract i j).size ≤ 8000 := by rw [ByteArray.size_extract]; omega
set_option maxRecDepth 20000 in
set_option maxHeartbeats 2000000 in
theorem rd_Time (s : ByteArray) (w : World) (hs : s.size ≤ 8000) : Calls Tryz.prog 95 #[.string s] w fun e w' => TimeRP w e w' := by
 by_cases h0 : s.size = 0
 ·
  have hO := spec_l01Offset s w hs
  have hk : okO s = false := by
   cases h : okO s
   ·
    rfl
   ·
    have := okO_some h; omega
  rw [hk] at hO
  have hg : ¬ (0 : Int) < (s.size : Int) := by omega
  go_enter Tryz.func95, Tryz.ntmps95
  go_wp2_with fail
  refine hO.mono ?_
  rintro e w1 ⟨⟨n, rfl, _⟩, hb⟩
  clear hO
  go_wp2_with fail
  go_quiet (fail)
  go_wp2
  go_ret3
  exact ⟨⟨_, _, _, rfl, by decide, below_drewN hb _⟩⟩
 ·
  have hg : (0 : Int) < (s.size : Int) := by omega
  cases hof : ofB (s.extract (s.size - 1) s.size) with
  | false =>
   have hF := spec_l02Of (s.extract (s.size - 1) s.size) w
   rw [hof] at hF
   have hO := spec_l01Offset s w hs
   cases hk : okO s with
   | false =>
    rw [hk] at hO
    go_enter Tryz.func95, Tryz.ntmps95
    go_wp2_with fail
    refine hF.mono ?_
    rintro e w1 ⟨rfl, hw⟩
    have hw := hw.symm
    subst hw
    go_wp2_with fail
    refine hO.mono ?_
    rintro e w1 ⟨⟨n, rfl, _⟩, hb⟩
    clear hO hF
    go_wp2_with fail
    go_quiet (fail)
    go_wp2
    go_ret3
    exact ⟨⟨_, _, _, rfl, by decide, below_drewN hb _⟩⟩
   | true =>
    rw [hk] at hO
    have hp := okO_some hk
    go_enter Tryz.func95, Tryz.ntmps95
    go_wp2_with fail
    refine hF.mono ?_
    rintro e w1 ⟨rfl, hw⟩
    have hw := hw.symm
    subst hw
    go_wp2_with fail
    refine hO.mono ?_
    rintro e w1 ⟨⟨n, rfl, _⟩, hb⟩
    clear hO hF
    go_wp2_with fail
    go_quiet (fail)
    go_wp2
    go_ret3
    exact ⟨⟨_, _, _, rfl, by decide, below_drewN hb _⟩⟩
  | true =>
   have hF := spec_l02Of (s.extract (s.size - 1) s.size) w
   rw [hof] at hF
   have hz := one_short s (s.size - 1) s.size hs
   have hO := spec_l01Offset (s.extract 0 (s.size - 1)) w (one_short s _ _ hs)
   cases hk : okO (s.extract 0 (s.size - 1)) with
   | false =>
    rw [hk] at hO
    go_enter Tryz.func95, Tryz.ntmps95
    go_wp2_with fail
    refine hF.mono ?_
    rintro e w1 ⟨rfl, hw⟩
    have hw := hw.symm
    subst hw
    go_wp2_with fail
    refine hO.mono ?_
    rintro e w1 ⟨⟨n, rfl, _⟩, hb⟩
    clear hO hF
    go_wp2_with fail
    go_quiet (fail)
    go_wp2
    go_ret3
    exact ⟨⟨_, _, _, rfl, hz, below_drewN hb _⟩⟩
   | true =>
    rw [hk] at hO
    have hp := okO_some hk
    go_enter Tryz.func95, Tryz.ntmps95
    go_wp2_with fail
    refine hF.mono ?_
    rintro e w1 ⟨rfl, hw⟩
    have hw := hw.symm
    subst hw
    go_wp2_with fail
    refine hO.mono ?_
    rintro e w1 ⟨⟨n, rfl, _⟩, hb⟩
    clear hO hF
    generalize s.extract 0 (s.size - 1) = t at *
    go_wp2_with fail
    go_quiet (fail)
    go_wp2
    go_ret3
    exact ⟨⟨_, _, _, rfl, hz, below_drewN hb _⟩⟩
end Go.Proofs.YtcelbkmnbjcjhaaGreat
namespace Go.Proofs.YtcelbkmnbjcjhaaGreat
open Go.RowKit

/-- words in memory: n texts from a place on, none longer than 8000 bytes. -/
structure WrdAt (w : World) (b o n : Nat) : Prop where
 ex : ∀ k, k < n → ∃ s : ByteArray, w.cell? ⟨b, o + k, none⟩ = some (.string s) ∧ s.size ≤ 8000
theorem WrdAt.below {w w' : World} {b o n : Nat} (h : WrdAt w b o n) (hb : Below w.heap.size w w') : WrdAt w' b o n :=
 ⟨fun k hk => by obtain ⟨s, h1, h2⟩ := h.ex k hk; exact ⟨s, ((bcell hb).1 _ _ (World.block_lt_of_cell? _ _ h1)).trans h1, h2⟩⟩
theorem bkeep {w1 w2 : World} {b o : Nat} {x : Value} (h : w1.cell? ⟨b, o, none⟩ = some x) (hb : Below w1.heap.size w1 w2) : w2.cell? ⟨b, o, none⟩ = some x := ((bcell hb).1 _ _ (World.block_lt_of_cell? _ _ h)).trans h
set_option maxHeartbeats 400000 in
theorem spec_l01TimeR (n : Int) (w : World) :
  Calls Tryz.prog 48 #[.int .i64 n] w fun e w' => e = .returned (.bool (isB n (-62135596800) 253402300799)) ∧ w' = w := by
 go_enter Tryz.func48, Tryz.ntmps48
 go_wp2_with (go_at_call 27; refine (spec_l01Is _ _ _ _).mono ?_; rintro e w' ⟨rfl, rfl⟩)
 go_ret
 exact ⟨rfl, rfl⟩
/-- what is told of an end. -/
structure UntP (w : World) (e : Ending) (w' : World) : Prop where
 ex : ∃ n f b, e = .returned (.tuple #[.int .i64 n, .string f, .bool b]) ∧ f.size ≤ 8000 ∧ Below w.heap.size w w'
theorem ym_of {y m : Int} (h1 : 0 < y) (h2 : y ≤ 9999) (h3 : 0 < m) (h4 : m ≤ 12) : ymB y m = true := decide_eq_true ⟨by omega, h2, by omega, h4⟩

theorem below3 {w w1 w2 : World} (h : Below w.heap.size w w1) (h2 : Below w1.heap.size w1 w2) : Below w.heap.size w w2 := h.trans (h2.mono h.size)
theorem time_any (n : Int) (w : World) : Calls Tryz.prog 48 #[.int .i64 n] w fun e w' => ∃ b, e = .returned (.bool b) ∧ w' = w := (spec_l01TimeR n w).mono fun _ _ h => ⟨_, h.1, h.2⟩

set_option maxRecDepth 20000 in
set_option maxHeartbeats 4000000 in
theorem rd_Until1 (b o cap : Nat) (w : World) (hW : WrdAt w b o 1) :
  Calls Tryz.prog 91 #[.slice (some ⟨b, o, none⟩) 1 cap] w fun e w' => UntP w e w' := by
 obtain ⟨s0, c0, z0⟩ := hW.ex 0 (by omega)
 rw [Nat.add_zero] at c0
 clear hW
 go_enter Tryz.func91, Tryz.ntmps91
 go_wp2_with fail
 refine (rd_Y s0 _ z0).mono ?_
 rintro e w1 ⟨y, rfl, y1, y2, hw⟩
 have hw := hw.symm
 subst hw
 by_cases hy : 0 < y
 ·
  skip
  have hym := ym_of (y := y) (m := 1) hy y2 (by omega) (by omega)
  go_wp2_with fail
  refine (spec_l01On y 1 ⟨#[49]⟩ _ hym (by decide)).mono ?_
  rintro e wD ⟨rfl, hbD⟩
  generalize moV y 1 ⟨#[49]⟩ = D at *
  by_cases hD : D = -1000000
  ·
   subst hD
   go_wp2
   go_ret3
   exact ⟨⟨_, _, _, rfl, by decide, below3 (Below.refl _ _) hbD⟩⟩
  ·
   have hD' : (D != -1000000) = true := by simpa using hD
   go_wp2_with fail
   refine (time_any _ _).mono ?_
   rintro e wT ⟨bt, rfl, hwT⟩
   have hwT := hwT.symm
   subst hwT
   cases bt
   all_goals
    go_wp2
    go_ret3
    exact ⟨⟨_, _, _, rfl, by decide, below3 (Below.refl _ _) hbD⟩⟩
 ·
  skip
  go_wp2
  go_ret3
  exact ⟨⟨_, _, _, rfl, by decide, Below.refl _ _⟩⟩
set_option maxRecDepth 20000 in
set_option maxHeartbeats 4000000 in
theorem rd_Until2 (b o cap : Nat) (w : World) (hW : WrdAt w b o 2) :
  Calls Tryz.prog 91 #[.slice (some ⟨b, o, none⟩) 2 cap] w fun e w' => UntP w e w' := by
 obtain ⟨s0, c0, z0⟩ := hW.ex 0 (by omega)
 rw [Nat.add_zero] at c0
 obtain ⟨s1, c1, z1⟩ := hW.ex 1 (by omega)
 clear hW
 go_enter Tryz.func91, Tryz.ntmps91
 go_wp2_with fail
 refine (rd_Y s0 _ z0).mono ?_
 rintro e w1 ⟨y, rfl, y1, y2, hw⟩
 have hw := hw.symm
 subst hw
 go_wp2_with fail
 refine (rd_Month s1 _).mono ?_
 rintro e w2 ⟨m, rfl, m1, m2, hb2⟩
 by_cases hy : 0 < y
 ·
  skip
  by_cases hm : m = 0
  ·
   subst hm
   go_wp2
   go_ret3
   exact ⟨⟨_, _, _, rfl, by decide, hb2⟩⟩
  ·
   have hm' : (m == 0) = false := by simpa using hm
   have hym := ym_of (y := y) (m := m) hy y2 (by omega) (by omega)
   go_wp2_with fail
   refine (spec_l01On y m ⟨#[49]⟩ _ hym (by decide)).mono ?_
   rintro e wD ⟨rfl, hbD⟩
   generalize moV y m ⟨#[49]⟩ = D at *
   by_cases hD : D = -1000000
   ·
    subst hD
    go_wp2
    go_ret3
    exact ⟨⟨_, _, _, rfl, by decide, below3 (hb2) hbD⟩⟩
   ·
    have hD' : (D != -1000000) = true := by simpa using hD
    go_wp2_with fail
    refine (time_any _ _).mono ?_
    rintro e wT ⟨bt, rfl, hwT⟩
    have hwT := hwT.symm
    subst hwT
    cases bt
    all_goals
     go_wp2
     go_ret3
     exact ⟨⟨_, _, _, rfl, by decide, below3 (hb2) hbD⟩⟩
 ·
  skip
  go_wp2
  go_ret3
  exact ⟨⟨_, _, _, rfl, by decide, hb2⟩⟩
set_option maxRecDepth 20000 in
set_option maxHeartbeats 4000000 in
theorem rd_Until3 (b o cap : Nat) (w : World) (hW : WrdAt w b o 3) :
  Calls Tryz.prog 91 #[.slice (some ⟨b, o, none⟩) 3 cap] w fun e w' => UntP w e w' := by
 obtain ⟨s0, c0, z0⟩ := hW.ex 0 (by omega)
 rw [Nat.add_zero] at c0
 obtain ⟨s1, c1, z1⟩ := hW.ex 1 (by omega)
 obtain ⟨s2, c2, z2⟩ := hW.ex 2 (by omega)
 clear hW
 go_enter Tryz.func91, Tryz.ntmps91
 go_wp2_with fail
 refine (rd_Y s0 _ z0).mono ?_
 rintro e w1 ⟨y, rfl, y1, y2, hw⟩
 have hw := hw.symm
 subst hw
 go_wp2_with fail
 refine (rd_Month s1 _).mono ?_
 rintro e w2 ⟨m, rfl, m1, m2, hb2⟩
 have c2 := bkeep c2 hb2
 by_cases hy : 0 < y
 ·
  skip
  by_cases hm : m = 0
  ·
   subst hm
   go_wp2
   go_ret3
   exact ⟨⟨_, _, _, rfl, by decide, hb2⟩⟩
  ·
   have hm' : (m == 0) = false := by simpa using hm
   have hym := ym_of (y := y) (m := m) hy y2 (by omega) (by omega)
   go_wp2_with fail
   refine (spec_l01On y m s2 _ hym (by omega)).mono ?_
   rintro e wD ⟨rfl, hbD⟩
   generalize moV y m s2 = D at *
   by_cases hD : D = -1000000
   ·
    subst hD
    go_wp2
    go_ret3
    exact ⟨⟨_, _, _, rfl, by decide, below3 (hb2) hbD⟩⟩
   ·
    have hD' : (D != -1000000) = true := by simpa using hD
    go_wp2_with fail
    refine (time_any _ _).mono ?_
    rintro e wT ⟨bt, rfl, hwT⟩
    have hwT := hwT.symm
    subst hwT
    cases bt
    all_goals
     go_wp2
     go_ret3
     exact ⟨⟨_, _, _, rfl, by decide, below3 (hb2) hbD⟩⟩
 ·
  skip
  go_wp2
  go_ret3
  exact ⟨⟨_, _, _, rfl, by decide, hb2⟩⟩
set_option maxRecDepth 20000 in
set_option maxHeartbeats 4000000 in
theorem rd_Until4 (b o cap : Nat) (w : World) (hW : WrdAt w b o 4) :
  Calls Tryz.prog 91 #[.slice (some ⟨b, o, none⟩) 4 cap] w fun e w' => UntP w e w' := by
 obtain ⟨s0, c0, z0⟩ := hW.ex 0 (by omega)
 rw [Nat.add_zero] at c0
 obtain ⟨s1, c1, z1⟩ := hW.ex 1 (by omega)
 obtain ⟨s2, c2, z2⟩ := hW.ex 2 (by omega)
 obtain ⟨s3, c3, z3⟩ := hW.ex 3 (by omega)
 clear hW
 go_enter Tryz.func91, Tryz.ntmps91
 go_wp2_with fail
 refine (rd_Y s0 _ z0).mono ?_
 rintro e w1 ⟨y, rfl, y1, y2, hw⟩
 have hw := hw.symm
 subst hw
 go_wp2_with fail
 refine (rd_Month s1 _).mono ?_
 rintro e w2 ⟨m, rfl, m1, m2, hb2⟩
 have c2 := bkeep c2 hb2
 have c3 := bkeep c3 hb2
 go_wp2_with fail
 refine (rd_Time s3 _ z3).mono ?_
 rintro e w3 hP
 obtain ⟨nt, ft, bb, rfl, zf, hb3⟩ := hP.ex
 by_cases hy : 0 < y
 ·
  skip
  cases bb with
  | false =>
   go_wp2
   go_ret3
   exact ⟨⟨_, _, _, rfl, zf, below3 hb2 hb3⟩⟩
  | true =>
   by_cases hm : m = 0
   ·
    subst hm
    go_wp2
    go_ret3
    exact ⟨⟨_, _, _, rfl, zf, below3 hb2 hb3⟩⟩
   ·
    have hm' : (m == 0) = false := by simpa using hm
    have hym := ym_of (y := y) (m := m) hy y2 (by omega) (by omega)
    go_wp2_with fail
    refine (spec_l01On y m s2 _ hym (by omega)).mono ?_
    rintro e wD ⟨rfl, hbD⟩
    generalize moV y m s2 = D at *
    by_cases hD : D = -1000000
    ·
     subst hD
     go_wp2
     go_ret3
     exact ⟨⟨_, _, _, rfl, zf, below3 (below3 hb2 hb3) hbD⟩⟩
    ·
     have hD' : (D != -1000000) = true := by simpa using hD
     go_wp2_with fail
     refine (time_any _ _).mono ?_
     rintro e wT ⟨bt, rfl, hwT⟩
     have hwT := hwT.symm
     subst hwT
     cases bt
     all_goals
      go_wp2
      go_ret3
      exact ⟨⟨_, _, _, rfl, zf, below3 (below3 hb2 hb3) hbD⟩⟩
 ·
  skip
  go_wp2
  go_ret3
  exact ⟨⟨_, _, _, rfl, zf, below3 hb2 hb3⟩⟩
set_option maxRecDepth 20000 in
set_option maxHeartbeats 4000000 in
theorem rd_Until5 (b o n cap : Nat) (w : World) (hn : 5 ≤ n) (hn2 : n ≤ 8001) (hW : WrdAt w b o n) :
  Calls Tryz.prog 91 #[.slice (some ⟨b, o, none⟩) n cap] w fun e w' => UntP w e w' := by
 obtain ⟨s0, c0, z0⟩ := hW.ex 0 (by omega)
 rw [Nat.add_zero] at c0
 obtain ⟨s1, c1, z1⟩ := hW.ex 1 (by omega)
 obtain ⟨s2, c2, z2⟩ := hW.ex 2 (by omega)
 obtain ⟨s3, c3, z3⟩ := hW.ex 3 (by omega)
 have g1 : (1 : Int) < (n : Int) := by omega
 have g2 : (2 : Int) < (n : Int) := by omega
 have g3 : (3 : Int) < (n : Int) := by omega
 have g4 : (4 : Int) < (n : Int) := by omega
 clear hW
 go_enter Tryz.func91, Tryz.ntmps91
 go_wp2_with fail
 refine (rd_Y s0 _ z0).mono ?_
 rintro e w1 ⟨y, rfl, y1, y2, hw⟩
 have hw := hw.symm
 subst hw
 go_wp2_with fail
 refine (rd_Month s1 _).mono ?_
 rintro e w2 ⟨m, rfl, m1, m2, hb2⟩
 have c2 := bkeep c2 hb2
 have c3 := bkeep c3 hb2
 go_wp2_with fail
 refine (rd_Time s3 _ z3).mono ?_
 rintro e w3 hP
 obtain ⟨nt, ft, bb, rfl, zf, hb3⟩ := hP.ex
 by_cases hy : 0 < y
 ·
  skip
  cases bb with
  | false =>
   go_wp2
   go_ret3
   exact ⟨⟨_, _, _, rfl, zf, below3 hb2 hb3⟩⟩
  | true =>
   by_cases hm : m = 0
   ·
    subst hm
    go_wp2
    go_ret3
    exact ⟨⟨_, _, _, rfl, zf, below3 hb2 hb3⟩⟩
   ·
    have hm' : (m == 0) = false := by simpa using hm
    go_wp2
    go_ret3
    exact ⟨⟨_, _, _, rfl, zf, below3 hb2 hb3⟩⟩
 ·
  skip
  go_wp2
  go_ret3
  exact ⟨⟨_, _, _, rfl, zf, below3 hb2 hb3⟩⟩
theorem rd_Until (b o n cap : Nat) (w : World) (hn : 1 ≤ n) (hn2 : n ≤ 8001) (hW : WrdAt w b o n) :
  Calls Tryz.prog 91 #[.slice (some ⟨b, o, none⟩) n cap] w fun e w' => UntP w e w' := by
 by_cases h1 : n = 1
 ·
  subst h1; exact rd_Until1 b o cap w hW
 by_cases h2 : n = 2
 ·
  subst h2; exact rd_Until2 b o cap w hW
 by_cases h3 : n = 3
 ·
  subst h3; exact rd_Until3 b o cap w hW
 by_cases h4 : n = 4
 ·
  subst h4; exact rd_Until4 b o cap w hW
 exact rd_Until5 b o n cap w (by omega) hn2 hW
end Go.Proofs.YtcelbkmnbjcjhaaGreat
namespace Go.Proofs.YtcelbkmnbjcjhaaGreat
open Go.RowKit

/-- an Era whose texts are short. -/
def E8 (E : EraD) : Prop := E.rules.size ≤ 8000 ∧ E.format.size ≤ 8000 ∧ E.of.size ≤ 8000
/-- what is told of an Era's words. -/
structure EraP (w : World) (e : Ending) (w' : World) : Prop where
 ex : ∃ (E : EraD) (m k : Bool), e = .returned (.tuple #[E.v, .bool m, .bool k]) ∧ E8 E ∧ Below w.heap.size w w'
/-- the Era that is being made, in the block q, and the answer's block r. -/
structure EraSt (w0 W : World) (q r : Nat) (E : EraD) : Prop where
 c : ∀ j x, E.cs[j]? = some x → W.cell? ⟨q, j, none⟩ = some x
 d : ∀ j, j < 6 → ∃ x, W.cell? ⟨r, j, none⟩ = some x
 f : ∀ j, W.frozen? ⟨q, j, none⟩ = false
 g : ∀ j, W.frozen? ⟨r, j, none⟩ = false
 bel : Below w0.heap.size w0 W
 hq : w0.heap.size ≤ q
 hr : w0.heap.size ≤ r
 ne : q ≠ r
theorem EraSt.call {w0 W W2 : World} {q r : Nat} {E : EraD} (h : EraSt w0 W q r E) (hb : Below W.heap.size W W2) : EraSt w0 W2 q r E where
 c j x hx := bkeep (h.c j x hx) hb
 d j hj := by obtain ⟨x, hx⟩ := h.d j hj; exact ⟨x, bkeep hx hb⟩
 f j := ((bcell hb).2 _ _ (World.block_lt_of_cell? _ _ (h.c 0 _ rfl))).trans (h.f j)
 g j := by obtain ⟨x, hx⟩ := h.d 0 (by omega); exact ((bcell hb).2 _ _ (World.block_lt_of_cell? _ _ hx)).trans (h.g j)
 bel := h.bel.trans (hb.mono h.bel.size)
 hq := h.hq
 hr := h.hr
 ne := h.ne
theorem EraSt.set {w0 W : World} {q r i : Nat} {E E' : EraD} {v x : Value} (h : EraSt w0 W q r E) (hx : E.cs[i]? = some x) (he : E'.cs = E.cs.set i v) : EraSt w0 (W.setCell ⟨q, i, none⟩ v) q r E' where
 c j u hu := by
  rw [he] at hu
  by_cases hj : i = j
  ·
   subst hj
   rw [List.getElem?_set_self (List.getElem?_eq_some_iff.mp hx).1] at hu
   obtain rfl := Option.some.inj hu
   exact World.cell?_setCell_same _ _ _ (h.c i x hx)
  ·
   rw [List.getElem?_set_ne hj] at hu
   rw [World.cell?_setCell_other _ _ _ _ (by simp <;> omega)]
   exact h.c j u hu
 d j hj := by
  obtain ⟨u, hu⟩ := h.d j hj
  have := h.ne
  exact ⟨u, by rw [World.cell?_setCell_other _ _ _ _ (by simp <;> omega)]; exact hu⟩
 f j := by rw [World.frozen?_setCell]; exact h.f j
 g j := by rw [World.frozen?_setCell]; exact h.g j
 bel := h.bel.setCell h.hq _
 hq := h.hq
 hr := h.hr
 ne := h.ne
def eraZ : EraD := ⟨0, ⟨#[]⟩, 0, ⟨#[]⟩, 253402300799, ⟨#[119]⟩⟩
theorem era_start (w : World) : EraSt w ((w.alloc (.cells #[.int .i64 0, .string ⟨#[]⟩, .int .i64 0, .string ⟨#[]⟩, .int .i64 0, .string ⟨#[]⟩] 130)).alloc (.cells #[.int .i64 0, .string ⟨#[]⟩, .int .i64 0, .string ⟨#[]⟩, .int .i64 253402300799, .string ⟨#[119]⟩] 130)) (w.heap.size + 1) w.heap.size eraZ where
 c j x hx := by
  have hj := (List.getElem?_eq_some_iff.mp hx).1
  simp [EraD.cs] at hj
  obtain rfl | rfl | rfl | rfl | rfl | rfl : j = 0 ∨ j = 1 ∨ j = 2 ∨ j = 3 ∨ j = 4 ∨ j = 5 := by omega
  all_goals
   obtain rfl := Option.some.inj hx
   simp [go_sem, eraZ]
 d j hj := by
  obtain rfl | rfl | rfl | rfl | rfl | rfl : j = 0 ∨ j = 1 ∨ j = 2 ∨ j = 3 ∨ j = 4 ∨ j = 5 := by omega
  all_goals exact ⟨_, by simp [go_sem]; rfl⟩
 f j := by simp [go_sem]
 g j := by simp [go_sem]
 bel := ((Below.refl w.heap.size w).alloc (Nat.le_refl _) _).alloc (by simp) _
 hq := by omega
 hr := by omega
 ne := by omega
/-- six cells laid. -/
def lay6 (W : World) (r : Nat) (E : EraD) : World := (((((W.setCell ⟨r, 0, none⟩ (.int .i64 E.offset)).setCell ⟨r, 1, none⟩ (.string E.rules)).setCell ⟨r, 2, none⟩ (.int .i64 E.save)).setCell ⟨r, 3, none⟩ (.string E.format)).setCell ⟨r, 4, none⟩ (.int .i64 E.until_)).setCell ⟨r, 5, none⟩ (.string E.of)
theorem lay6_at {W : World} {r : Nat} (E : EraD) (h : ∀ j, j < 6 → ∃ x, W.cell? ⟨r, j, none⟩ = some x) :
  (lay6 W r E).cell? ⟨r, 0, none⟩ = some (.int .i64 E.offset) ∧ (lay6 W r E).cell? ⟨r, 1, none⟩ = some (.string E.rules) ∧ (lay6 W r E).cell? ⟨r, 2, none⟩ = some (.int .i64 E.save) ∧ (lay6 W r E).cell? ⟨r, 3, none⟩ = some (.string E.format) ∧ (lay6 W r E).cell? ⟨r, 4, none⟩ = some (.int .i64 E.until_) ∧ (lay6 W r E).cell? ⟨r, 5, none⟩ = some (.string E.of) := by
 have o : ∀ (W : World) (i j : Nat) (v x : Value), i ≠ j → W.cell? ⟨r, j, none⟩ = some x → (W.setCell ⟨r, i, none⟩ v).cell? ⟨r, j, none⟩ = some x := fun W i j v x hij hx => by
  rw [World.cell?_setCell_other _ _ _ _ (by simp <;> omega)]; exact hx
 have s : ∀ (W : World) (i : Nat) (v : Value), (∃ x, W.cell? ⟨r, i, none⟩ = some x) → (W.setCell ⟨r, i, none⟩ v).cell? ⟨r, i, none⟩ = some v := fun W i v ⟨x, hx⟩ => World.cell?_setCell_same _ _ _ hx
 obtain ⟨x1, h1⟩ := h 1 (by omega)
 obtain ⟨x2, h2⟩ := h 2 (by omega)
 obtain ⟨x3, h3⟩ := h 3 (by omega)
 obtain ⟨x4, h4⟩ := h 4 (by omega)
 obtain ⟨x5, h5⟩ := h 5 (by omega)
 unfold lay6
 exact ⟨o _ 5 0 _ _ (by omega) (o _ 4 0 _ _ (by omega) (o _ 3 0 _ _ (by omega) (o _ 2 0 _ _ (by omega) (o _ 1 0 _ _ (by omega) (s _ 0 _ (h 0 (by omega))))))),
  o _ 5 1 _ _ (by omega) (o _ 4 1 _ _ (by omega) (o _ 3 1 _ _ (by omega) (o _ 2 1 _ _ (by omega) (s _ 1 _ ⟨_, o _ 0 1 _ _ (by omega) h1⟩)))),
  o _ 5 2 _ _ (by omega) (o _ 4 2 _ _ (by omega) (o _ 3 2 _ _ (by omega) (s _ 2 _ ⟨_, o _ 1 2 _ _ (by omega) (o _ 0 2 _ _ (by omega) h2)⟩))),
  o _ 5 3 _ _ (by omega) (o _ 4 3 _ _ (by omega) (s _ 3 _ ⟨_, o _ 2 3 _ _ (by omega) (o _ 1 3 _ _ (by omega) (o _ 0 3 _ _ (by omega) h3))⟩)),
  o _ 5 4 _ _ (by omega) (s _ 4 _ ⟨_, o _ 3 4 _ _ (by omega) (o _ 2 4 _ _ (by omega) (o _ 1 4 _ _ (by omega) (o _ 0 4 _ _ (by omega) h4)))⟩),
  s _ 5 _ ⟨_, o _ 4 5 _ _ (by omega) (o _ 3 5 _ _ (by omega) (o _ 2 5 _ _ (by omega) (o _ 1 5 _ _ (by omega) (o _ 0 5 _ _ (by omega) h5))))⟩⟩
theorem lay6_bel {w W : World} {r : Nat} (E : EraD) (h : Below w.heap.size w W) (hr : w.heap.size ≤ r) : Below w.heap.size w (lay6 W r E) :=
 (((((h.setCell hr _).setCell hr _).setCell hr _).setCell hr _).setCell hr _).setCell hr _
set_option maxHeartbeats 1000000 in
theorem rd_Era2 (b o n cap : Nat) (w : World) (hn : n < 3) :
  Calls Tryz.prog 73 #[.slice (some ⟨b, o, none⟩) n cap] w fun e w' => EraP w e w' := by
 have hg : (n : Int) < 3 := by omega
 have hB := fun o o2 => ((Below.refl w.heap.size w).alloc (Nat.le_refl _) o).alloc (by simp) o2
 go_enter Tryz.func73, Tryz.ntmps73
 go_wp2
 exact bodyPost_ret (v := .tuple #[eraZ.v, .bool false, .bool false]) (by simp [results, Tryz.results73, go_sem, eraZ, EraD.v]) rfl ⟨⟨_, _, _, rfl, by unfold E8 eraZ; decide, hB _ _⟩⟩
end Go.Proofs.YtcelbkmnbjcjhaaGreat
namespace Go.Proofs.YtcelbkmnbjcjhaaGreat
open Go.RowKit

/-- a Rule whose texts are short. -/
def R8 (R : RuleD) : Prop := R.name.size ≤ 8000 ∧ R.on.size ≤ 8000 ∧ R.of.size ≤ 8000 ∧ R.letter.size ≤ 8000
theorem R8.ok {R : RuleD} (h : R8 R) : R.ok := by obtain ⟨h1, h2, h3, h4⟩ := h; unfold RuleD.ok maxLen; omega
/-- what is told of a Rule's words. -/
structure RuleP (w : World) (e : Ending) (w' : World) : Prop where
 ex : ∃ (R : RuleD) (k : Bool), e = .returned (.tuple #[R.v, .bool k]) ∧ R8 R ∧ Below w.heap.size w w'
/-- the Rule that is being made, in the block q, and the answer's block r. -/
structure RuleSt (w0 W : World) (q r : Nat) (R : RuleD) : Prop where
 c : ∀ j x, R.cs[j]? = some x → W.cell? ⟨q, j, none⟩ = some x
 d : ∀ j, j < 9 → ∃ x, W.cell? ⟨r, j, none⟩ = some x
 f : ∀ j, W.frozen? ⟨q, j, none⟩ = false
 g : ∀ j, W.frozen? ⟨r, j, none⟩ = false
 bel : Below w0.heap.size w0 W
 hq : w0.heap.size ≤ q
 hr : w0.heap.size ≤ r
 ne : q ≠ r
theorem RuleSt.call {w0 W W2 : World} {q r : Nat} {R : RuleD} (h : RuleSt w0 W q r R) (hb : Below W.heap.size W W2) : RuleSt w0 W2 q r R where
 c j x hx := bkeep (h.c j x hx) hb
 d j hj := by obtain ⟨x, hx⟩ := h.d j hj; exact ⟨x, bkeep hx hb⟩
 f j := ((bcell hb).2 _ _ (World.block_lt_of_cell? _ _ (h.c 0 _ rfl))).trans (h.f j)
 g j := by obtain ⟨x, hx⟩ := h.d 0 (by omega); exact ((bcell hb).2 _ _ (World.block_lt_of_cell? _ _ hx)).trans (h.g j)
 bel := h.bel.trans (hb.mono h.bel.size)
 hq := h.hq
 hr := h.hr
 ne := h.ne
theorem RuleSt.set {w0 W : World} {q r i : Nat} {R R' : RuleD} {v x : Value} (h : RuleSt w0 W q r R) (hx : R.cs[i]? = some x) (he : R'.cs = R.cs.set i v) : RuleSt w0 (W.setCell ⟨q, i, none⟩ v) q r R' where
 c j u hu := by
  rw [he] at hu
  by_cases hj : i = j
  ·
   subst hj
   rw [List.getElem?_set_self (List.getElem?_eq_some_iff.mp hx).1] at hu
   obtain rfl := Option.some.inj hu
   exact World.cell?_setCell_same _ _ _ (h.c i x hx)
  ·
   rw [List.getElem?_set_ne hj] at hu
   rw [World.cell?_setCell_other _ _ _ _ (by simp <;> omega)]
   exact h.c j u hu
 d j hj := by
  obtain ⟨u, hu⟩ := h.d j hj
  have := h.ne
  exact ⟨u, by rw [World.cell?_setCell_other _ _ _ _ (by simp <;> omega)]; exact hu⟩
 f j := by rw [World.frozen?_setCell]; exact h.f j
 g j := by rw [World.frozen?_setCell]; exact h.g j
 bel := h.bel.setCell h.hq _
 hq := h.hq
 hr := h.hr
 ne := h.ne
/-- nine cells laid. -/
def lay9 (W : World) (r : Nat) (R : RuleD) : World := (((((((((W.setCell ⟨r, 0, none⟩ (.string R.name)).setCell ⟨r, 1, none⟩ (.int .i64 R.lo)).setCell ⟨r, 2, none⟩ (.int .i64 R.hi)).setCell ⟨r, 3, none⟩ (.int .i64 R.month)).setCell ⟨r, 4, none⟩ (.string R.on)).setCell ⟨r, 5, none⟩ (.int .i64 R.at_)).setCell ⟨r, 6, none⟩ (.string R.of)).setCell ⟨r, 7, none⟩ (.int .i64 R.save)).setCell ⟨r, 8, none⟩ (.string R.letter))
theorem lay9_at {W : World} {r : Nat} (R : RuleD) (h : ∀ j, j < 9 → ∃ x, W.cell? ⟨r, j, none⟩ = some x) : (lay9 W r R).cell? ⟨r, 0, none⟩ = some (.string R.name) ∧ (lay9 W r R).cell? ⟨r, 1, none⟩ = some (.int .i64 R.lo) ∧ (lay9 W r R).cell? ⟨r, 2, none⟩ = some (.int .i64 R.hi) ∧ (lay9 W r R).cell? ⟨r, 3, none⟩ = some (.int .i64 R.month) ∧ (lay9 W r R).cell? ⟨r, 4, none⟩ = some (.string R.on) ∧ (lay9 W r R).cell? ⟨r, 5, none⟩ = some (.int .i64 R.at_) ∧ (lay9 W r R).cell? ⟨r, 6, none⟩ = some (.string R.of) ∧ (lay9 W r R).cell? ⟨r, 7, none⟩ = some (.int .i64 R.save) ∧ (lay9 W r R).cell? ⟨r, 8, none⟩ = some (.string R.letter) := by
 have o : ∀ (W : World) (i j : Nat) (v x : Value), i ≠ j → W.cell? ⟨r, j, none⟩ = some x → (W.setCell ⟨r, i, none⟩ v).cell? ⟨r, j, none⟩ = some x := fun W i j v x hij hx => by
  rw [World.cell?_setCell_other _ _ _ _ (by simp <;> omega)]; exact hx
 have s : ∀ (W : World) (i : Nat) (v : Value), (∃ x, W.cell? ⟨r, i, none⟩ = some x) → (W.setCell ⟨r, i, none⟩ v).cell? ⟨r, i, none⟩ = some v := fun W i v ⟨x, hx⟩ => World.cell?_setCell_same _ _ _ hx
 obtain ⟨x0, h0⟩ := h 0 (by omega)
 obtain ⟨x1, h1⟩ := h 1 (by omega)
 obtain ⟨x2, h2⟩ := h 2 (by omega)
 obtain ⟨x3, h3⟩ := h 3 (by omega)
 obtain ⟨x4, h4⟩ := h 4 (by omega)
 obtain ⟨x5, h5⟩ := h 5 (by omega)
 obtain ⟨x6, h6⟩ := h 6 (by omega)
 obtain ⟨x7, h7⟩ := h 7 (by omega)
 obtain ⟨x8, h8⟩ := h 8 (by omega)
 unfold lay9
 exact ⟨o _ 8 0 _ _ (by omega) (o _ 7 0 _ _ (by omega) (o _ 6 0 _ _ (by omega) (o _ 5 0 _ _ (by omega) (o _ 4 0 _ _ (by omega) (o _ 3 0 _ _ (by omega) (o _ 2 0 _ _ (by omega) (o _ 1 0 _ _ (by omega) (s _ 0 _ ⟨_, h0⟩)))))))), o _ 8 1 _ _ (by omega) (o _ 7 1 _ _ (by omega) (o _ 6 1 _ _ (by omega) (o _ 5 1 _ _ (by omega) (o _ 4 1 _ _ (by omega) (o _ 3 1 _ _ (by omega) (o _ 2 1 _ _ (by omega) (s _ 1 _ ⟨_, o _ 0 1 _ _ (by omega) (h1)⟩))))))), o _ 8 2 _ _ (by omega) (o _ 7 2 _ _ (by omega) (o _ 6 2 _ _ (by omega) (o _ 5 2 _ _ (by omega) (o _ 4 2 _ _ (by omega) (o _ 3 2 _ _ (by omega) (s _ 2 _ ⟨_, o _ 1 2 _ _ (by omega) (o _ 0 2 _ _ (by omega) (h2))⟩)))))), o _ 8 3 _ _ (by omega) (o _ 7 3 _ _ (by omega) (o _ 6 3 _ _ (by omega) (o _ 5 3 _ _ (by omega) (o _ 4 3 _ _ (by omega) (s _ 3 _ ⟨_, o _ 2 3 _ _ (by omega) (o _ 1 3 _ _ (by omega) (o _ 0 3 _ _ (by omega) (h3)))⟩))))), o _ 8 4 _ _ (by omega) (o _ 7 4 _ _ (by omega) (o _ 6 4 _ _ (by omega) (o _ 5 4 _ _ (by omega) (s _ 4 _ ⟨_, o _ 3 4 _ _ (by omega) (o _ 2 4 _ _ (by omega) (o _ 1 4 _ _ (by omega) (o _ 0 4 _ _ (by omega) (h4))))⟩)))), o _ 8 5 _ _ (by omega) (o _ 7 5 _ _ (by omega) (o _ 6 5 _ _ (by omega) (s _ 5 _ ⟨_, o _ 4 5 _ _ (by omega) (o _ 3 5 _ _ (by omega) (o _ 2 5 _ _ (by omega) (o _ 1 5 _ _ (by omega) (o _ 0 5 _ _ (by omega) (h5)))))⟩))), o _ 8 6 _ _ (by omega) (o _ 7 6 _ _ (by omega) (s _ 6 _ ⟨_, o _ 5 6 _ _ (by omega) (o _ 4 6 _ _ (by omega) (o _ 3 6 _ _ (by omega) (o _ 2 6 _ _ (by omega) (o _ 1 6 _ _ (by omega) (o _ 0 6 _ _ (by omega) (h6))))))⟩)), o _ 8 7 _ _ (by omega) (s _ 7 _ ⟨_, o _ 6 7 _ _ (by omega) (o _ 5 7 _ _ (by omega) (o _ 4 7 _ _ (by omega) (o _ 3 7 _ _ (by omega) (o _ 2 7 _ _ (by omega) (o _ 1 7 _ _ (by omega) (o _ 0 7 _ _ (by omega) (h7)))))))⟩), s _ 8 _ ⟨_, o _ 7 8 _ _ (by omega) (o _ 6 8 _ _ (by omega) (o _ 5 8 _ _ (by omega) (o _ 4 8 _ _ (by omega) (o _ 3 8 _ _ (by omega) (o _ 2 8 _ _ (by omega) (o _ 1 8 _ _ (by omega) (o _ 0 8 _ _ (by omega) (h8))))))))⟩⟩
theorem lay9_bel {w W : World} {r : Nat} (R : RuleD) (h : Below w.heap.size w W) (hr : w.heap.size ≤ r) : Below w.heap.size w (lay9 W r R) :=
 ((((((((h.setCell hr _).setCell hr _).setCell hr _).setCell hr _).setCell hr _).setCell hr _).setCell hr _).setCell hr _).setCell hr _
def ruleZ : RuleD := ⟨⟨#[]⟩, 0, 0, 0, ⟨#[]⟩, 0, ⟨#[]⟩, 0, ⟨#[]⟩⟩
set_option maxHeartbeats 1000000 in
theorem rd_Rule0 (b o n cap : Nat) (w : World) (hn : n ≠ 10) :
  Calls Tryz.prog 74 #[.slice (some ⟨b, o, none⟩) n cap] w fun e w' => RuleP w e w' := by
 have hg : ((n : Int) != 10) = true := by simp; omega
 have hB := fun o => (Below.refl w.heap.size w).alloc (Nat.le_refl _) o
 go_enter Tryz.func74, Tryz.ntmps74
 go_wp2
 exact bodyPost_ret (v := .tuple #[ruleZ.v, .bool false]) (by simp [results, Tryz.results74, go_sem, ruleZ, RuleD.v]) rfl ⟨⟨_, _, rfl, by unfold R8 ruleZ; decide, hB _⟩⟩
theorem lay9_other {W : World} {r q j : Nat} (R : RuleD) (h : q ≠ r) : (lay9 W r R).cell? ⟨q, j, none⟩ = W.cell? ⟨q, j, none⟩ := by
 unfold lay9
 rw [World.cell?_setCell_other _ _ _ _ (by simp <;> omega), World.cell?_setCell_other _ _ _ _ (by simp <;> omega), World.cell?_setCell_other _ _ _ _ (by simp <;> omega), World.cell?_setCell_other _ _ _ _ (by simp <;> omega), World.cell?_setCell_other _ _ _ _ (by simp <;> omega), World.cell?_setCell_other _ _ _ _ (by simp <;> omega), World.cell?_setCell_other _ _ _ _ (by simp <;> omega), World.cell?_setCell_other _ _ _ _ (by simp <;> omega), World.cell?_setCell_other _ _ _ _ (by simp <;> omega)]
theorem ruleStA {w wA wM : World} {a on le : ByteArray} {l h mo : Int} (bA : Below w.heap.size w wA) (sA : wA.heap.size = w.heap.size + 1) (rA : ∀ j, j < 9 → ∃ x, wA.cell? ⟨w.heap.size, j, none⟩ = some x) (fA : ∀ j, wA.frozen? ⟨w.heap.size, j, none⟩ = false) (hb : Below wA.drew.heap.size wA.drew wM) :
  RuleSt w (wM.alloc (.cells #[.string a, .int .i64 l, .int .i64 h, .int .i64 mo, .string on, .int .i64 0, .string ⟨#[]⟩, .int .i64 0, .string le] 117)) wM.heap.size w.heap.size ⟨a, l, h, mo, on, 0, ⟨#[]⟩, 0, le⟩ := by
 have hsz : wA.heap.size ≤ wM.heap.size := hb.size
 have hb' : Below wA.heap.size wA wM := ⟨hb.1, hb.2, hb.3, hb.4, hb.5⟩
 have ba : Below wM.heap.size wM (wM.alloc (.cells #[.string a, .int .i64 l, .int .i64 h, .int .i64 mo, .string on, .int .i64 0, .string ⟨#[]⟩, .int .i64 0, .string le] 117)) := (Below.refl _ _).alloc (Nat.le_refl _) _
 exact {
  c := fun j x hx => by
   have hj := (List.getElem?_eq_some_iff.mp hx).1
   simp [RuleD.cs] at hj
   obtain rfl | rfl | rfl | rfl | rfl | rfl | rfl | rfl | rfl : j = 0 ∨ j = 1 ∨ j = 2 ∨ j = 3 ∨ j = 4 ∨ j = 5 ∨ j = 6 ∨ j = 7 ∨ j = 8 := by omega
   all_goals
    obtain rfl := Option.some.inj hx
    simp [go_sem]
  d := fun j hj => by obtain ⟨x, hx⟩ := rA j hj; exact ⟨x, bkeep (bkeep hx hb') ba⟩
  f := fun j => by simp [go_sem]
  g := fun j => by
   obtain ⟨x, hx⟩ := rA 0 (by omega)
   exact ((bcell ba).2 _ _ (World.block_lt_of_cell? _ _ (bkeep hx hb'))).trans (((bcell hb').2 _ _ (World.block_lt_of_cell? _ _ hx)).trans (fA j))
  bel := (bA.trans (hb'.mono bA.size)).trans (ba.mono (by omega))
  hq := by omega
  hr := Nat.le_refl _
  ne := by omega }
set_option maxHeartbeats 1000000 in
theorem ruleStB {w wA wM : World} {a on le : ByteArray} {l h mo : Int} (bA : Below w.heap.size w wA) (sA : wA.heap.size = w.heap.size + 1) (rA : ∀ j, j < 9 → ∃ x, wA.cell? ⟨w.heap.size, j, none⟩ = some x) (fA : ∀ j, wA.frozen? ⟨w.heap.size, j, none⟩ = false) (hb : Below (wA.drew.alloc (.cells #[.string ⟨#[]⟩, .int .i64 0, .int .i64 0, .int .i64 0, .string ⟨#[]⟩, .int .i64 0, .string ⟨#[]⟩, .int .i64 0, .string ⟨#[]⟩] 117)).heap.size (wA.drew.alloc (.cells #[.string ⟨#[]⟩, .int .i64 0, .int .i64 0, .int .i64 0, .string ⟨#[]⟩, .int .i64 0, .string ⟨#[]⟩, .int .i64 0, .string ⟨#[]⟩] 117)) wM) :
  RuleSt w (lay9 wM wA.heap.size ⟨a, l, h, mo, on, 0, ⟨#[]⟩, 0, le⟩) wA.heap.size w.heap.size ⟨a, l, h, mo, on, 0, ⟨#[]⟩, 0, le⟩ := by
 have ba : Below wA.heap.size wA (wA.drew.alloc (.cells #[.string ⟨#[]⟩, .int .i64 0, .int .i64 0, .int .i64 0, .string ⟨#[]⟩, .int .i64 0, .string ⟨#[]⟩, .int .i64 0, .string ⟨#[]⟩] 117)) := (show Below wA.heap.size wA wA.drew from ⟨rfl, rfl, rfl, Nat.le_refl _, fun _ _ => rfl⟩).alloc (Nat.le_refl _) _
 have hsz := hb.size
 have hex : ∀ j, j < 9 → ∃ x, wM.cell? ⟨wA.heap.size, j, none⟩ = some x := fun j hj => by
  obtain rfl | rfl | rfl | rfl | rfl | rfl | rfl | rfl | rfl : j = 0 ∨ j = 1 ∨ j = 2 ∨ j = 3 ∨ j = 4 ∨ j = 5 ∨ j = 6 ∨ j = 7 ∨ j = 8 := by omega
  all_goals exact ⟨_, bkeep (w1 := wA.drew.alloc (.cells #[.string ⟨#[]⟩, .int .i64 0, .int .i64 0, .int .i64 0, .string ⟨#[]⟩, .int .i64 0, .string ⟨#[]⟩, .int .i64 0, .string ⟨#[]⟩] 117)) (by simp [go_sem]; rfl) hb⟩
 have bb : Below w.heap.size w wM := (bA.trans (ba.mono bA.size)).trans (hb.mono (by simp; omega))
 obtain ⟨t0, t1, t2, t3, t4, t5, t6, t7, t8⟩ := lay9_at (W := wM) (r := wA.heap.size) ⟨a, l, h, mo, on, 0, ⟨#[]⟩, 0, le⟩ hex
 have hfr : ∀ b j, (lay9 wM wA.heap.size ⟨a, l, h, mo, on, 0, ⟨#[]⟩, 0, le⟩).frozen? ⟨b, j, none⟩ = wM.frozen? ⟨b, j, none⟩ := fun b j => by unfold lay9; simp only [World.frozen?_setCell]
 have ho : ∀ q j, q ≠ wA.heap.size → (lay9 wM wA.heap.size ⟨a, l, h, mo, on, 0, ⟨#[]⟩, 0, le⟩).cell? ⟨q, j, none⟩ = wM.cell? ⟨q, j, none⟩ := fun q j hq => lay9_other _ hq
 have hbl : Below w.heap.size w (lay9 wM wA.heap.size ⟨a, l, h, mo, on, 0, ⟨#[]⟩, 0, le⟩) := lay9_bel _ bb (by omega)
 clear hex
 generalize lay9 wM wA.heap.size ⟨a, l, h, mo, on, 0, ⟨#[]⟩, 0, le⟩ = WL at *
 exact {
  c := fun j x hx => by
   have hj := (List.getElem?_eq_some_iff.mp hx).1
   simp [RuleD.cs] at hj
   obtain rfl | rfl | rfl | rfl | rfl | rfl | rfl | rfl | rfl : j = 0 ∨ j = 1 ∨ j = 2 ∨ j = 3 ∨ j = 4 ∨ j = 5 ∨ j = 6 ∨ j = 7 ∨ j = 8 := by omega
   all_goals
    obtain rfl := Option.some.inj hx
    first | exact t0 | exact t1 | exact t2 | exact t3 | exact t4 | exact t5 | exact t6 | exact t7 | exact t8
  d := fun j hj => by
   obtain ⟨x, hx⟩ := rA j hj
   refine ⟨x, ?_⟩
   rw [ho _ _ (by omega)]
   exact bkeep (bkeep hx ba) hb
  f := fun j => by
   rw [hfr]
   exact ((bcell hb).2 _ _ (by simp)).trans (by simp [go_sem])
  g := fun j => by
   rw [hfr]
   obtain ⟨x, hx⟩ := rA 0 (by omega)
   exact ((bcell hb).2 _ _ (World.block_lt_of_cell? _ _ (bkeep hx ba))).trans (((bcell ba).2 _ _ (World.block_lt_of_cell? _ _ hx)).trans (fA j))
  bel := hbl
  hq := by omega
  hr := Nat.le_refl _
  ne := by omega }
theorem ruleStC {w wA wM : World} {a on le : ByteArray} {l h mo : Int} (bA : Below w.heap.size w wA) (sA : wA.heap.size = w.heap.size + 1) (rA : ∀ j, j < 9 → ∃ x, wA.cell? ⟨w.heap.size, j, none⟩ = some x) (fA : ∀ j, wA.frozen? ⟨w.heap.size, j, none⟩ = false) (hb : Below (wA.drew.alloc (.cells #[.string ⟨#[]⟩, .int .i64 0, .int .i64 0, .int .i64 0, .string ⟨#[]⟩, .int .i64 0, .string ⟨#[]⟩, .int .i64 0, .string ⟨#[]⟩] 117)).heap.size (wA.drew.alloc (.cells #[.string ⟨#[]⟩, .int .i64 0, .int .i64 0, .int .i64 0, .string ⟨#[]⟩, .int .i64 0, .string ⟨#[]⟩, .int .i64 0, .string ⟨#[]⟩] 117)) wM) :
  RuleSt w (((((((((wM.setCell ⟨wA.heap.size, 0, none⟩ (.string a)).setCell ⟨wA.heap.size, 1, none⟩ (.int .i64 l)).setCell ⟨wA.heap.size, 2, none⟩ (.int .i64 h)).setCell ⟨wA.heap.size, 3, none⟩ (.int .i64 mo)).setCell ⟨wA.heap.size, 4, none⟩ (.string on)).setCell ⟨wA.heap.size, 5, none⟩ (.int .i64 0)).setCell ⟨wA.heap.size, 6, none⟩ (.string ⟨#[]⟩)).setCell ⟨wA.heap.size, 7, none⟩ (.int .i64 0)).setCell ⟨wA.heap.size, 8, none⟩ (.string le)) wA.heap.size w.heap.size ⟨a, l, h, mo, on, 0, ⟨#[]⟩, 0, le⟩ := ruleStB bA sA rA fA hb
end Go.Proofs.YtcelbkmnbjcjhaaGreat
