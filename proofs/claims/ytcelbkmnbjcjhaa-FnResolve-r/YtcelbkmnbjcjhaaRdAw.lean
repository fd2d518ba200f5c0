/- Packed: Rd2 Rd3. -/
import Derived.Test.YtcelbkmnbjcjhaaDr0w
import Derived.Test.YtcelbkmnbjcjhaaOffAw
import Derived.Test.YtcelbkmnbjcjhaaOffBw
import Derived.Test.YtcelbkmnbjcjhaaNamesPw
import Derived.BigQuiet
import Derived.OwnWalk
namespace Go.Proofs.Ytcelbkmnbjcjhaa
open Go.RowKit

theorem rd_Y (s : ByteArray) (w : World) (hs : s.size ≤ 8000) :
    Calls Try.prog 87 #[.string s] w fun e w' => ∃ y : Int, e = .returned (.int .i64 y) ∧ 0 ≤ y ∧ y ≤ 9999 ∧ w' = w := by
  have hD : Calls Try.prog 96 #[.string s] w fun e w' => e = .returned (.int .i64 (ldM s)) ∧ w' = w := spec_l01DigitsM s w hs
  by_cases h1 : ldM s < 0
  · go_enter Try.func87, Try.ntmps87
    go_wp2_with fail
    refine hD.mono ?_
    rintro e w1 ⟨rfl, hw⟩
    have hw := hw.symm
    subst hw
    go_wp2
    go_ret
    exact ⟨0, rfl, by omega, by omega, rfl⟩
  · by_cases h2 : 9999 < ldM s
    · go_enter Try.func87, Try.ntmps87
      go_wp2_with fail
      refine hD.mono ?_
      rintro e w1 ⟨rfl, hw⟩
      have hw := hw.symm
      subst hw
      go_wp2
      go_ret
      exact ⟨0, rfl, by omega, by omega, rfl⟩
    · go_enter Try.func87, Try.ntmps87
      go_wp2_with fail
      refine hD.mono ?_
      rintro e w1 ⟨rfl, hw⟩
      have hw := hw.symm
      subst hw
      go_wp2
      go_ret
      exact ⟨_, rfl, by omega, by omega, rfl⟩
theorem rd_Months (w : World) :
    Calls Try.prog 97 #[] w fun e w' => e = .returned (.slice (some ⟨w.heap.size, 0, none⟩) 12 12) ∧ StrRow w' w.heap.size 12 100 ∧ Below w.heap.size w w' := by
  go_enter Try.func97, Try.ntmps97
  go_wp2
  go_ret
  exact ⟨rfl, str_row w [⟨#[74, 97, 110]⟩, ⟨#[70, 101, 98]⟩, ⟨#[77, 97, 114]⟩, ⟨#[65, 112, 114]⟩, ⟨#[77, 97, 121]⟩, ⟨#[74, 117, 110]⟩, ⟨#[74, 117, 108]⟩, ⟨#[65, 117, 103]⟩, ⟨#[83, 101, 112]⟩, ⟨#[79, 99, 116]⟩, ⟨#[78, 111, 118]⟩, ⟨#[68, 101, 99]⟩] _ (by decide), (Below.refl _ _).alloc (Nat.le_refl _) _⟩
set_option maxHeartbeats 1000000 in
theorem rd_Month (t : ByteArray) (w : World) :
    Calls Try.prog 88 #[.string t] w fun e w' => ∃ m : Int, e = .returned (.int .i64 m) ∧ 0 ≤ m ∧ m ≤ 12 ∧ Below w.heap.size w w' := by
  go_enter Try.func88, Try.ntmps88
  go_wp2_with fail
  refine (rd_Months _).mono ?_
  rintro e w1 ⟨rfl, hR, hb1⟩
  have HR : Hid (StrRow w1 w.heap.size 12 100) := hR
  clear hR
  go_wp2
  go_loopw [4] (fun i wr => ∃ k : Nat, k ≤ 12 ∧ i = .int .i64 k ∧ wr = w1) (fun i _ => 12 - (intOf i).toNat)
  case atStart => exact ⟨0, by omega, rfl, rfl⟩
  case round =>
    obtain ⟨k, hk, rfl, hw⟩ := hrel
    have hw := hw.symm
    subst hw
    by_cases hlt : k < 12
    · obtain ⟨s, hs, _⟩ := HR.out k hlt
      have hki : (k : Int) < 12 := by omega
      cases hb : (s.toList == t.toList) with
      | true =>
        go_wp2
        go_ret
        exact ⟨(k : Int) + 1, by go_num, by omega, by omega, hb1⟩
      | false =>
        go_wp2
        go_roundw
        case rel => exact ⟨k + 1, by omega, by go_num, trivial⟩
        case measure => simp [intOf] <;> omega
    · have hki : ¬ (k : Int) < 12 := by omega
      go_wp2
      go_ret
      exact ⟨0, rfl, by omega, by omega, hb1⟩
end Go.Proofs.Ytcelbkmnbjcjhaa
namespace Go.Proofs.Ytcelbkmnbjcjhaa
open Go.RowKit

/-- what a time read is. -/
structure TimeRP (w : World) (e : Ending) (w' : World) : Prop where
  ex : ∃ n f b, e = .returned (.tuple #[.int .i64 n, .string f, .bool b]) ∧ f.size ≤ 8000 ∧ Below w.heap.size w w'
theorem okO_none : okO ⟨#[]⟩ = false := by decide +kernel
theorem okO_some {s : ByteArray} (h : okO s = true) : 0 < s.size := by
  rcases Nat.eq_zero_or_pos s.size with h0 | h0
  · have : s = ⟨#[]⟩ := by
      cases s with
      | mk d => simp [ByteArray.size] at h0; rw [h0]
    rw [this, okO_none] at h
    cases h
  · exact h0
theorem one_short (s : ByteArray) (i j : Nat) (hs : s.size ≤ 8000) : (s.extract i j).size ≤ 8000 := by rw [ByteArray.size_extract]; omega
set_option maxRecDepth 20000 in
set_option maxHeartbeats 2000000 in
theorem rd_Time (s : ByteArray) (w : World) (hs : s.size ≤ 8000) : Calls Try.prog 89 #[.string s] w fun e w' => TimeRP w e w' := by
  by_cases h0 : s.size = 0
  · have hO := spec_l01Offset s w hs
    have hk : okO s = false := by
      cases h : okO s
      · rfl
      · have := okO_some h; omega
    rw [hk] at hO
    have hg : ¬ (0 : Int) < (s.size : Int) := by omega
    go_enter Try.func89, Try.ntmps89
    go_wp2_with fail
    refine hO.mono ?_
    rintro e w1 ⟨⟨n, rfl, _⟩, hb⟩
    clear hO
    go_wp2_with fail
    go_quiet (fail)
    go_wp2
    go_ret3
    exact ⟨⟨_, _, _, rfl, by decide, below_drewN hb _⟩⟩
  · have hg : (0 : Int) < (s.size : Int) := by omega
    cases hof : ofB (s.extract (s.size - 1) s.size) with
    | false =>
      have hF := spec_l02Of (s.extract (s.size - 1) s.size) w
      rw [hof] at hF
      have hO := spec_l01Offset s w hs
      cases hk : okO s with
      | false =>
        rw [hk] at hO
        go_enter Try.func89, Try.ntmps89
        go_wp2_with fail
        refine hF.mono ?_
        rintro e w1 ⟨rfl, hw⟩
        have hw := hw.symm
        subst hw
        go_wp2_with fail
        refine hO.mono ?_
        rintro e w1 ⟨⟨n, rfl, _⟩, hb⟩
        clear hO hF
        go_wp2_with fail
        go_quiet (fail)
        go_wp2
        go_ret3
        exact ⟨⟨_, _, _, rfl, by decide, below_drewN hb _⟩⟩
      | true =>
        rw [hk] at hO
        have hp := okO_some hk
        go_enter Try.func89, Try.ntmps89
        go_wp2_with fail
        refine hF.mono ?_
        rintro e w1 ⟨rfl, hw⟩
        have hw := hw.symm
        subst hw
        go_wp2_with fail
        refine hO.mono ?_
        rintro e w1 ⟨⟨n, rfl, _⟩, hb⟩
        clear hO hF
        go_wp2_with fail
        go_quiet (fail)
        go_wp2
        go_ret3
        exact ⟨⟨_, _, _, rfl, by decide, below_drewN hb _⟩⟩
    | true =>
      have hF := spec_l02Of (s.extract (s.size - 1) s.size) w
      rw [hof] at hF
      have hz := one_short s (s.size - 1) s.size hs
      have hO := spec_l01Offset (s.extract 0 (s.size - 1)) w (one_short s _ _ hs)
      cases hk : okO (s.extract 0 (s.size - 1)) with
      | false =>
        rw [hk] at hO
        go_enter Try.func89, Try.ntmps89
        go_wp2_with fail
        refine hF.mono ?_
        rintro e w1 ⟨rfl, hw⟩
        have hw := hw.symm
        subst hw
        go_wp2_with fail
        refine hO.mono ?_
        rintro e w1 ⟨⟨n, rfl, _⟩, hb⟩
        clear hO hF
        go_wp2_with fail
        go_quiet (fail)
        go_wp2
        go_ret3
        exact ⟨⟨_, _, _, rfl, hz, below_drewN hb _⟩⟩
      | true =>
        rw [hk] at hO
        have hp := okO_some hk
        go_enter Try.func89, Try.ntmps89
        go_wp2_with fail
        refine hF.mono ?_
        rintro e w1 ⟨rfl, hw⟩
        have hw := hw.symm
        subst hw
        go_wp2_with fail
        refine hO.mono ?_
        rintro e w1 ⟨⟨n, rfl, _⟩, hb⟩
        clear hO hF
        generalize s.extract 0 (s.size - 1) = t at *
        go_wp2_with fail
        go_quiet (fail)
        go_wp2
        go_ret3
        exact ⟨⟨_, _, _, rfl, hz, below_drewN hb _⟩⟩
end Go.Proofs.Ytcelbkmnbjcjhaa
