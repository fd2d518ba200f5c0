/- The model's JournalCrash. -/
import Derived.Test.YteajdbnongpkfaaDoorJ5
namespace Go.Proofs.YteajdbnongpkfaaDoor
open Go.RowKit

set_option maxHeartbeats 1000000 in
theorem spec_l01MinJ (a b : Int) (w : World) :
    Calls Tryd.prog 27 #[.int .i64 a, .int .i64 b] w fun e w' => e = .returned (.int .i64 (if a < b then a else b)) ∧ w' = w := by
  by_cases h : a < b
  · rw [if_pos h]
    go_enter Tryd.func27, Tryd.ntmps27
    go_wp2
    go_ret
    exact ⟨rfl, rfl⟩
  · rw [if_neg h]
    go_enter Tryd.func27, Tryd.ntmps27
    go_wp2
    go_ret
    exact ⟨rfl, rfl⟩
theorem keepN_bd {s : ByteArray} {y keep : Int} (h : jB s y = true) : keepN s y keep ≤ s.size := by
  have := jB_in h
  unfold keepN; split
  · split <;> omega
  · omega
set_option maxRecDepth 200000 in
set_option maxHeartbeats 2000000 in
theorem spec_JournalCrash (s : ByteArray) (y keep : Int) (w : World) :
    Calls Tryd.prog 17 #[.agg #[.string s, .int .i64 y], .int .i64 keep] w fun e w' => e = .returned (.agg #[.string (crashT s y keep), .int .i64 (crashY s y keep)]) ∧ Below w.heap.size w w' := by
  have hJ := fun w => spec_JournalRight s y w
  have hg1 : w.heap.size ≤ w.heap.size + 1 := by omega
  cases hj : jB s y with
  | false =>
    have e1 : crashT s y keep = s := by unfold crashT; rw [hj]; rfl
    have e2 : crashY s y keep = y := by unfold crashY; rw [hj]; rfl
    rw [e1, e2]
    rw [hj] at hJ
    clear hj e1 e2
    go_enter Tryd.func17, Tryd.ntmps17
    go_wp2_with fail
    refine (hJ _).mono ?_
    rintro e w1 ⟨rfl, hb1⟩
    obtain ⟨⟨c0, c1⟩, _, ⟨r0, r1⟩, f, hB1⟩ := keep2 hb1
    have f0 := f 0
    have f1 := f 1
    clear f hb1
    obtain ⟨s0, s1⟩ := set_twoJ (v0 := .string s) (v1 := .int .i64 y) r0 r1
    go_wp2
    exact bodyPost_ret (v := .agg #[.string s, .int .i64 y]) (by simp [results, Tryd.results17, go_sem, s0, s1]) rfl ⟨rfl, (hB1.setCell hg1 _).setCell hg1 _⟩
  | true =>
    have e1 : crashT s y keep = s.extract 0 (lfs s (keepN s y keep)).2 := by unfold crashT; rw [hj]; rfl
    have e2 : crashY s y keep = (lfs s (keepN s y keep)).2 := by unfold crashY; rw [hj]; rfl
    rw [e1, e2]
    have hin := jB_in hj
    have HN : Hid (keepN s y keep ≤ s.size) := keepN_bd hj
    rw [hj] at hJ
    have hM := fun w => spec_l01MinJ keep (s.size - y) w
    have HK : Hid (keepN s y keep = (if 0 < keep then (if keep < s.size - y then y + keep else s.size) else y).toNat) := rfl
    clear hj e1 e2
    generalize keepN s y keep = N at *
    go_enter Tryd.func17, Tryd.ntmps17
    go_wp2_with fail
    refine (hJ _).mono ?_
    rintro e w1 ⟨rfl, hb1⟩
    obtain ⟨⟨c0, c1⟩, _, ⟨r0, r1⟩, f, hB1⟩ := keep2 hb1
    have f0 := f 0
    have f1 := f 1
    clear f hb1 hJ
    by_cases hk : 0 < keep
    · by_cases hm : keep < s.size - y
      · rw [if_pos hm] at hM
        have HE : (y + keep : Int) = (N : Int) := by have hh := HK.out; have := HN.out; simp only [if_pos hk, if_pos hm] at hh; omega
        go_wp2_with (go_at_call 27; refine (hM _).mono ?_; rintro e w' ⟨rfl, hw⟩; subst hw)
        go_loop [5] (fun i => ∃ k : Nat, k ≤ N ∧ i = .int .i64 k ∧ Hid ((lfs s k).2 = (lfs s N).2)) (fun i => (intOf i).toNat)
        case atStart => exact ⟨N, Nat.le_refl _, by first | rfl | rw [HE], rfl⟩
        case round =>
          obtain ⟨k, hk2, rfl, H⟩ := hrel
          have hN := HN.out
          by_cases h0 : k = 0
          · subst h0
            have HZ : Hid ((lfs s N).2 = 0) := H.out.symm
            obtain ⟨s0, s1⟩ := set_twoJ (v0 := .string ByteArray.empty) (v1 := .int .i64 0) r0 r1
            clear HE HK H
            go_wp2
            exact bodyPost_ret (v := .agg #[.string ByteArray.empty, .int .i64 0]) (by simp [results, Tryd.results17, go_sem, s0, s1]) rfl ⟨by rw [HZ.out]; simp, (hB1.setCell hg1 _).setCell hg1 _⟩
          · obtain ⟨m, rfl⟩ : ∃ m, k = m + 1 := ⟨k - 1, by omega⟩
            have hlt : m < s.size := by omega
            have e := byteAt_eq s m hlt
            by_cases hb : byteAt s m = 10
            · have HZ : Hid ((lfs s N).2 = m + 1) := H.out.symm.trans ((lfs_end s (m + 1)).2 (.inr hb))
              rw [← e] at hb
              have hb' : ((s[m].toNat : Int) != 10) = false := by simp [hb]
              obtain ⟨s0, s1⟩ := set_twoJ (v0 := .string (s.extract 0 (m + 1))) (v1 := .int .i64 ((m : Int) + 1)) r0 r1
              clear HE HK H e hb
              go_wp2
              exact bodyPost_ret (v := .agg #[.string (s.extract 0 (m + 1)), .int .i64 ((m : Int) + 1)]) (by simp [results, Tryd.results17, go_sem, s0, s1]) rfl ⟨by rw [HZ.out]; simp, (hB1.setCell hg1 _).setCell hg1 _⟩
            · have HZ : Hid ((lfs s m).2 = (lfs s N).2) := by rw [← H.out, lfs_miss hb]; rfl
              rw [← e] at hb
              have hb' : ((s[m].toNat : Int) != 10) = true := by simp [hb]
              clear HE HK H e hb
              go_wp2
              go_round
              case rel => exact ⟨m, by omega, by go_num, HZ⟩
              case measure => simp [intOf]
      · rw [if_neg hm] at hM
        have HE : (y + (s.size - y) : Int) = (N : Int) := by have hh := HK.out; have := HN.out; simp only [if_pos hk, if_neg hm] at hh; omega
        go_wp2_with (go_at_call 27; refine (hM _).mono ?_; rintro e w' ⟨rfl, hw⟩; subst hw)
        go_loop [5] (fun i => ∃ k : Nat, k ≤ N ∧ i = .int .i64 k ∧ Hid ((lfs s k).2 = (lfs s N).2)) (fun i => (intOf i).toNat)
        case atStart => exact ⟨N, Nat.le_refl _, by first | rfl | rw [HE], rfl⟩
        case round =>
          obtain ⟨k, hk2, rfl, H⟩ := hrel
          have hN := HN.out
          by_cases h0 : k = 0
          · subst h0
            have HZ : Hid ((lfs s N).2 = 0) := H.out.symm
            obtain ⟨s0, s1⟩ := set_twoJ (v0 := .string ByteArray.empty) (v1 := .int .i64 0) r0 r1
            clear HE HK H
            go_wp2
            exact bodyPost_ret (v := .agg #[.string ByteArray.empty, .int .i64 0]) (by simp [results, Tryd.results17, go_sem, s0, s1]) rfl ⟨by rw [HZ.out]; simp, (hB1.setCell hg1 _).setCell hg1 _⟩
          · obtain ⟨m, rfl⟩ : ∃ m, k = m + 1 := ⟨k - 1, by omega⟩
            have hlt : m < s.size := by omega
            have e := byteAt_eq s m hlt
            by_cases hb : byteAt s m = 10
            · have HZ : Hid ((lfs s N).2 = m + 1) := H.out.symm.trans ((lfs_end s (m + 1)).2 (.inr hb))
              rw [← e] at hb
              have hb' : ((s[m].toNat : Int) != 10) = false := by simp [hb]
              obtain ⟨s0, s1⟩ := set_twoJ (v0 := .string (s.extract 0 (m + 1))) (v1 := .int .i64 ((m : Int) + 1)) r0 r1
              clear HE HK H e hb
              go_wp2
              exact bodyPost_ret (v := .agg #[.string (s.extract 0 (m + 1)), .int .i64 ((m : Int) + 1)]) (by simp [results, Tryd.results17, go_sem, s0, s1]) rfl ⟨by rw [HZ.out]; simp, (hB1.setCell hg1 _).setCell hg1 _⟩
            · have HZ : Hid ((lfs s m).2 = (lfs s N).2) := by rw [← H.out, lfs_miss hb]; rfl
              rw [← e] at hb
              have hb' : ((s[m].toNat : Int) != 10) = true := by simp [hb]
              clear HE HK H e hb
              go_wp2
              go_round
              case rel => exact ⟨m, by omega, by go_num, HZ⟩
              case measure => simp [intOf]
    · have HE : (y : Int) = (N : Int) := by have hh := HK.out; have := HN.out; simp only [if_neg hk] at hh; omega
      go_wp2
      go_loop [5] (fun i => ∃ k : Nat, k ≤ N ∧ i = .int .i64 k ∧ Hid ((lfs s k).2 = (lfs s N).2)) (fun i => (intOf i).toNat)
      case atStart => exact ⟨N, Nat.le_refl _, by first | rfl | rw [HE], rfl⟩
      case round =>
        obtain ⟨k, hk2, rfl, H⟩ := hrel
        have hN := HN.out
        by_cases h0 : k = 0
        · subst h0
          have HZ : Hid ((lfs s N).2 = 0) := H.out.symm
          obtain ⟨s0, s1⟩ := set_twoJ (v0 := .string ByteArray.empty) (v1 := .int .i64 0) r0 r1
          clear HE HK H
          go_wp2
          exact bodyPost_ret (v := .agg #[.string ByteArray.empty, .int .i64 0]) (by simp [results, Tryd.results17, go_sem, s0, s1]) rfl ⟨by rw [HZ.out]; simp, (hB1.setCell hg1 _).setCell hg1 _⟩
        · obtain ⟨m, rfl⟩ : ∃ m, k = m + 1 := ⟨k - 1, by omega⟩
          have hlt : m < s.size := by omega
          have e := byteAt_eq s m hlt
          by_cases hb : byteAt s m = 10
          · have HZ : Hid ((lfs s N).2 = m + 1) := H.out.symm.trans ((lfs_end s (m + 1)).2 (.inr hb))
            rw [← e] at hb
            have hb' : ((s[m].toNat : Int) != 10) = false := by simp [hb]
            obtain ⟨s0, s1⟩ := set_twoJ (v0 := .string (s.extract 0 (m + 1))) (v1 := .int .i64 ((m : Int) + 1)) r0 r1
            clear HE HK H e hb
            go_wp2
            exact bodyPost_ret (v := .agg #[.string (s.extract 0 (m + 1)), .int .i64 ((m : Int) + 1)]) (by simp [results, Tryd.results17, go_sem, s0, s1]) rfl ⟨by rw [HZ.out]; simp, (hB1.setCell hg1 _).setCell hg1 _⟩
          · have HZ : Hid ((lfs s m).2 = (lfs s N).2) := by rw [← H.out, lfs_miss hb]; rfl
            rw [← e] at hb
            have hb' : ((s[m].toNat : Int) != 10) = true := by simp [hb]
            clear HE HK H e hb
            go_wp2
            go_round
            case rel => exact ⟨m, by omega, by go_num, HZ⟩
            case measure => simp [intOf]
end Go.Proofs.YteajdbnongpkfaaDoor
