/- The program's JournalCrash. -/
import Derived.Test.YteajdbnongpkfaaDoorJ6
import Derived.Test.YteajdbnongpkfaaDoorJ9
import Derived.Lib.MinMax
namespace Go.Proofs.YteajdbnongpkfaaDoor
open Go.RowKit

theorem ext_ext {s : ByteArray} {N m : Nat} (h : m ≤ N) : (s.extract 0 N).extract 0 m = s.extract 0 m := by
  apply data_inj
  rw [Lib.extract_from_zero, Lib.extract_from_zero, Lib.extract_from_zero, List.take_take, Nat.min_eq_left h]
set_option maxRecDepth 200000 in
set_option maxHeartbeats 2000000 in
theorem impl_JournalCrash (s : ByteArray) (y keep : Int) (w : World) (hM : MxA w) :
    Calls Tryd.prog 18 #[.agg #[.string s, .int .i64 y], .int .i64 keep] w fun e w' => e = .returned (.agg #[.string (crashT s y keep), .int .i64 (crashY s y keep)]) ∧ Below w.heap.size w w' := by
  have hJ := fun w h => impl_JournalRight s y w h
  have hg1 : w.heap.size ≤ w.heap.size + 1 := by omega
  have hM0 : MxA ((w.alloc (.cells #[.string s, .int .i64 y] 26)).alloc (.cells #[.string ⟨#[]⟩, .int .i64 0] 26)) := hM.of_below (((Below.refl w.heap.size w).alloc (Nat.le_refl _) _).alloc (by simp) _)
  cases hj : jB s y with
  | false =>
    have e1 : crashT s y keep = s := by unfold crashT; rw [hj]; rfl
    have e2 : crashY s y keep = y := by unfold crashY; rw [hj]; rfl
    rw [e1, e2]
    rw [hj] at hJ
    clear hj e1 e2
    go_enter Tryd.func18, Tryd.ntmps18
    go_wp2_with fail
    refine (hJ _ hM0).mono ?_
    rintro e w1 ⟨rfl, hb1⟩
    obtain ⟨⟨c0, c1⟩, _, ⟨r0, r1⟩, f, hB1⟩ := keep2 hb1
    have f0 := f 0
    have f1 := f 1
    clear f hb1
    obtain ⟨s0, s1⟩ := set_twoJ (v0 := .string s) (v1 := .int .i64 y) r0 r1
    go_wp2
    exact bodyPost_ret (v := .agg #[.string s, .int .i64 y]) (by simp [results, Tryd.results18, go_sem, s0, s1]) rfl ⟨rfl, (hB1.setCell hg1 _).setCell hg1 _⟩
  | true =>
    have e1 : crashT s y keep = s.extract 0 (lfs s (keepN s y keep)).2 := by unfold crashT; rw [hj]; rfl
    have e2 : crashY s y keep = (lfs s (keepN s y keep)).2 := by unfold crashY; rw [hj]; rfl
    rw [e1, e2]
    have hin := jB_in hj
    have hN := keepN_bd (keep := keep) hj
    rw [hj] at hJ
    have hmm : min (max keep 0) ((s.size : Int) - y) = (keepN s y keep : Int) - y := by
      unfold keepN
      rw [Int.min_def, Int.max_def]
      split <;> split <;> split <;> (try split) <;> omega
    clear hj e1 e2
    generalize keepN s y keep = N at *
    have hyn : y + ((N : Int) - y) = N := by omega
    have hm := (lfs_bd s N).2
    have hLI := fun w => Tryd.strings_LastIndex_one (s.extract 0 N) ⟨#[10]⟩ rfl (by rw [ByteArray.size_extract]; omega) w
    have hli : Lib.lastIndexByte (s.extract 0 N) (((⟨#[10]⟩ : ByteArray)[0]'(by decide)).toNat : Int) = ((lfs s N).2 : Int) - 1 := by
      have := last_of s N hN
      have e : (((⟨#[10]⟩ : ByteArray)[0]'(by decide)).toNat : Int) = 10 := rfl
      rw [e]; omega
    rw [hli] at hLI
    have hS := fun w => impl_synced ((s.extract 0 N).extract 0 (lfs s N).2) w
    have hK : (s.extract 0 N).size = N := by rw [ByteArray.size_extract]; omega
    have HE : Hid ((s.extract 0 N).extract 0 (lfs s N).2 = s.extract 0 (lfs s N).2) := ext_ext hm
    have HZ : Hid (((s.extract 0 N).extract 0 (lfs s N).2).size = (lfs s N).2) := by show _ = _; rw [ByteArray.size_extract]; omega
    rw [HZ.out] at hS
    clear hli HZ
    generalize (lfs s N).2 = m at *
    go_enter Tryd.func18, Tryd.ntmps18
    go_wp2_with fail
    refine (hJ _ hM0).mono ?_
    rintro e w1 ⟨rfl, hb1⟩
    obtain ⟨⟨c0, c1⟩, _, _, _, _⟩ := keep2 hb1
    clear hJ hM0 hM
    go_upto_region 5 with fail
    generalize s.extract 0 N = K at *
    go_wp2_with fail
    refine (hLI _).mono ?_
    rintro e w' ⟨rfl, hw⟩
    subst hw
    go_wp2_with fail
    refine (hS _).mono ?_
    rintro e w2 ⟨rfl, hb2⟩
    obtain ⟨_, _, ⟨r0, r1⟩, f, hB1⟩ := keep2 (hb1.trans (hb2.mono hb1.size))
    have f0 := f 0
    have f1 := f 1
    clear f hb1 hb2 c0 c1
    generalize K.extract 0 m = X at *
    obtain ⟨s0, s1⟩ := set_twoJ (v0 := .string X) (v1 := .int .i64 m) r0 r1
    go_wp2
    exact bodyPost_ret (v := .agg #[.string X, .int .i64 m]) (by simp [results, Tryd.results18, go_sem, s0, s1]) rfl ⟨by rw [HE.out], (hB1.setCell hg1 _).setCell hg1 _⟩
end Go.Proofs.YteajdbnongpkfaaDoor
