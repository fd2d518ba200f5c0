/- The program's JournalSync and JournalAdd. -/
import Derived.Test.YteajdbnongpkfaaDoorJ5
import Derived.Test.YteajdbnongpkfaaDoorJ8
namespace Go.Proofs.YteajdbnongpkfaaDoor
open Go.RowKit

set_option maxHeartbeats 1000000 in
theorem impl_synced (s : ByteArray) (w : World) :
    Calls Tryd.prog 26 #[.string s] w fun e w' => e = .returned (.agg #[.string s, .int .i64 s.size]) ∧ Below w.heap.size w w' := by
  have hB0 := fun o => (Below.refl w.heap.size w).alloc (Nat.le_refl _) o
  go_enter Tryd.func26, Tryd.ntmps26
  go_wp2
  exact bodyPost_ret (v := .agg #[.string s, .int .i64 s.size]) (by simp [results, Tryd.results26, go_sem]) rfl ⟨rfl, hB0 _⟩
theorem below2 {w w1 w2 : World} (hB : Below w.heap.size w w1) (h : Below w1.heap.size w1 w2) : Below w.heap.size w w2 := hB.trans (h.mono hB.size)
set_option maxHeartbeats 1000000 in
theorem impl_JournalSync (s : ByteArray) (y : Int) (w : World) (hM : MxA w) :
    Calls Tryd.prog 15 #[.agg #[.string s, .int .i64 y]] w fun e w' => e = .returned (.agg #[.string s, .int .i64 (syncY s y)]) ∧ Below w.heap.size w w' := by
  have hJ := fun w h => impl_JournalRight s y w h
  have hg1 : w.heap.size ≤ w.heap.size + 1 := by omega
  have hM0 : MxA ((w.alloc (.cells #[.string s, .int .i64 y] 26)).alloc (.cells #[.string ⟨#[]⟩, .int .i64 0] 26)) := hM.of_below (((Below.refl w.heap.size w).alloc (Nat.le_refl _) _).alloc (by simp) _)
  cases hj : jB s y with
  | false =>
    have e : syncY s y = y := by unfold syncY; rw [hj]; rfl
    rw [e]
    rw [hj] at hJ
    clear hj e
    go_enter Tryd.func15, Tryd.ntmps15
    go_wp2_with fail
    refine (hJ _ hM0).mono ?_
    rintro e w1 ⟨rfl, hb1⟩
    obtain ⟨⟨c0, c1⟩, _, ⟨r0, r1⟩, f, hB1⟩ := keep2 hb1
    have f0 := f 0
    have f1 := f 1
    clear f hb1
    obtain ⟨s0, s1⟩ := set_twoJ (v0 := .string s) (v1 := .int .i64 y) r0 r1
    go_wp2
    exact bodyPost_ret (v := .agg #[.string s, .int .i64 y]) (by simp [results, Tryd.results15, go_sem, s0, s1]) rfl ⟨rfl, (hB1.setCell hg1 _).setCell hg1 _⟩
  | true =>
    have e : syncY s y = s.size := by unfold syncY; rw [hj]; rfl
    rw [e]
    rw [hj] at hJ
    clear hj e
    have hS := fun w => impl_synced s w
    go_enter Tryd.func15, Tryd.ntmps15
    go_wp2_with fail
    refine (hJ _ hM0).mono ?_
    rintro e w1 ⟨rfl, hb1⟩
    obtain ⟨⟨c0, c1⟩, fj, _, _, _⟩ := keep2 hb1
    go_wp2_with fail
    refine (hS _).mono ?_
    rintro e w2 ⟨rfl, hb2⟩
    obtain ⟨_, _, ⟨r0, r1⟩, f, hB1⟩ := keep2 (hb1.trans (hb2.mono hb1.size))
    have f0 := f 0
    have f1 := f 1
    clear f hb1 fj hb2 c0 c1
    obtain ⟨s0, s1⟩ := set_twoJ (v0 := .string s) (v1 := .int .i64 s.size) r0 r1
    go_wp2
    exact bodyPost_ret (v := .agg #[.string s, .int .i64 s.size]) (by simp [results, Tryd.results15, go_sem, s0, s1]) rfl ⟨rfl, (hB1.setCell hg1 _).setCell hg1 _⟩

set_option maxRecDepth 200000 in
set_option maxHeartbeats 2000000 in
theorem impl_JournalAdd (s : ByteArray) (y : Int) (l : ByteArray) (w : World) (hM : MxA w) (hl8 : l.size ≤ 1048576) :
    Calls Tryd.prog 12 #[.agg #[.string s, .int .i64 y], .string l] w fun e w' => e = .returned (addT s y l).val ∧ Below w.heap.size w w' := by
  have hJ := fun w h => impl_JournalRight s y w h
  have hB0 := fun o o2 => ((Below.refl w.heap.size w).alloc (Nat.le_refl _) o).alloc (by simp) o2
  have hM0 : MxA ((w.alloc (.cells #[.string s, .int .i64 y] 26)).alloc (.cells #[.string ⟨#[]⟩, .int .i64 0, .string ⟨#[]⟩, .int .i64 0] 30)) := hM.of_below (hB0 _ _)
  have hg1 : w.heap.size ≤ w.heap.size + 1 := by omega
  by_cases h8 : 8000 < l.size
  · rw [addT_size h8]
    clear hM0 hJ hM
    go_enter Tryd.func12, Tryd.ntmps12
    go_wp2
    exact bodyPost_ret (v := AddD.val ⟨⟨#[]⟩, 0, 2⟩) (by simp [results, Tryd.results12, go_sem, AddD.val]) rfl ⟨rfl, hB0 _ _⟩
  · have hL := fun w => impl_lineRight l w (by omega)
    cases hj : jB s y with
    | false =>
      rw [addT_j h8 hj]
      rw [hj] at hJ
      clear hj hB0
      go_enter Tryd.func12, Tryd.ntmps12
      go_wp2_with fail
      refine (hJ _ hM0).mono ?_
      rintro e w1 ⟨rfl, hb1⟩
      obtain ⟨⟨c0, c1⟩, _, ⟨r0, r1, r2, r3⟩, f, hB1⟩ := keepO hb1
      have f0 := f 0
      have f1 := f 1
      have f2 := f 2
      have f3 := f 3
      obtain ⟨s0, s1, s2, s3⟩ := set_four (v0 := .string ⟨#[]⟩) (v1 := .int .i64 0) (v2 := .string ⟨#[]⟩) (v3 := .int .i64 1) r0 r1 r2 r3
      clear f hb1 hM0 hM
      go_wp2
      exact bodyPost_ret (v := AddD.val ⟨⟨#[]⟩, 0, 1⟩) (by simp [results, Tryd.results12, go_sem, AddD.val, s0, s1, s2, s3]) rfl ⟨rfl, below4 hB1 hg1⟩
    | true =>
      have hs8 := (jB_in hj).1
      cases hl : lineB l with
      | false =>
        rw [addT_l h8 hj hl]
        rw [hj] at hJ
        rw [hl] at hL
        clear hj hB0 hl
        go_enter Tryd.func12, Tryd.ntmps12
        go_wp2_with fail
        refine (hJ _ hM0).mono ?_
        rintro e w1 ⟨rfl, hb1⟩
        obtain ⟨⟨c0, c1⟩, _, ⟨r0, r1, r2, r3⟩, f, hB1⟩ := keepO hb1
        have f0 := f 0
        have f1 := f 1
        have f2 := f 2
        have f3 := f 3
        obtain ⟨s0, s1, s2, s3⟩ := set_four (v0 := .string ⟨#[]⟩) (v1 := .int .i64 0) (v2 := .string ⟨#[]⟩) (v3 := .int .i64 1) r0 r1 r2 r3
        clear f hb1 hM0 hM hJ
        go_wp2_with (go_at_call 25; refine (hL _).mono ?_; rintro e w' ⟨rfl, rfl⟩)
        exact bodyPost_ret (v := AddD.val ⟨⟨#[]⟩, 0, 1⟩) (by simp [results, Tryd.results12, go_sem, AddD.val, s0, s1, s2, s3]) rfl ⟨rfl, below4 hB1 hg1⟩
      | true =>
        have hT : Hid (addT s y l = if 8000 < s.size + l.size + 1 then ⟨⟨#[]⟩, 0, 7⟩ else ⟨s ++ l ++ ⟨#[10]⟩, y, 0⟩) := by
          by_cases hf : 8000 < s.size + l.size + 1
          · rw [if_pos hf]; exact addT_full h8 hj hl hf
          · rw [if_neg hf]; exact addT_ok h8 hj hl hf
        have szn : (⟨#[10]⟩ : ByteArray).size = 1 := rfl
        have sz2 : (s ++ l).size = s.size + l.size := ByteArray.size_append
        have sz3 : (s ++ l ++ ⟨#[10]⟩).size = s.size + l.size + 1 := by rw [ByteArray.size_append, ByteArray.size_append, szn]
        rw [hj] at hJ
        rw [hl] at hL
        clear hj hB0 hl
        go_enter Tryd.func12, Tryd.ntmps12
        go_wp2_with fail
        refine (hJ _ hM0).mono ?_
        rintro e w1 ⟨rfl, hb1⟩
        obtain ⟨⟨c0, c1⟩, fj, ⟨r0, r1, r2, r3⟩, f, hB1⟩ := keepO hb1
        have f0 := f 0
        have f1 := f 1
        have f2 := f 2
        have f3 := f 3
        clear f fj hb1 hM0 hM hJ
        go_wp2_with fail
        refine (hL _).mono ?_
        rintro e w' ⟨rfl, hw⟩
        subst hw
        clear hL
        go_upto_region 6 with fail
        generalize s ++ l ++ ⟨#[10]⟩ = T at *
        by_cases hf : 8000 < s.size + l.size + 1
        · rw [if_pos hf] at hT
          obtain ⟨s0, s1, s2, s3⟩ := set_four (v0 := .string ⟨#[]⟩) (v1 := .int .i64 0) (v2 := .string ⟨#[]⟩) (v3 := .int .i64 7) r0 r1 r2 r3
          go_wp2
          exact bodyPost_ret (v := AddD.val ⟨⟨#[]⟩, 0, 7⟩) (by simp [results, Tryd.results12, go_sem, AddD.val, s0, s1, s2, s3]) rfl ⟨by rw [hT.out], below4 hB1 hg1⟩
        · rw [if_neg hf] at hT
          obtain ⟨s0, s1, s2, s3⟩ := set_four (v0 := .string T) (v1 := .int .i64 y) (v2 := .string ⟨#[]⟩) (v3 := .int .i64 0) r0 r1 r2 r3
          go_wp2
          exact bodyPost_ret (v := AddD.val ⟨T, y, 0⟩) (by simp [results, Tryd.results12, go_sem, AddD.val, s0, s1, s2, s3]) rfl ⟨by rw [hT.out], below4 hB1 hg1⟩
end Go.Proofs.YteajdbnongpkfaaDoor
