/- The program's JournalRight and JournalSync. -/
import Derived.Test.YteajdbnongpkfaaDoorJ7
namespace Go.Proofs.YteajdbnongpkfaaDoor
open Go.RowKit

theorem jB_end {s : ByteArray} {y : Int} (hi : inB s y = true) (h : (lfs s s.size).2 = s.size) : jB s y = (lfs s s.size).1.all lineB := by
  unfold jB; rw [hi, decide_eq_true h]; rfl
theorem jB_noend {s : ByteArray} {y : Int} (h : (lfs s s.size).2 ≠ s.size) : jB s y = false := by
  unfold jB; rw [decide_eq_false h]; simp
set_option maxRecDepth 20000 in
set_option maxHeartbeats 4000000 in
theorem impl_JournalRight (s : ByteArray) (y : Int) (w : World) (hM : MxA w) :
    Calls Tryd.prog 10 #[.agg #[.string s, .int .i64 y]] w fun e w' => e = .returned (.bool (jB s y)) ∧ Below w.heap.size w w' := by
  have hB0 := (Below.refl w.heap.size w).alloc (Nat.le_refl _) (.cells #[.string s, .int .i64 y] 26)
  by_cases h8 : s.size ≤ 8000
  · by_cases hi : inB s y = true
    · have hin := of_decide_eq_true hi
      have hSu := fun w => Tryd.strings_HasSuffix s ⟨#[10]⟩ w (by omega)
      by_cases he : (lfs s s.size).2 = s.size
      · have hJ := jB_end hi he
        have hLi := fun w (h : MxA w) => impl_lines s w h h8
        have hb := (lfs_bd s s.size).1
        have hA := fun cap w g h => impl_allLines g (lfs s s.size).1.length cap (fun k => (lfs s s.size).1.getD k ⟨#[]⟩) w (by omega) h (fun k hk => by
            show ((lfs s s.size).1.getD k ⟨#[]⟩).size ≤ 8000
            rw [List.getD_eq_getElem?_getD, List.getElem?_eq_getElem hk]
            refine Nat.le_trans (lns_sz s _ ?_) h8
            unfold lns; simp) (jB s y) (fun k hk h => by rw [hJ]; exact allJ_no hk h) (fun h => by rw [hJ]; exact allJ_yes h)
        clear hJ
        generalize jB s y = J at *
        have hLi' : ∀ w, MxA w → Calls Tryd.prog 24 #[.string s] w fun e w' => ∃ g n cap, e = .returned (.slice (some ⟨g, 0, none⟩) n cap) ∧ (∀ w, w = w' → Calls Tryd.prog 23 #[.slice (some ⟨g, 0, none⟩) n cap, .func (.func 25) #[] #[]] w fun e w' => e = .returned (.bool J) ∧ w' = w) ∧ Below w.heap.size w w' := fun w h =>
          (hLi w h).mono fun e w' ⟨cap, h1, h2, h3⟩ => ⟨_, _, cap, h1, fun w2 e2 => by subst e2; exact hA cap _ _ h2, h3⟩
        clear hLi hA hb
        by_cases h0 : s.size = 0
        · have hx : s.toList.isEmpty = true := by rw [empty_sz]; exact decide_eq_true h0
          clear he hi hSu
          go_enter Tryd.func10, Tryd.ntmps10
          go_wp2_with (first
            | (go_at_call 24; refine (hLi' _ (hM.of_below hB0)).mono ?_; rintro e w1 ⟨g, n, cap, rfl, hA, hb1⟩)
            | (go_at_call 23; refine (hA _ rfl).mono ?_; rintro e w2 ⟨rfl, rfl⟩))
          go_ret
          exact ⟨rfl, hB0.trans (hb1.mono hB0.size)⟩
        · have hx : s.toList.isEmpty = false := by rw [empty_sz]; exact decide_eq_false h0
          have hSu' : ∀ w, _ := fun w => by have := hSu w; rw [show (⟨#[10]⟩ : ByteArray).data.toList = [10] from rfl, suffix_end s (by omega), decide_eq_true he] at this; exact this
          clear he hi hSu
          go_enter Tryd.func10, Tryd.ntmps10
          go_wp2_with (first
            | (go_at_call 22; refine (hSu' _).mono ?_; rintro e w2 ⟨rfl, rfl⟩)
            | (go_at_call 24; refine (hLi' _ (hM.of_below hB0)).mono ?_; rintro e w1 ⟨g, n, cap, rfl, hA, hb1⟩)
            | (go_at_call 23; refine (hA _ rfl).mono ?_; rintro e w2 ⟨rfl, rfl⟩))
          go_ret
          exact ⟨rfl, hB0.trans (hb1.mono hB0.size)⟩
      · rw [jB_noend he]
        have h0 : ¬ s.size = 0 := fun h => he (by have := (lfs_bd s s.size).2; omega)
        have hx : s.toList.isEmpty = false := by rw [empty_sz]; exact decide_eq_false h0
        have hSu' : ∀ w, _ := fun w => by have := hSu w; rw [show (⟨#[10]⟩ : ByteArray).data.toList = [10] from rfl, suffix_end s (by omega), decide_eq_false he] at this; exact this
        clear he hi hSu
        go_enter Tryd.func10, Tryd.ntmps10
        go_wp2_with (go_at_call 22; refine (hSu' _).mono ?_; rintro e w2 ⟨rfl, hw⟩; subst hw)
        go_ret
        exact ⟨rfl, hB0⟩
    · have hi' : inB s y = false := by simpa using hi
      rw [jB_out hi']
      by_cases hy : y < 0
      · clear hi hi'
        go_enter Tryd.func10, Tryd.ntmps10
        go_wp2
        go_ret
        exact ⟨rfl, hB0⟩
      · have hy2 : (s.size : Int) < y := by have := of_decide_eq_false hi'; omega
        clear hi hi'
        go_enter Tryd.func10, Tryd.ntmps10
        go_wp2
        go_ret
        exact ⟨rfl, hB0⟩
  · rw [jB_out (decide_eq_false (fun h => h8 h.1))]
    go_enter Tryd.func10, Tryd.ntmps10
    go_wp2
    go_ret
    exact ⟨rfl, hB0⟩
end Go.Proofs.YteajdbnongpkfaaDoor
