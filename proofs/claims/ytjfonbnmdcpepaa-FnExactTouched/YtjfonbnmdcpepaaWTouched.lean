/- The walk of the law FnExactTouched. -/
import Derived.Test.YtjfonbnmdcpepaaTch1
namespace Go.Proofs.Ytjfonbnmdcpepaa.touched
open Go.RowKit

set_option maxHeartbeats 400000 in
theorem laws_szSpanS (n : Nat) (a : Option Addr) (cap : Nat) (w : World) (hn : n ≤ maxLen) :
    Calls Try.prog 31 #[.slice a n cap, .int .i64 1048576] w fun e w' => e = .returned (.int .i64 (clip (1048576 - n))) ∧ w' = w := by
  unfold maxLen at hn
  by_cases g : (1048576 : Int) - n < 0
  · rw [clip_n g]
    go_enter Try.func31, Try.ntmps31
    go_wp2
    go_ret
    exact ⟨rfl, rfl⟩
  · rw [clip_p (by omega)]
    go_enter Try.func31, Try.ntmps31
    go_wp2
    go_ret
    exact ⟨rfl, rfl⟩
set_option maxHeartbeats 2000000 in
theorem walk (l : List SpanD) (a : Option Addr) (cap : Nat) (f t : Int) (w : World) (hA : SeqAt w a 2 (l.map SpanD.cs)) (hl : l.length ≤ maxLen) :
    Calls Try.prog 6 #[.slice a l.length cap, .int .i64 f, .int .i64 t] w fun e w' => e = .returned (.bool true) ∧ Below w.heap.size w w' := by
  have hZ := fun w => laws_szSpanS l.length a cap w hl
  by_cases g : (1048576 : Int) - l.length < 0
  · rw [clip_n g] at hZ
    go_enter Try.func6, Try.ntmps6
    go_wp2_with (go_at_call 31; refine (hZ _).mono ?_; rintro e w1 ⟨rfl, hw⟩; have hw := hw.symm; subst hw)
    go_ret
    exact ⟨rfl, Below.refl _ _⟩
  rw [clip_p (by omega)] at hZ
  have hl1 : l.length ≤ 1048576 := by omega
  have hT := fun w (h : SeqAt w a 2 (l.map SpanD.cs)) => laws_toSpanS l a cap w h hl1
  have hI := fun a c w (h : SeqAt w a 2 (l.map SpanD.cs)) => impl_Touched l a c f t w h hl1
  have hS := fun a c w (h : SeqAt w a 2 (l.map SpanD.cs)) => spec_Touched l a c f t w h hl1
  have hE := fun a a2 c c2 w (h : SeqAt w a 2 (l.map SpanD.cs)) (h2 : SeqAt w a2 2 (l.map SpanD.cs)) => laws_eqSpanS l a a2 c c2 w h h2 hl1
  generalize touchD l f t = z at *
  go_enter Try.func6, Try.ntmps6
  go_wp2_with fail
  refine (hZ _).mono ?_
  rintro e wz ⟨rfl, hw⟩
  have hw := hw.symm
  subst hw
  go_wp2_with fail
  refine (hT _ hA).mono ?_
  rintro e w1 ⟨rfl, s1, _, hB1⟩
  go_wp2_with fail
  refine (hS _ _ _ s1).mono ?_
  rintro e w2 ⟨rfl, hb2⟩
  have hB2 := hB1.trans (hb2.mono hB1.size)
  go_wp2_with fail
  refine (hT _ (hA.below hB2)).mono ?_
  rintro e w3 ⟨rfl, s3, _, hb3⟩
  have hB3 := hB2.trans (hb3.mono hB2.size)
  go_wp2_with fail
  refine (hI _ _ _ s3).mono ?_
  rintro e w4 ⟨rfl, hb4⟩
  have hB4 := hB3.trans (hb4.mono hB3.size)
  have s4 := s3.below hb4
  have g2 : (z != z) = false := by cases z <;> rfl
  go_wp2_with fail
  refine (hT _ (hA.below hB4)).mono ?_
  rintro e w5 ⟨rfl, s5, _, hb5⟩
  have hB5 := hB4.trans (hb5.mono hB4.size)
  have s45 := s4.below hb5
  go_wp2_with fail
  refine (hE _ _ _ _ _ s45 s5).mono ?_
  rintro e w6 ⟨rfl, hb6⟩
  have hB6 := hB5.trans (hb6.mono hB5.size)
  go_wp2
  go_ret
  exact ⟨rfl, hB6⟩
end Go.Proofs.Ytjfonbnmdcpepaa.touched
