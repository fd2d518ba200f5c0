/- The walk of the law FnTexts: times and offsets come back from their texts. -/
import Derived.Test.YtibhbpgnjikjnaaDoorDraws4
import Derived.Test.YtibhbpgnjikjnaaDoorOffBack
import Derived.Test.YtibhbpgnjikjnaaDoorTimeRead4
import Derived.Lib.QuietBelow
import Derived.Deep.Cut
import Derived.Deep.CutRange
namespace Go.Proofs.YtibhbpgnjikjnaaDoor
open Go.RowKit Go.Sort

theorem rgB {f : FuncId} {args : Array Value} {W : World} {v : Value} (h : ∀ w, Calls Tryd.prog f args w fun e w' => e = .returned v ∧ Below w.heap.size w w') :
    ∀ dd os, Calls Tryd.prog f args (grow (redrawn W dd) os) fun e w'' => e = .returned v ∧ ∃ p : Regrown, w'' = grow (redrawn W p.d) p.os :=
  fun _ _ => Calls.regrown_of (h _)
/-- the tables that the program's texts read. -/
def Tabs (w : World) : Prop := Tab w ∧ Pow w
theorem Tabs.of_below {w w' : World} (h : Tabs w) (hb : Below w.heap.size w w') : Tabs w' := ⟨h.1.of_below hb, h.2.of_below hb⟩
theorem rgT {f : FuncId} {args : Array Value} {W : World} {v : Value} (hT : Tabs W) (h : ∀ w, Tabs w → Calls Tryd.prog f args w fun e w' => e = .returned v ∧ Below w.heap.size w w') :
    ∀ dd os, Calls Tryd.prog f args (grow (redrawn W dd) os) fun e w'' => e = .returned v ∧ ∃ p : Regrown, w'' = grow (redrawn W p.d) p.os :=
  fun dd os => Calls.regrown_of (h _ (hT.of_below (below_regrown W dd os)))
theorem time_back {n : Int} (h : isB n (-62135596800) 253402300799 = true) : trN (S (timeV n)) = n ∧ trC (S (timeV n)) = 0 ∧ (timeV n).isEmpty = false := by
  have ⟨h1, h2⟩ := isB_of_t h
  have ⟨ho, hn⟩ := told_ok (s := S (timeV n)) h1 h2 (by rw [timeV_ok h1 h2])
  have ht := (tr_iff _).mpr ho
  refine ⟨by unfold trN; rw [if_pos ht]; exact hn, by unfold trC; rw [if_pos ht], ?_⟩
  cases hl : timeV n with
  | nil => rw [hl] at ho; have := ho.1.1; simp [ByteArray.size] at this
  | cons c l => rfl
theorem off_back2 {n : Int} (h : isB n (-604800) 604800 = true) : orN (S (offV n)) = n ∧ orC (S (offV n)) = 0 ∧ (offV n).isEmpty = false ∧ (S (offV n)).size ≤ 8000 := by
  have ⟨h1, h2⟩ := isB_of_t h
  have ⟨a, b⟩ := off_back h1 h2
  refine ⟨a, b, ?_, by rw [S_size]; have := offV_len n; omega⟩
  unfold offV
  rw [if_pos h]
  split
  · rfl
  · obtain ⟨c, l, e, _⟩ := offL_head (s := n.toNat) (by omega)
    rw [e]; rfl
set_option maxRecDepth 100000 in
set_option maxHeartbeats 4000000 in
theorem texts_walk (a0 a1 : Option Addr) (len0 cap0 len1 cap1 : Nat) (w : World) (hT : Tabs w) (l0 : len0 ≤ 1048576) (l1 : len1 ≤ 1048576) (r0 : RowOf w a0 len0) (r1 : RowOf w a1 len1) :
    Calls Tryd.prog 5 #[.slice a0 len0 cap0, .slice a1 len1 cap1] w fun e w' => e = .returned (.bool true) ∧ Below w.heap.size w w' := by
  go_enter Tryd.func5, Tryd.ntmps5
  go_wp2_with fail
  refine (draw_TimeText a0 len0 cap0 _ r0 l0).mono ?_
  rintro e w1 ⟨n, rfl, hb1⟩
  go_wp2_with fail
  refine (impl_TimeText n _ (hT.1.of_below hb1) (hT.2.of_below hb1)).mono ?_
  rintro e w2 ⟨rfl, hb2⟩
  have hB2 := hb1.trans (hb2.mono hb1.size)
  go_wp2_with fail
  refine (draw_OffsetText a0 len0 cap0 _ (r0.grown hB2) l0).mono ?_
  rintro e w3 ⟨k, rfl, hb3⟩
  have hB3 := hB2.trans (hb3.mono hB2.size)
  go_wp2_with fail
  refine (impl_OffsetText k _ (hT.2.of_below hB3)).mono ?_
  rintro e w4 ⟨rfl, hb4⟩
  have hB4 := hB3.trans (hb4.mono hB3.size)
  have hT4 := hT.of_below hB4
  have hr1 := r1.grown hB4
  clear hb1 hb2 hb3 hb4 hB2 hB3 r0 r1 hT
  go_upto_region 7 with fail
  have hz4 := hB4.size
  go_cut [59] from 28 to 59 (fun x wx => x = .bool false ∧ Below w4.heap.size w4 wx)
  case first =>
    have hST := fun w => spec_TimeText n w
    have hSO := fun w => spec_OffsetText k w
    cases hn : isB n (-62135596800) 253402300799
    · rw [timeV_no hn] at *
      clear hn
      cases hk : isB k (-604800) 604800
      · rw [offV_no hk] at *
        clear hk
        go_wp2_with fail
        refine (hST _).mono ?_
        rintro e w5 ⟨rfl, hb5⟩
        go_wp2_with fail
        refine (hSO _).mono ?_
        rintro e w6 ⟨rfl, hb6⟩
        have hC : Below w4.heap.size w4 w6 := hb5.trans (hb6.mono hb5.size)
        go_wp2
        go_meet
        exact ⟨by simp, hC⟩
      · obtain ⟨q1, q2, q3, q4⟩ := off_back2 hk
        have hIO := fun w => impl_OffsetRead (S (offV k)) w q4
        rw [q1, q2] at hIO
        clear q1 q2 q4 hk
        generalize offV k = ol at *
        go_wp2_with fail
        refine (hST _).mono ?_
        rintro e w5 ⟨rfl, hb5⟩
        go_wp2_with fail
        refine (hSO _).mono ?_
        rintro e w6 ⟨rfl, hb6⟩
        have hC : Below w4.heap.size w4 w6 := hb5.trans (hb6.mono hb5.size)
        go_wp2_with fail
        refine (hIO _).mono ?_
        rintro e w7 ⟨rfl, hb7⟩
        go_wp2
        go_meet
        exact ⟨by simp, hC.trans (hb7.mono hC.size)⟩
    · obtain ⟨p1, p2, p3⟩ := time_back hn
      have hIT := fun w (h : Tabs w) => impl_TimeRead (S (timeV n)) w h.1 (by rw [S_size]; have := timeV_len n; unfold maxLen; omega)
      rw [p1, p2] at hIT
      clear p1 p2 hn
      generalize timeV n = tl at *
      cases hk : isB k (-604800) 604800
      · rw [offV_no hk] at *
        clear hk
        go_wp2_with fail
        refine (hST _).mono ?_
        rintro e w5 ⟨rfl, hb5⟩
        go_wp2_with fail
        refine (hSO _).mono ?_
        rintro e w6 ⟨rfl, hb6⟩
        have hC : Below w4.heap.size w4 w6 := hb5.trans (hb6.mono hb5.size)
        go_wp2_with fail
        refine (hIT _ (hT4.of_below hC)).mono ?_
        rintro e w7 ⟨rfl, hb7⟩
        go_wp2
        go_meet
        exact ⟨by simp, hC.trans (hb7.mono hC.size)⟩
      · obtain ⟨q1, q2, q3, q4⟩ := off_back2 hk
        have hIO := fun w => impl_OffsetRead (S (offV k)) w q4
        rw [q1, q2] at hIO
        clear q1 q2 q4 hk
        generalize offV k = ol at *
        go_wp2_with fail
        refine (hST _).mono ?_
        rintro e w5 ⟨rfl, hb5⟩
        go_wp2_with fail
        refine (hSO _).mono ?_
        rintro e w6 ⟨rfl, hb6⟩
        have hC : Below w4.heap.size w4 w6 := hb5.trans (hb6.mono hb5.size)
        go_wp2_with fail
        refine (hIT _ (hT4.of_below hC)).mono ?_
        rintro e w7 ⟨rfl, hb7⟩
        have hC7 := hC.trans (hb7.mono hC.size)
        go_wp2_with fail
        refine (hIO _).mono ?_
        rintro e w8 ⟨rfl, hb8⟩
        go_wp2
        go_meet
        exact ⟨by simp, hC7.trans (hb8.mono hC7.size)⟩
  case rest =>
    obtain ⟨rfl, hbc⟩ := hcut
    have hBc := hB4.trans (hbc.mono hB4.size)
    have hTc := hT4.of_below hbc
    have hrc := hr1.grown hbc
    clear hbc hB4 hT4 hr1 hz4
    go_wp2_with fail
    refine (draw_TimeRead a1 len1 cap1 _ hrc l1).mono ?_
    rintro e w5 ⟨u, rfl, hu, hb5⟩
    have hB5 := hBc.trans (hb5.mono hBc.size)
    have hT5 := hTc.of_below hb5
    go_wp2_with fail
    refine (draw_OffsetRead a1 len1 cap1 _ (hrc.grown hb5) l1).mono ?_
    rintro e w6 ⟨v, rfl, hv, hb6⟩
    have hB6 := hB5.trans (hb6.mono hB5.size)
    have hT6 := hT5.of_below hb6
    clear hb5 hb6 hBc hTc hrc hB5 hT5
    have hmu : u.size ≤ maxLen := by unfold maxLen; omega
    have hmv : v.size ≤ maxLen := by unfold maxLen; omega
    have hI := fun w (h : Tab w) => impl_TimeRead u w h hmu
    have hS := fun w => spec_TimeRead u w hmu
    have hIO := fun w => impl_OffsetRead_all v w hmv
    have hSO := fun w => spec_OffsetRead_all v w hmv
    clear hmu hmv
    generalize orNN v = on at *
    generalize orCC v = oc at *
    cases ht : trB u
    · have e1 : trN u = 0 := by unfold trN; rw [ht]; rfl
      have e2 : trC u = 3 := by unfold trC; rw [ht]; simp; omega
      rw [e1, e2] at hI hS
      clear e1 e2 ht
      go_wp2_with fail
      refine (hI _ hT6.1).mono ?_
      rintro e w7 ⟨rfl, hb7⟩
      have hB7 := hB6.trans (hb7.mono hB6.size)
      have hT7 := hT6.of_below hb7
      clear hb7 hB6 hT6
      go_wp2_with fail
      have hBW := hB7.alloc hB7.size (.cells #[.int .i64 0, .int .i64 3] 40)
      have k0 := cell_regrown (w := w7.alloc (.cells #[.int .i64 0, .int .i64 3] 40)) (a := ⟨w7.heap.size, 0, none⟩) (v := .int .i64 0) (by simp)
      have k1 := cell_regrown (w := w7.alloc (.cells #[.int .i64 0, .int .i64 3] 40)) (a := ⟨w7.heap.size, 1, none⟩) (v := .int .i64 3) (by simp)
      generalize w7.alloc (.cells #[.int .i64 0, .int .i64 3] 40) = W at *
      have cS := rgB (W := W) hS
      have cIO := rgB (W := W) hIO
      have cSO := rgB (W := W) hSO
      clear hB7 hT7
      generalize w7.heap.size = r at *
      refine wp_region_quiet_below (by kernel_rfl) (by kernel_rfl) ?_
      repeat (first | go_big_quiet_step (first | (go_at_call 39; exact cS _ _) | (go_at_call 36; exact cIO _ _) | (go_at_call 40; exact cSO _ _)) | quiet_step (first | (go_at_call 39; exact cS _ _) | (go_at_call 36; exact cIO _ _) | (go_at_call 40; exact cSO _ _)))
      refine wpQuiet_nil ?_
      intro _ hw'
      obtain ⟨⟨dq, osq⟩, hw''⟩ := hw'
      subst hw''
      go_wp2
      go_ret
      exact ⟨by simp, hBW.trans ((below_regrown _ dq osq).mono hBW.size)⟩
    · have ho := (tr_iff u).mp ht
      have e1 : trN u = rdT u := by unfold trN; rw [ht]; rfl
      have e2 : trC u = 0 := by unfold trC; rw [ht]; rfl
      have e3 := (ok_told ho).1
      rw [e1, e2] at hI hS
      clear e1 e2 ht ho
      generalize rdT u = n2 at *
      subst e3
      have hX := fun w (h : Tabs w) => impl_TimeText n2 w h.1 h.2
      generalize timeV n2 = ul at *
      go_wp2_with fail
      refine (hI _ hT6.1).mono ?_
      rintro e w7 ⟨rfl, hb7⟩
      have hB7 := hB6.trans (hb7.mono hB6.size)
      have hT7 := hT6.of_below hb7
      clear hb7 hB6 hT6
      go_wp2_with fail
      have hBW := hB7.alloc hB7.size (.cells #[.int .i64 n2, .int .i64 0] 40)
      have hTW := hT7.of_below ((Below.refl _ _).alloc (Nat.le_refl _) (.cells #[.int .i64 n2, .int .i64 0] 40))
      have k0 := cell_regrown (w := w7.alloc (.cells #[.int .i64 n2, .int .i64 0] 40)) (a := ⟨w7.heap.size, 0, none⟩) (v := .int .i64 n2) (by simp)
      have k1 := cell_regrown (w := w7.alloc (.cells #[.int .i64 n2, .int .i64 0] 40)) (a := ⟨w7.heap.size, 1, none⟩) (v := .int .i64 0) (by simp)
      generalize w7.alloc (.cells #[.int .i64 n2, .int .i64 0] 40) = W at *
      have cS := rgB (W := W) hS
      have cIO := rgB (W := W) hIO
      have cSO := rgB (W := W) hSO
      have cX := rgT hTW hX
      clear hB7 hT7
      generalize w7.heap.size = r at *
      refine wp_region_quiet_below (by kernel_rfl) (by kernel_rfl) ?_
      repeat (first | go_big_quiet_step (first | (go_at_call 39; exact cS _ _) | (go_at_call 36; exact cIO _ _) | (go_at_call 40; exact cSO _ _) | (go_at_call 30; exact cX _ _)) | quiet_step (first | (go_at_call 39; exact cS _ _) | (go_at_call 36; exact cIO _ _) | (go_at_call 40; exact cSO _ _) | (go_at_call 30; exact cX _ _)))
      refine wpQuiet_nil ?_
      intro _ hw'
      obtain ⟨⟨dq, osq⟩, hw''⟩ := hw'
      subst hw''
      go_wp2
      go_ret
      exact ⟨by simp, hBW.trans ((below_regrown _ dq osq).mono hBW.size)⟩
end Go.Proofs.YtibhbpgnjikjnaaDoor
