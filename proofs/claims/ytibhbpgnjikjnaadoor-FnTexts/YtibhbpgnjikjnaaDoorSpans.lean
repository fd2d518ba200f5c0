/- Contracts of the program's OffsetRead: hours, minutes, seconds. -/
import Derived.Test.YtibhbpgnjikjnaaDoorDigs
import Derived.Test.YtibhbpgnjikjnaaDoorShelf
import Derived.Laws.EntriesVeiled
import Derived.LoopN
namespace Go.Proofs.YtibhbpgnjikjnaaDoor
open Go.RowKit

/-- a colon and two digits below 60. -/
def sixH (s : ByteArray) : Bool := decide (s.size = 3 ∧ byteAt s 0 = 58)
def sixN (s : ByteArray) : Int := if sixH s = true then drN (s.extract 1 s.size) else 0
def sixB (s : ByteArray) : Bool := sixH s && (digs (s.extract 1 s.size) && decide (drN (s.extract 1 s.size) < 60))
theorem drN_bd (s : ByteArray) (h : s.size ≤ 9) : 0 ≤ drN s ∧ drN s ≤ 999999999 := by
  unfold drN; split
  · rename_i hd
    exact numAt_bd9 h (digs_t hd).2
  · omega
theorem sixN_bd (s : ByteArray) : 0 ≤ sixN s ∧ sixN s ≤ 999999999 := by
  unfold sixN; split
  · rename_i h
    have := of_decide_eq_true h
    exact drN_bd _ (by rw [ByteArray.size_extract]; omega)
  · omega

set_option maxHeartbeats 400000 in
theorem impl_sixtieths (s : ByteArray) (w : World) (_hs : s.size ≤ 100) :
    Calls Tryd.prog 96 #[.string s] w fun e w' => e = .returned (.tuple #[.int .i64 (sixN s), .bool (sixB s)]) ∧ w' = w := by
  by_cases h3 : s.size = 3
  · by_cases hc : byteAt s 0 = 58
    · have hh : sixH s = true := decide_eq_true ⟨h3, hc⟩
      have e1 : sixN s = drN (s.extract 1 s.size) := by unfold sixN; rw [if_pos hh]
      have e2 : sixB s = (digs (s.extract 1 s.size) && decide (drN (s.extract 1 s.size) < 60)) := by unfold sixB; rw [hh]; rfl
      rw [e1, e2, h3]
      have hD := fun w => impl_digitsRead (s.extract 1 3) w (by rw [ByteArray.size_extract]; omega)
      rw [← byteAt_eq s 0 (by omega)] at hc
      have hc' : ((s[0].toNat : Int) != 58) = false := by simp [hc]
      have h3' : ((s.size : Int) != 3) = false := by simp; omega
      clear e1 e2 hh hc
      generalize drN (s.extract 1 3) = n at *
      cases hb : digs (s.extract 1 3)
      all_goals
        rw [hb] at hD
        clear hb
        go_enter Tryd.func96, Tryd.ntmps96
        go_wp2_with (go_at_call 95; refine (hD _).mono ?_; rintro e w' ⟨rfl, rfl⟩)
        go_ret2
        exact ⟨by simp, rfl⟩
    · have hh : sixH s = false := decide_eq_false (by omega)
      have e1 : sixN s = 0 := by unfold sixN; rw [hh]; rfl
      have e2 : sixB s = false := by unfold sixB; rw [hh]; rfl
      rw [e1, e2]
      rw [← byteAt_eq s 0 (by omega)] at hc
      have hc' : ((s[0].toNat : Int) != 58) = true := by simpa using hc
      have h3' : ((s.size : Int) != 3) = false := by simp; omega
      clear e1 e2 hh hc
      go_enter Tryd.func96, Tryd.ntmps96
      go_wp2
      go_ret2
      exact ⟨rfl, rfl⟩
  · have hh : sixH s = false := decide_eq_false (by omega)
    have e1 : sixN s = 0 := by unfold sixN; rw [hh]; rfl
    have e2 : sixB s = false := by unfold sixB; rw [hh]; rfl
    rw [e1, e2]
    have h3' : ((s.size : Int) != 3) = true := by simp; omega
    clear e1 e2 hh h3
    go_enter Tryd.func96, Tryd.ntmps96
    go_wp2
    go_ret2
    exact ⟨rfl, rfl⟩

/-- hours. -/
def hrN (s : ByteArray) : Int := if s.size ≤ 3 then drN s * 3600 else 0
def hrB (s : ByteArray) : Bool := if s.size ≤ 3 then digs s else false
theorem hrN_bd (s : ByteArray) : 0 ≤ hrN s ∧ hrN s ≤ 999999999 * 3600 := by
  unfold hrN; split
  · have := drN_bd s (by omega); omega
  · omega
set_option maxHeartbeats 400000 in
theorem impl_hours (s : ByteArray) (w : World) (hs : s.size ≤ maxLen) :
    Calls Tryd.prog 98 #[.string s] w fun e w' => e = .returned (.tuple #[.int .i64 (hrN s), .bool (hrB s)]) ∧ w' = w := by
  unfold maxLen at hs
  by_cases h3 : 3 < s.size
  · have e1 : hrN s = 0 := by unfold hrN; rw [if_neg (by omega)]
    have e2 : hrB s = false := by unfold hrB; rw [if_neg (by omega)]
    rw [e1, e2]
    clear e1 e2
    go_enter Tryd.func98, Tryd.ntmps98
    go_wp2
    go_ret2
    exact ⟨rfl, rfl⟩
  · have e1 : hrN s = drN s * 3600 := by unfold hrN; rw [if_pos (by omega)]
    have e2 : hrB s = digs s := by unfold hrB; rw [if_pos (by omega)]
    rw [e1, e2]
    have hD := fun w => impl_digitsRead s w (by omega)
    have nb := drN_bd s (by omega)
    clear e1 e2
    generalize drN s = n at *
    generalize digs s = b at *
    go_enter Tryd.func98, Tryd.ntmps98
    go_wp2_with (go_at_call 95; refine (hD _).mono ?_; rintro e w' ⟨rfl, rfl⟩)
    go_ret2
    exact ⟨rfl, rfl⟩

/-- what a colon and two digits would take, and what is ahead of it. -/
def frontS (s : ByteArray) : ByteArray := if s.size < 3 then s else s.extract 0 (s.size - 3)
def backS (s : ByteArray) : ByteArray := if s.size < 3 then ⟨#[]⟩ else s.extract (s.size - 3) s.size
set_option maxHeartbeats 400000 in
theorem impl_parted (s : ByteArray) (w : World) (hs : s.size ≤ maxLen) :
    Calls Tryd.prog 119 #[.string s] w fun e w' => e = .returned (.tuple #[.string (frontS s), .string (backS s)]) ∧ ∃ n, w' = w.drewN n := by
  unfold maxLen at hs
  by_cases h3 : s.size < 3
  · have e1 : frontS s = s := by unfold frontS; rw [if_pos h3]
    have e2 : backS s = ⟨#[]⟩ := by unfold backS; rw [if_pos h3]
    rw [e1, e2]
    clear e1 e2
    go_enter Tryd.func119, Tryd.ntmps119
    go_wp2
    go_ret2
    exact ⟨rfl, 0, rfl⟩
  · have e1 : frontS s = s.extract 0 (s.size - 3) := by unfold frontS; rw [if_neg h3]
    have e2 : backS s = s.extract (s.size - 3) s.size := by unfold backS; rw [if_neg h3]
    rw [e1, e2]
    clear e1 e2
    obtain ⟨k, hk⟩ : ∃ k : Nat, s.size = k + 3 := ⟨s.size - 3, by omega⟩
    have hk' : (s.size : Int) - 3 = (k : Int) := by omega
    go_enter Tryd.func119, Tryd.ntmps119
    go_wp2
    go_quiet (fail)
    go_wp2
    go_ret2
    refine ⟨?_, _, rfl⟩
    rw [hk]
    simp
/-- minutes. -/
def mnN (s : ByteArray) : Int := hrN (frontS s) + sixN (backS s) * 60
def mnB (s : ByteArray) : Bool := hrB (frontS s) && sixB (backS s)
theorem front_le (s : ByteArray) : (frontS s).size ≤ s.size := by
  unfold frontS; split
  · omega
  · rw [ByteArray.size_extract]; omega
theorem back_le (s : ByteArray) : (backS s).size ≤ 3 := by
  unfold backS; split
  · simp [ByteArray.size]
  · rw [ByteArray.size_extract]; omega
set_option maxHeartbeats 400000 in
theorem impl_minutes (s : ByteArray) (w : World) (hs : s.size ≤ maxLen) :
    Calls Tryd.prog 99 #[.string s] w fun e w' => e = .returned (.tuple #[.int .i64 (mnN s), .bool (mnB s)]) ∧ ∃ n, w' = w.drewN n := by
  have hF := front_le s
  have hK := back_le s
  have hP := fun w => impl_parted s w hs
  have hH := fun w => impl_hours (frontS s) w (by unfold maxLen at hs ⊢; omega)
  have hX := fun w => impl_sixtieths (backS s) w (by omega)
  have b1 := hrN_bd (frontS s)
  have b2 := sixN_bd (backS s)
  unfold mnN mnB
  clear hs hF hK
  generalize hrN (frontS s) = n1 at *
  generalize sixN (backS s) = n2 at *
  generalize sixB (backS s) = c2 at *
  generalize hrB (frontS s) = c1 at *
  cases c1
  all_goals
    go_enter Tryd.func99, Tryd.ntmps99
    go_wp2_with fail
    refine (hP _).mono ?_
    rintro e w1 ⟨rfl, n, rfl⟩
    go_wp2_with fail
    refine (hH _).mono ?_
    rintro e w1 ⟨rfl, rfl⟩
    go_wp2_with fail
    refine (hX _).mono ?_
    rintro e w1 ⟨rfl, rfl⟩
    go_wp2
    go_ret2
    exact ⟨rfl, n, rfl⟩
theorem mnN_bd (s : ByteArray) : 0 ≤ mnN s ∧ mnN s ≤ 999999999 * 3600 + 999999999 * 60 := by
  have := hrN_bd (frontS s)
  have := sixN_bd (backS s)
  unfold mnN; omega
/-- seconds. -/
def scN (s : ByteArray) : Int := mnN (frontS s) + sixN (backS s)
def scB (s : ByteArray) : Bool := mnB (frontS s) && sixB (backS s)
set_option maxHeartbeats 400000 in
theorem impl_seconds (s : ByteArray) (w : World) (hs : s.size ≤ maxLen) :
    Calls Tryd.prog 100 #[.string s] w fun e w' => e = .returned (.tuple #[.int .i64 (scN s), .bool (scB s)]) ∧ ∃ n, w' = w.drewN n := by
  have hF := front_le s
  have hK := back_le s
  have hP := fun w => impl_parted s w hs
  have hH := fun w => impl_minutes (frontS s) w (by unfold maxLen at hs ⊢; omega)
  have hX := fun w => impl_sixtieths (backS s) w (by omega)
  have b1 := mnN_bd (frontS s)
  have b2 := sixN_bd (backS s)
  unfold scN scB
  clear hs hF hK
  generalize mnN (frontS s) = n1 at *
  generalize sixN (backS s) = n2 at *
  generalize sixB (backS s) = c2 at *
  generalize mnB (frontS s) = c1 at *
  cases c1
  all_goals
    go_enter Tryd.func100, Tryd.ntmps100
    go_wp2_with fail
    refine (hP _).mono ?_
    rintro e w1 ⟨rfl, n, rfl⟩
    go_wp2_with fail
    refine (hH _).mono ?_
    rintro e w1 ⟨rfl, m, rfl⟩
    go_wp2_with fail
    refine (hX _).mono ?_
    rintro e w1 ⟨rfl, rfl⟩
    go_wp2
    go_ret2
    exact ⟨rfl, n + m, rfl⟩
/-- what the program reads of an offset's text without its sign. -/
def rdB (s : ByteArray) : Bool := hrB s || (mnB s || scB s)
def rdN (s : ByteArray) : Int := if hrB s = true then hrN s else if mnB s = true then mnN s else if scB s = true then scN s else 0
set_option maxHeartbeats 1000000 in
theorem impl_read (s : ByteArray) (w : World) (hs : s.size ≤ maxLen) :
    Calls Tryd.prog 78 #[.string s] w fun e w' => e = .returned (.tuple #[.int .i64 (rdN s), .bool (rdB s)]) ∧ Below w.heap.size w w' := by
  have hH := fun w => impl_hours s w hs
  have hM := fun w => impl_minutes s w hs
  have hC := fun w => impl_seconds s w hs
  have i0 : ∀ (w : World) (x0 x1 x2 : Value), (Instr.index 88 (.agg #[x0, x1, x2]) (.int .i64 0)).run Tryd.prog w = .ok x0 w := fun _ _ _ _ => by kernel_rfl
  have i1 : ∀ (w : World) (x0 x1 x2 : Value), (Instr.index 88 (.agg #[x0, x1, x2]) (.int .i64 1)).run Tryd.prog w = .ok x1 w := fun _ _ _ _ => by kernel_rfl
  have i2 : ∀ (w : World) (x0 x1 x2 : Value), (Instr.index 88 (.agg #[x0, x1, x2]) (.int .i64 2)).run Tryd.prog w = .ok x2 w := fun _ _ _ _ => by kernel_rfl
  unfold rdN rdB
  generalize hrN s = n1 at *
  generalize hrB s = b1 at *
  generalize mnN s = n2 at *
  generalize mnB s = b2 at *
  generalize scN s = n3 at *
  generalize scB s = b3 at *
  clear hs
  go_enter Tryd.func78, Tryd.ntmps78
  go_wp2_with fail
  refine wp_loop_rounds 4 ?_
  rw [rounds_succ]
  go_wp2_with fail
  refine (hH _).mono ?_
  rintro e w1 ⟨rfl, rfl⟩
  cases b1
  case true =>
    go_wp2
    go_ret2
    exact ⟨by simp, (Below.refl _ _).alloc (Nat.le_refl _) _⟩
  go_wp2_with fail
  rw [rounds_succ]
  go_wp2_with fail
  refine (hM _).mono ?_
  rintro e w1 ⟨rfl, k, rfl⟩
  cases b2
  case true =>
    go_wp2
    go_ret2
    exact ⟨by simp, below1 _ _ _⟩
  go_wp2_with fail
  rw [rounds_succ]
  go_wp2_with fail
  refine (hC _).mono ?_
  rintro e w1 ⟨rfl, m, rfl⟩
  cases b3
  case true =>
    go_wp2
    go_ret2
    exact ⟨by simp, below1 _ _ _⟩
  go_wp2_with fail
  rw [rounds_succ]
  go_wp2
  go_ret2
  exact ⟨by simp, below1 _ _ _⟩
theorem rdN_bd (s : ByteArray) : 0 ≤ rdN s ∧ rdN s ≤ 10000000000000 := by
  have a := hrN_bd s
  have b := mnN_bd s
  have c := mnN_bd (frontS s)
  have d := sixN_bd (backS s)
  unfold rdN
  split
  · omega
  split
  · omega
  split
  · unfold scN; omega
  · omega
/-- the text without its sign, and whether it has one. -/
def restS (s : ByteArray) : ByteArray := ⟨(Lib.trimPrefix s.data.toList [45]).toArray⟩
def negB (s : ByteArray) : Bool := Lib.hasPrefix s.data.toList [45]
def minusB (s : ByteArray) : Bool := s.toList == [45]
/-- what OffsetRead tells of a text that is not too long. -/
def orC (s : ByteArray) : Int := if minusB s = true then 0 else if rdB (restS s) = true ∧ rdN (restS s) ≤ 604800 then 0 else 3
def orN (s : ByteArray) : Int := if minusB s = true then 0 else if rdB (restS s) = true ∧ rdN (restS s) ≤ 604800 then (if negB s = true then - rdN (restS s) else rdN (restS s)) else 0
theorem rest_le (s : ByteArray) : (restS s).size ≤ s.size := by
  unfold restS Lib.trimPrefix
  simp only [ByteArray.size]
  split <;> simp
set_option maxHeartbeats 1000000 in
theorem impl_OffsetRead (s : ByteArray) (w : World) (hs : s.size ≤ 8000) :
    Calls Tryd.prog 36 #[.string s] w fun e w' => e = .returned (.agg #[.int .i64 (orN s), .int .i64 (orC s)]) ∧ Below w.heap.size w w' := by
  have hR := fun w => impl_read (restS s) w (by have := rest_le s; unfold maxLen; omega)
  have hC := fun w => Tryd.strings_CutPrefix s ⟨#[45]⟩ w
  have ec : (⟨(Lib.trimPrefix s.data.toList (⟨#[45]⟩ : ByteArray).data.toList).toArray⟩ : ByteArray) = restS s := rfl
  have en : Lib.hasPrefix s.data.toList (⟨#[45]⟩ : ByteArray).data.toList = negB s := rfl
  rw [ec, en] at hC
  clear ec en
  have bd : 0 ≤ rdN (restS s) ∧ rdN (restS s) ≤ 10000000000000 := rdN_bd _
  unfold orN orC
  cases hm : minusB s
  · have hm' : (s.toList == [45]) = false := hm
    clear hm
    generalize rdB (restS s) = b at *
    generalize rdN (restS s) = n at *
    generalize negB s = g at *
    generalize restS s = r at *
    have nb : (b = true ∧ n ≤ 604800) ∨ ¬ (b = true ∧ n ≤ 604800) := Classical.em _
    simp only [Bool.false_eq_true, if_false]
    rcases nb with hb0 | hb0
    · rw [if_pos hb0, if_pos hb0]
      obtain ⟨rfl, hn⟩ := hb0
      cases g
      · simp only [Bool.false_eq_true, if_false]
        go_enter Tryd.func36, Tryd.ntmps36
        go_wp2_with fail
        refine (hC _).mono ?_
        rintro e w0 ⟨rfl, rfl⟩
        go_wp2_with fail
        refine (hR _).mono ?_
        rintro e w1 ⟨rfl, hb⟩
        obtain ⟨hc, hf⟩ := bcell hb
        have hz : w.heap.size < w1.heap.size := by have := hb.size; simp at this; omega
        have hB : Below w.heap.size w w1 := ((Below.refl _ _).alloc (Nat.le_refl _) _).trans (hb.mono (by simp))
        go_wp2
        exact bodyPost_ret (v := .agg #[.int .i64 (n), .int .i64 0]) (by simp [results, Tryd.results36, go_sem, hc]) rfl ⟨rfl, (hB.setCell (Nat.le_refl _) _).setCell (Nat.le_refl _) _⟩
      · simp only [if_true]
        go_enter Tryd.func36, Tryd.ntmps36
        go_wp2_with fail
        refine (hC _).mono ?_
        rintro e w0 ⟨rfl, rfl⟩
        go_wp2_with fail
        refine (hR _).mono ?_
        rintro e w1 ⟨rfl, hb⟩
        obtain ⟨hc, hf⟩ := bcell hb
        have hz : w.heap.size < w1.heap.size := by have := hb.size; simp at this; omega
        have hB : Below w.heap.size w w1 := ((Below.refl _ _).alloc (Nat.le_refl _) _).trans (hb.mono (by simp))
        go_wp2
        exact bodyPost_ret (v := .agg #[.int .i64 (-n), .int .i64 0]) (by simp [results, Tryd.results36, go_sem, hc]) rfl ⟨rfl, (hB.setCell (Nat.le_refl _) _).setCell (Nat.le_refl _) _⟩
    · rw [if_neg hb0, if_neg hb0]
      cases b
      · clear hb0
        go_enter Tryd.func36, Tryd.ntmps36
        go_wp2_with fail
        refine (hC _).mono ?_
        rintro e w0 ⟨rfl, rfl⟩
        go_wp2_with fail
        refine (hR _).mono ?_
        rintro e w1 ⟨rfl, hb⟩
        obtain ⟨hc, hf⟩ := bcell hb
        have hz : w.heap.size < w1.heap.size := by have := hb.size; simp at this; omega
        have hB : Below w.heap.size w w1 := ((Below.refl _ _).alloc (Nat.le_refl _) _).trans (hb.mono (by simp))
        go_wp2
        exact bodyPost_ret (v := .agg #[.int .i64 (0), .int .i64 3]) (by simp [results, Tryd.results36, go_sem, hc]) rfl ⟨rfl, (hB.setCell (Nat.le_refl _) _).setCell (Nat.le_refl _) _⟩
      · have hn : 604800 < n := by
          rcases Int.lt_or_le 604800 n with h | h
          · exact h
          · exact absurd ⟨rfl, h⟩ hb0
        clear hb0
        go_enter Tryd.func36, Tryd.ntmps36
        go_wp2_with fail
        refine (hC _).mono ?_
        rintro e w0 ⟨rfl, rfl⟩
        go_wp2_with fail
        refine (hR _).mono ?_
        rintro e w1 ⟨rfl, hb⟩
        obtain ⟨hc, hf⟩ := bcell hb
        have hz : w.heap.size < w1.heap.size := by have := hb.size; simp at this; omega
        have hB : Below w.heap.size w w1 := ((Below.refl _ _).alloc (Nat.le_refl _) _).trans (hb.mono (by simp))
        go_wp2
        exact bodyPost_ret (v := .agg #[.int .i64 (0), .int .i64 3]) (by simp [results, Tryd.results36, go_sem, hc]) rfl ⟨rfl, (hB.setCell (Nat.le_refl _) _).setCell (Nat.le_refl _) _⟩
  · rw [if_pos rfl, if_pos rfl]
    have hm' : (s.toList == [45]) = true := hm
    clear hm hR hC bd
    go_enter Tryd.func36, Tryd.ntmps36
    go_wp2
    exact bodyPost_ret (v := .agg #[.int .i64 0, .int .i64 0]) (by simp [results, Tryd.results36, go_sem]) rfl ⟨rfl, (Below.refl _ _).alloc (Nat.le_refl _) _⟩
end Go.Proofs.YtibhbpgnjikjnaaDoor
