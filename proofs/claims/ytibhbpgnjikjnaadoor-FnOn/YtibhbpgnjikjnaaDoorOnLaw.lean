/- The walk of the law FnOn: the day that a drawn text tells. -/
import Derived.Test.YtibhbpgnjikjnaaDoorOn9
import Derived.Test.YtibhbpgnjikjnaaDoorDrawsOn
import Derived.BigRegion
namespace Go.Proofs.YtibhbpgnjikjnaaDoor
open Go.RowKit

theorem wd_text {t : ByteArray} {v : Int} (h : wdN t = v) (hv : 0 ≤ v) : v < 7 ∧ spB wdNames t v.toNat = true := by
  have hb := wdN_bd t
  have hne : wdN t ≠ -1 := by omega
  have : ∀ k n, spG wdNames t k n ≠ -1 → spB wdNames t (spG wdNames t k n).toNat = true := by
    intro k n
    induction n generalizing k with
    | zero => intro h; exact absurd rfl h
    | succ n ih =>
      intro h
      cases hk : spB wdNames t k
      · rw [spG_miss hk (by omega)] at h ⊢; exact ih _ h
      · rw [spG_hit hk (by omega)]; simpa using hk
  have h2 := this 0 7 hne
  unfold wdN at h
  rw [h] at h2
  exact ⟨by unfold wdN at hb; omega, h2⟩
/-- the text of a weekday's name in the law's own row. -/
theorem name_cell {t : ByteArray} {v : Int} (h : wdN t = v) (hv : 0 ≤ v) (W : World) : ∃ x : ByteArray, (W.alloc (.cells #[.string ⟨#[83, 117, 110]⟩, .string ⟨#[77, 111, 110]⟩, .string ⟨#[84, 117, 101]⟩, .string ⟨#[87, 101, 100]⟩, .string ⟨#[84, 104, 117]⟩, .string ⟨#[70, 114, 105]⟩, .string ⟨#[83, 97, 116]⟩] 9)).cell? ⟨W.heap.size, v.toNat, none⟩ = some (.string x) ∧ (t.toList == x.toList) = true := by
  have ⟨h7, hs⟩ := wd_text h hv
  refine ⟨wdList.getD v.toNat ⟨#[]⟩, pick_str W 9 wdList v.toNat (by show v.toNat < 7; omega), ?_⟩
  have := wdList_eq (k := v.toNat) (by omega)
  unfold spB at hs
  rw [beq_iff_eq] at hs ⊢
  rw [this, hs]
/-- what a told day is: one of four forms. -/
theorem told_forms {y m : Int} {s : ByteArray} (h : toldV y m s ≠ -1000000) : ymB y m = true ∧
    ((s.size < 3 ∧ num y m 1 ≤ toldV y m s ∧ toldV y m s ≤ num y m 1 + Cal.dim y m - 1) ∨
     (aB s = true ∧ wdN (s.extract 4 7) = (toldV y m s + 719163) % 7 ∧ toldV y m s ≤ num y m 1 + Cal.dim y m - 1 ∧ num y m 1 + Cal.dim y m - 1 - 7 < toldV y m s) ∨
     (bB 62 s = true ∧ wdN (s.extract 0 3) = (toldV y m s + 719163) % 7 ∧ ∃ k, toldV y m (s.extract 5 s.size) = k ∧ k ≤ toldV y m s ∧ toldV y m s < k + 7 ∧ -719162 ≤ k ∧ k ≤ 2932896) ∨
     (bB 60 s = true ∧ wdN (s.extract 0 3) = (toldV y m s + 719163) % 7 ∧ ∃ k, toldV y m (s.extract 5 s.size) = k ∧ toldV y m s ≤ k ∧ k - 7 < toldV y m s ∧ -719162 ≤ k ∧ k ≤ 2932896)) := by
  cases hy : ymB y m
  · exact absurd (by unfold toldV; rw [hy]; rfl) h
  refine ⟨rfl, ?_⟩
  have ht : ∀ s, toldV y m s = moV y m s := fun s => by unfold toldV; rw [hy, if_pos rfl, on_same hy]
  have hk : ∀ t, nbV y m t ≠ -1000000 → toldV y m t = nbV y m t := fun t hn => by
    unfold toldV onV orV; rw [hy, if_pos rfl, if_neg hn]
  rw [ht] at h ⊢
  have nl := num_bd (vld_last hy)
  unfold moV at h ⊢
  by_cases hA : aB s = true ∧ wdN (s.extract 4 7) ≠ -1
  · rw [if_pos hA] at h ⊢
    right; left
    have hb := wdN_bd (s.extract 4 7)
    unfold uptoV
    rw [if_neg (by omega)]
    rw [last_num] at nl ⊢
    exact ⟨hA.1, by omega, by omega, by omega⟩
  · rw [if_neg hA] at h ⊢
    cases h1 : bB 62 s
    · rw [h1, if_neg (by simp)] at h
      rw [if_neg (by simp)]
      cases h2 : bB 60 s
      · rw [h2, if_neg (by simp)] at h
        rw [if_neg (by simp)]
        left
        have e := nb_two hy s
        by_cases hc : 1 ≤ twoN s ∧ twoN s ≤ Cal.dim y m
        · rw [if_pos hc] at e
          rw [e]
          refine ⟨?_, by omega, by omega⟩
          rcases Nat.lt_or_ge s.size 3 with hl | hl
          · exact hl
          · have := two_big (s := s) (by omega); omega
        · rw [if_neg hc] at e
          exact absurd e h
      · rw [h2, if_pos rfl] at h
        rw [if_pos rfl]
        right; right; right
        have ⟨u1, u2⟩ := upto_no h
        have hb := wdN_bd (s.extract 0 3)
        have nb := nbV_bd y m (s.extract 5 s.size)
        refine ⟨rfl, ?_, _, hk _ u2, ?_, ?_, by omega, by omega⟩
        all_goals (unfold uptoV; rw [if_neg (by omega)]; omega)
    · rw [h1, if_pos rfl] at h
      rw [if_pos rfl]
      right; right; left
      have ⟨u1, u2⟩ := from_no h
      have hb := wdN_bd (s.extract 0 3)
      have nb := nbV_bd y m (s.extract 5 s.size)
      refine ⟨rfl, ?_, _, hk _ u2, ?_, ?_, by omega, by omega⟩
      all_goals (unfold fromV; rw [if_neg (by omega)]; omega)
theorem last_no {s : ByteArray} (h4 : 4 ≤ s.size) (h : byteAt s 3 ≠ 116) : ((s.extract 0 4).toList == [108, 97, 115, 116]) = false := by
  cases hb : ((s.extract 0 4).toList == [108, 97, 115, 116])
  · rfl
  · exact absurd (ext_byte (a := 0) h4 (beq_iff_eq.mp hb) (i := 3) rfl) h
def Env (w : World) : Prop := Tab w ∧ Mx w
theorem Env.of_below {w w' : World} (h : Env w) (hb : Below w.heap.size w w') : Env w' := ⟨h.1.of_below hb, h.2.of_below hb⟩
theorem told_bd {y m : Int} {s : ByteArray} : toldV y m s = -1000000 ∨ (-800000 ≤ toldV y m s ∧ toldV y m s ≤ 3000000) := by
  by_cases h : toldV y m s = -1000000
  · exact .inl h
  · right
    obtain ⟨hy, hf⟩ := told_forms h
    have ⟨y1, y2, m1, m2⟩ := ymB_t hy
    have dm := Cal.dim_bd y m
    have nl := num_bd (vld_last hy)
    rw [last_num] at nl
    rcases hf with ⟨_, _, _⟩ | ⟨_, _, _, _⟩ | ⟨_, _, k, _, _, _, _, _⟩ | ⟨_, _, k, _, _, _, _, _⟩ <;> omega
set_option maxRecDepth 100000 in
set_option maxHeartbeats 4000000 in
theorem on_walk (a0 : Option Addr) (len0 cap0 : Nat) (w : World) (hE : Env w) (l0 : len0 ≤ 1048576) (r0 : RowOf w a0 len0) :
    Calls Tryd.prog 4 #[.slice a0 len0 cap0] w fun e w' => e = .returned (.bool true) ∧ Below w.heap.size w w' := by
  go_enter Tryd.func4, Tryd.ntmps4
  go_wp2_with fail
  refine (draw_DayOn a0 len0 cap0 _ r0 l0).mono ?_
  rintro e w1 ⟨y, m, s, rfl, hz, hb1⟩
  have hE1 := hE.of_below hb1
  have hI := fun w (h : Env w) => impl_DayOn y m s w h.1 h.2 (by omega)
  have hS := fun w => spec_DayOn y m s w (by omega)
  by_cases hno : toldV y m s = -1000000
  · rw [hno] at hI hS
    clear hno
    go_wp2_with fail
    refine (hI _ hE1).mono ?_
    rintro e w2 ⟨rfl, hb2⟩
    have hB2 := hb1.trans (hb2.mono hb1.size)
    go_wp2_with fail
    refine (hS _).mono ?_
    rintro e w3 ⟨rfl, hb3⟩
    have hB3 := hB2.trans (hb3.mono hB2.size)
    go_wp2_with fail
    refine (hS _).mono ?_
    rintro e w4 ⟨rfl, hb4⟩
    have hB4 := hB3.trans (hb4.mono hB3.size)
    go_wp2
    go_ret
    exact ⟨by simp, hB4⟩
  · obtain ⟨hy, hf⟩ := told_forms hno
    have nb : -800000 ≤ toldV y m s ∧ toldV y m s ≤ 3000000 := by have := told_bd (y := y) (m := m) (s := s); omega
    have ⟨y1, y2, m1, m2⟩ := ymB_t hy
    have dm := Cal.dim_bd y m
    have nl := num_bd (vld_last hy)
    rw [last_num] at nl
    have hv1 := vld_mk (y := y) (m := m) (d := 1) ⟨y1, y2, m1, m2, by omega, by omega⟩
    have nf := num_bd hv1
    have hX := fun w (h : Env w) => impl_DaysOf_ok y m 1 w h.1 hv1
    have hM := fun w (h : Env w) => impl_MonthDays_ok y m w h.1 y1 y2 m1 m2
    have hK := fun w (h : Env w) => impl_DayOn y m (s.extract 5 s.size) w h.1 h.2 (by rw [ByteArray.size_extract]; omega)
    have gn : (toldV y m s == -1000000) = false := by simpa using hno
    clear hv1 hy y1 y2 m1 m2 hno
    generalize toldV y m s = n at *
    generalize num y m 1 = q at *
    generalize Cal.dim y m = dd at *
    generalize toldV y m (s.extract 5 s.size) = k0 at *
    have hw7 : 0 ≤ (n + 719163) % 7 ∧ (n + 719163) % 7 < 7 := by omega
    have ew : (n + 4 + 7000000) % 7 = (n + 719163) % 7 := by omega
    obtain ⟨u, hu⟩ : ∃ u, (n + 719163) % 7 = u := ⟨_, rfl⟩
    rw [hu] at hw7 ew hf
    have EW : Hid ((n + 4 + 7000000) % 7 = u) := ew
    clear hu ew
    go_wp2_with fail
    refine (hI _ hE1).mono ?_
    rintro e w2 ⟨rfl, hb2⟩
    have hB2 := hb1.trans (hb2.mono hb1.size)
    go_wp2_with fail
    refine (hS _).mono ?_
    rintro e w3 ⟨rfl, hb3⟩
    have hB3 := hB2.trans (hb3.mono hB2.size)
    have hE3 := hE.of_below hB3
    go_wp2_with fail
    refine (hX _ hE3).mono ?_
    rintro e w4 ⟨rfl, hb4⟩
    have hB4 := hB3.trans (hb4.mono hB3.size)
    have hE4 := hE.of_below hB4
    go_wp2_with fail
    refine (hM _ hE4).mono ?_
    rintro e w5 ⟨rfl, rfl⟩
    clear hI hS hX hM hb1 hb2 hb3 hb4 hB2 hB3 hE1 hE3
    go_upto_region 11 with fail
    rw [EW.out]
    clear EW
    rcases hf with ⟨f1, f2, f3⟩ | ⟨f1, f2, f3, f4⟩ | ⟨f1, f2, k, rfl, f3, f4, f5, f6⟩ | ⟨f1, f2, k, rfl, f3, f4, f5, f6⟩
    · go_wp2
      go_ret
      exact ⟨by simp <;> omega, hB4.alloc hB4.size _⟩
    · have h7 := (aB_byte f1).1
      have ha2 : ((s.extract 0 4).toList == [108, 97, 115, 116]) = true := by unfold aB at f1; simp only [Bool.and_eq_true] at f1; exact f1.2
      obtain ⟨x, hx, hxe⟩ := name_cell f2 hw7.1 w5
      clear f1 f2 hK
      go_wp2_with fail
      go_region
      all_goals
        go_wp2
        go_ret
        exact ⟨by simp <;> omega, below_drewN (hB4.alloc hB4.size _) 1⟩
    · obtain ⟨g5, g3, g4⟩ := bB_byte f1
      have hl := last_no (s := s) (by omega) (by rw [g3]; decide)
      have hc3 : ((s[3].toNat : Int) == 62) = true := by rw [byteAt_eq s 3 (by omega), g3]; rfl
      obtain ⟨x, hx, hxe⟩ := name_cell f2 hw7.1 w5
      have h3i : (3 : Int) < (s.size : Int) := by omega
      clear f1 f2 g3 g4
      go_wp2_with fail
      refine (hK _ (hE4.of_below ((Below.refl _ _).alloc (Nat.le_refl _) _))).mono ?_
      rintro e w6 ⟨rfl, hb6⟩
      have hB6 := (hB4.alloc hB4.size _).trans (hb6.mono (by have := hB4.size; simp; omega))
      have hx6 := hb6.cell (p := ⟨w5.heap.size, u.toNat, none⟩) (by simp)
      rw [hx] at hx6
      clear hx hb6 hK
      go_wp2_with fail
      go_region
      all_goals
        go_wp2
        go_ret
        exact ⟨by simp <;> omega, below_drewN hB6 1⟩
    · obtain ⟨g5, g3, g4⟩ := bB_byte f1
      have hl := last_no (s := s) (by omega) (by rw [g3]; decide)
      have hc3 : ((s[3].toNat : Int) == 62) = false := by rw [byteAt_eq s 3 (by omega), g3]; rfl
      have hc4 : ((s[3].toNat : Int) == 60) = true := by rw [byteAt_eq s 3 (by omega), g3]; rfl
      obtain ⟨x, hx, hxe⟩ := name_cell f2 hw7.1 w5
      have h3i : (3 : Int) < (s.size : Int) := by omega
      clear f1 f2 g3 g4
      go_wp2_with fail
      refine (hK _ (hE4.of_below ((Below.refl _ _).alloc (Nat.le_refl _) _))).mono ?_
      rintro e w6 ⟨rfl, hb6⟩
      have hB6 := (hB4.alloc hB4.size _).trans (hb6.mono (by have := hB4.size; simp; omega))
      have hx6 := hb6.cell (p := ⟨w5.heap.size, u.toNat, none⟩) (by simp)
      rw [hx] at hx6
      clear hx hb6 hK
      go_wp2_with fail
      go_region
      all_goals
        go_wp2
        go_ret
        exact ⟨by simp <;> omega, below_drewN hB6 1⟩
end Go.Proofs.YtibhbpgnjikjnaaDoor
