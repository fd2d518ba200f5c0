/- What the program and the model tell of a text is the same day: whole. -/
import Derived.Test.YtjdokmllidhapaaGreatDoorOn8
namespace Go.Proofs.YtjdokmllidhapaaGreatDoor
open Go.RowKit

theorem ex_data (s : ByteArray) (a b : Nat) : (s.extract a b).toList = (s.data.toList.drop a).take (b - a) := by
  rw [ByteArray.toList_eq, ByteArray.data_extract]
  simp [List.take_drop]
theorem la_t {s : ByteArray} (h : laB s = true) : 4 ≤ s.size ∧ laR s = s.extract 4 s.size ∧ (s.extract 0 4).toList = [108, 97, 115, 116] := by
  have hz : s.data.toList.length = s.size := by rw [Array.length_toList]; rfl
  have h' := h
  unfold laB Lib.hasPrefix at h
  rw [List.isPrefixOf_iff_prefix] at h
  obtain ⟨r, hr⟩ := h
  have hl := congrArg List.length hr
  simp [hz] at hl
  refine ⟨by omega, ?_, ?_⟩
  · unfold laR Lib.trimPrefix
    unfold laB at h'
    rw [if_pos h']
    apply toList_inj
    rw [ex_data, ByteArray.toList_eq, List.take_of_length_le (by simp [hz])]
    simp
  · rw [ex_data, ← hr]; rfl
theorem la_of {s : ByteArray} (h : (s.extract 0 4).toList = [108, 97, 115, 116]) : laB s = true := by
  unfold laB Lib.hasPrefix
  rw [List.isPrefixOf_iff_prefix]
  rw [ex_data] at h
  refine ⟨s.data.toList.drop 4, ?_⟩
  rw [← h]
  simp
theorem bB_mk {s : ByteArray} {c : UInt8} (h5 : 5 < s.size) (h3 : byteAt s 3 = (c.toNat : Int)) (h4 : byteAt s 4 = 61) : bB c s = true := by
  have e : s.extract 3 5 = S [c, 61] := by
    have hz : (s.extract 3 5).size = 2 := by rw [ByteArray.size_extract]; omega
    apply bytes_ext (by rw [hz, S_size]; rfl)
    intro i hi
    rcases (show i = 0 ∨ i = 1 by omega) with rfl | rfl
    · rw [byteAt_ex (by omega) (by omega), byteAt_S (l := [c, 61]) (i := 0) (c := c) rfl]; exact h3
    · rw [byteAt_ex (by omega) (by omega), byteAt_S (l := [c, 61]) (i := 1) (c := 61) rfl]; exact h4
  unfold bB
  rw [e, decide_eq_true h5]
  simp [ByteArray.toList_eq]
theorem upto_no {v d : Int} (h : uptoV v d ≠ -1000000) : v ≠ -1 ∧ d ≠ -1000000 := by
  unfold uptoV at h
  by_cases hc : v = -1 ∨ d = -1000000
  · rw [if_pos hc] at h; exact absurd rfl h
  · omega
theorem from_no {v d : Int} (h : fromV v d ≠ -1000000) : v ≠ -1 ∧ d ≠ -1000000 := by
  unfold fromV at h
  by_cases hc : v = -1 ∨ d = -1000000
  · rw [if_pos hc] at h; exact absurd rfl h
  · omega
theorem nb_empty (y m : Int) {t : ByteArray} (h : t.size = 0) : nbV y m t = -1000000 := by
  unfold nbV nbB; rw [digs_no0 h]; simp
/-- a text of the form with >=, if it tells a day. -/
theorem first_form {y m : Int} {s : ByteArray} (h : firstV y m s ≠ -1000000) : bB 62 s = true := by
  unfold firstV at h
  cases hb : cutB s 62 61
  · rw [hb] at h; exact absurd rfl h
  · rw [hb, if_pos rfl] at h
    have ⟨h1, h2⟩ := from_no h
    obtain ⟨c1, c2, c3, c4, c5⟩ := cut_back hb h1
    refine bB_mk ?_ c2 c3
    rcases Nat.lt_or_ge 5 s.size with hl | hl
    · exact hl
    · exact absurd (nb_empty y m (by rw [c5, ByteArray.size_extract]; omega)) h2
theorem last_form {y m : Int} {s : ByteArray} (h : lastV y m s ≠ -1000000) : bB 60 s = true := by
  unfold lastV at h
  cases hb : cutB s 60 61
  · rw [hb] at h; exact absurd rfl h
  · rw [hb, if_pos rfl] at h
    have ⟨h1, h2⟩ := upto_no h
    obtain ⟨c1, c2, c3, c4, c5⟩ := cut_back hb h1
    refine bB_mk ?_ c2 c3
    rcases Nat.lt_or_ge 5 s.size with hl | hl
    · exact hl
    · exact absurd (nb_empty y m (by rw [c5, ByteArray.size_extract]; omega)) h2
theorem lom_form {y m : Int} {s : ByteArray} (h : lomV y m s ≠ -1000000) : aB s = true ∧ wdN (s.extract 4 7) ≠ -1 ∧ lomV y m s = uptoV (wdN (s.extract 4 7)) (num y m (Cal.dim y m)) := by
  unfold lomV at h ⊢
  cases hb : laB s
  · rw [hb] at h; exact absurd rfl h
  · rw [hb, if_pos rfl] at h
    have ⟨h1, h2⟩ := upto_no h
    obtain ⟨l1, l2, l3⟩ := la_t hb
    have hz := (wd_bytes h1).1
    rw [l2, ByteArray.size_extract] at hz
    have h7 : s.size = 7 := by omega
    rw [l2, h7] at h1
    refine ⟨by unfold aB; rw [l3, decide_eq_true h7]; rfl, h1, ?_⟩
    rw [if_pos rfl, l2, h7]
theorem bB_both {s : ByteArray} (h1 : bB 62 s = true) (h2 : bB 60 s = true) : False := by
  have a := (bB_byte h1).2.1
  have b := (bB_byte h2).2.1
  rw [a] at b
  exact absurd b (by decide)
/-- the cut of a text of that form. -/
theorem form_cut {s : ByteArray} {c : UInt8} (hc : c.toNat < 65) (h : bB c s = true) : (wdN (s.extract 0 3) ≠ -1 → cutB s c 61 = true ∧ cutA s c 61 = s.extract 0 3 ∧ cutZ s c 61 = s.extract 5 s.size) ∧ (wdN (s.extract 0 3) = -1 → cutB s c 61 = true → wdN (cutA s c 61) = -1) := by
  obtain ⟨h5, h3, h4⟩ := bB_byte h
  constructor
  · intro hw
    have hl := (wd_bytes hw).2
    have := cut_three (s := s) (a := c) (b := 61) hc (by decide) (by omega) h3 h4 (fun i hi => by have := hl i hi; rw [byteAt_ex (by omega) (by omega)] at this; simpa using this)
    exact ⟨this.2.2, this.1, this.2.1⟩
  · intro hw hb
    refine Classical.byContradiction fun hn => ?_
    obtain ⟨_, _, _, c4, _⟩ := cut_back hb hn
    rw [c4] at hn
    exact hn hw
theorem on_same {y m : Int} (hy : ymB y m = true) (s : ByteArray) : onV y m s = moV y m s := by
  have nl := num_bd (vld_last hy)
  unfold onV moV
  by_cases hA : aB s = true ∧ wdN (s.extract 4 7) ≠ -1
  · rw [if_pos hA]
    have h7 := (aB_byte hA.1).1
    have hl : lomV y m s = uptoV (wdN (s.extract 4 7)) (num y m (Cal.dim y m)) := by
      have l3 : (s.extract 0 4).toList = [108, 97, 115, 116] := by have := hA.1; unfold aB at this; simp only [Bool.and_eq_true, beq_iff_eq] at this; exact this.2
      have hb := la_of l3
      unfold lomV
      rw [if_pos hb, (la_t hb).2.1, h7]
    have hne : lomV y m s ≠ -1000000 := by
      rw [hl]; unfold uptoV
      have := wdN_bd (s.extract 4 7)
      rw [if_neg (by omega)]
      omega
    unfold orV
    rw [nb_size (by omega), if_pos rfl, if_neg hne, hl]
  · rw [if_neg hA]
    have hlo : lomV y m s = -1000000 := Classical.byContradiction fun hn => hA ⟨(lom_form hn).1, (lom_form hn).2.1⟩
    rw [hlo]
    cases h1 : bB 62 s
    · have hfi : firstV y m s = -1000000 := Classical.byContradiction fun hn => by rw [first_form hn] at h1; cases h1
      rw [hfi, if_neg (by simp)]
      cases h2 : bB 60 s
      · have hla : lastV y m s = -1000000 := Classical.byContradiction fun hn => by rw [last_form hn] at h2; cases h2
        rw [hla, if_neg (by simp)]
        unfold orV
        by_cases hn : nbV y m s = -1000000
        · rw [hn]; rfl
        · rw [if_neg hn]
      · rw [if_pos rfl, nb_size (by have := (bB_byte h2).1; omega)]
        have ⟨f1, f2⟩ := form_cut (s := s) (c := 60) (by decide) h2
        have : lastV y m s = uptoV (wdN (s.extract 0 3)) (nbV y m (s.extract 5 s.size)) := by
          unfold lastV
          by_cases hw : wdN (s.extract 0 3) = -1
          · have e : uptoV (wdN (s.extract 0 3)) (nbV y m (s.extract 5 s.size)) = -1000000 := by unfold uptoV; rw [if_pos (.inl hw)]
            rw [e]
            cases hb : cutB s 60 61
            · rfl
            · rw [if_pos rfl, f2 hw hb]; unfold uptoV; rw [if_pos (.inl rfl)]
          · have ⟨g1, g2, g3⟩ := f1 hw
            rw [if_pos g1, g2, g3]
        rw [this]; rfl
    · rw [if_pos rfl, nb_size (by have := (bB_byte h1).1; omega)]
      have hla : lastV y m s = -1000000 := Classical.byContradiction fun hn => bB_both h1 (last_form hn)
      have ⟨f1, f2⟩ := form_cut (s := s) (c := 62) (by decide) h1
      have : firstV y m s = fromV (wdN (s.extract 0 3)) (nbV y m (s.extract 5 s.size)) := by
        unfold firstV
        by_cases hw : wdN (s.extract 0 3) = -1
        · have e : fromV (wdN (s.extract 0 3)) (nbV y m (s.extract 5 s.size)) = -1000000 := by unfold fromV; rw [if_pos (.inl hw)]
          rw [e]
          cases hb : cutB s 62 61
          · rfl
          · rw [if_pos rfl, f2 hw hb]; unfold fromV; rw [if_pos (.inl rfl)]
        · have ⟨g1, g2, g3⟩ := f1 hw
          rw [if_pos g1, g2, g3]
      rw [this, hla]
      unfold orV
      rw [if_pos rfl, if_pos rfl]
      by_cases hn : fromV (wdN (s.extract 0 3)) (nbV y m (s.extract 5 s.size)) = -1000000
      · rw [if_pos hn, hn]
      · rw [if_neg hn]
end Go.Proofs.YtjdokmllidhapaaGreatDoor
