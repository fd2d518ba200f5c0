/- Runes of a text: a line feed is a rune of its own, and no other rune holds one. -/
import Derived.Test.YtfdnniedcfeiiaaDoorD1
import Derived.Laws.RangeAny
import Derived.Lib.OthersKept
namespace Go.Proofs.YtfdnniedcfeiiaaDoor
open Go.RowKit

def contB (s : ByteArray) (j : Nat) : Prop := j < s.size ∧ (s.get! j).toNat / 64 = 2
theorem contB_ne {s : ByteArray} {j : Nat} (h : contB s j) : byteAt s j ≠ 10 := by
  have e := byteAt_eq s j h.1
  have e2 : s.get! j = s[j]'h.1 := by have := get_at s j h.1; rw [Nat.add_zero] at this; exact this
  have h2 := h.2
  rw [e2] at h2
  omega
theorem dec_w (s : ByteArray) (pos : Nat) : (Utf8.decode s pos).2 = 1 ∨ ((Utf8.decode s pos).2 = 2 ∧ contB s (pos + 1)) ∨ ((Utf8.decode s pos).2 = 3 ∧ contB s (pos + 1) ∧ contB s (pos + 2)) ∨ ((Utf8.decode s pos).2 = 4 ∧ contB s (pos + 1) ∧ contB s (pos + 2) ∧ contB s (pos + 3)) := by
  simp only [Utf8.decode]
  repeat' split
  all_goals first
    | (left; rfl)
    | (rename_i h1 h2; right; left; simp only [Bool.and_eq_true, decide_eq_true_eq, beq_iff_eq] at h1; exact ⟨rfl, h1.2.1, h1.2.2⟩)
    | (rename_i h1 h2; right; right; left; simp only [Bool.and_eq_true, decide_eq_true_eq, beq_iff_eq] at h1; exact ⟨rfl, h1.1.2, h1.2⟩)
    | (rename_i h1 h2; right; right; right; simp only [Bool.and_eq_true, decide_eq_true_eq, beq_iff_eq] at h1; exact ⟨rfl, h1.1.1.2, h1.1.2, h1.2⟩)
theorem dec_in {s : ByteArray} {pos : Nat} (h : pos < s.size) (hc : byteAt s pos ≠ 10) : 1 ≤ (Utf8.decode s pos).2 ∧ pos + (Utf8.decode s pos).2 ≤ s.size ∧ ∀ j, pos ≤ j → j < pos + (Utf8.decode s pos).2 → byteAt s j ≠ 10 := by
  rcases dec_w s pos with e | ⟨e, h1⟩ | ⟨e, h1, h2⟩ | ⟨e, h1, h2, h3⟩
  · rw [e]; exact ⟨by omega, by omega, fun j a b => by have : j = pos := by omega
                                                       subst this; exact hc⟩
  · rw [e]; refine ⟨by omega, by have := h1.1; omega, fun j a b => ?_⟩
    rcases (show j = pos ∨ j = pos + 1 by omega) with rfl | rfl
    · exact hc
    · exact contB_ne h1
  · rw [e]; refine ⟨by omega, by have := h2.1; omega, fun j a b => ?_⟩
    rcases (show j = pos ∨ j = pos + 1 ∨ j = pos + 2 by omega) with rfl | rfl | rfl
    · exact hc
    · exact contB_ne h1
    · exact contB_ne h2
  · rw [e]; refine ⟨by omega, by have := h3.1; omega, fun j a b => ?_⟩
    rcases (show j = pos ∨ j = pos + 1 ∨ j = pos + 2 ∨ j = pos + 3 by omega) with rfl | rfl | rfl | rfl
    · exact hc
    · exact contB_ne h1
    · exact contB_ne h2
    · exact contB_ne h3
theorem lfs_over {s : ByteArray} {a : Nat} : ∀ d, (∀ j, a ≤ j → j < a + d → byteAt s j ≠ 10) → lfs s (a + d) = lfs s a
  | 0, _ => rfl
  | d + 1, h => by
    rw [show a + (d + 1) = (a + d) + 1 by omega, lfs_miss (h (a + d) (by omega) (by omega))]
    exact lfs_over d fun j x y => h j x (by omega)
/-- a rune that is no line feed: it is none, and the lines are as before behind it. -/
theorem dec_other {s : ByteArray} {pos : Nat} (h : pos < s.size) (hc : byteAt s pos ≠ 10) : (Utf8.decode s pos).1 ≠ 10 ∧ (Utf8.decode s pos).1 ≤ 2147483647 ∧ 1 ≤ (Utf8.decode s pos).2 ∧ pos + (Utf8.decode s pos).2 ≤ s.size ∧ lfs s (pos + (Utf8.decode s pos).2) = lfs s pos := by
  have ⟨a1, a2, a3⟩ := dec_in h hc
  refine ⟨?_, decode_le s pos, a1, a2, lfs_over _ a3⟩
  have e := byteAt_eq s pos h
  by_cases ha : (s[pos]'h).toNat < 128
  · rw [decode_ascii s pos h ha]; show (s[pos]'h).toNat ≠ 10; omega
  · have := (decode_high s pos h (by omega)).1; omega
theorem dec_lf {s : ByteArray} {pos : Nat} (h : pos < s.size) (hc : byteAt s pos = 10) : Utf8.decode s pos = (10, 1) := by
  have e := byteAt_eq s pos h
  have e10 : (s[pos]'h).toNat = 10 := by omega
  rw [decode_ascii s pos h (by omega), e10]
theorem lfs_pre (s : ByteArray) (k : Nat) : ∀ d, ∃ t, (lfs s (k + d)).1 = (lfs s k).1 ++ t
  | 0 => ⟨[], by simp⟩
  | d + 1 => by
    obtain ⟨t, ht⟩ := lfs_pre s k d
    by_cases h : byteAt s (k + d) = 10
    · exact ⟨t ++ [s.extract (lfs s (k + d)).2 (k + d)], by rw [show k + (d + 1) = (k + d) + 1 by omega, lfs_hit h]; simp [ht]⟩
    · exact ⟨t, by rw [show k + (d + 1) = (k + d) + 1 by omega, lfs_miss h]; exact ht⟩
theorem lfs_to (s : ByteArray) {k : Nat} (h : k ≤ s.size) : ∃ t, (lfs s s.size).1 = (lfs s k).1 ++ t := by
  obtain ⟨t, ht⟩ := lfs_pre s k (s.size - k)
  exact ⟨t, by rw [show k + (s.size - k) = s.size by omega] at ht; exact ht⟩
/-- one line more than there may be. -/
theorem desk_41 {s : ByteArray} {pos : Nat} (h : pos < s.size) (hc : byteAt s pos = 10) (hl : (lfs s pos).1.length = 40) : deskB s = false := by
  obtain ⟨t, ht⟩ := lfs_to s (k := pos + 1) (by omega)
  apply deskB_many
  rw [ht, lfs_hit hc]
  simp; omega
theorem desk_bad {s : ByteArray} {pos : Nat} (h : pos < s.size) (hc : byteAt s pos = 10) (hl : lineB (s.extract (lfs s pos).2 pos) = false) : deskB s = false := by
  obtain ⟨t, ht⟩ := lfs_to s (k := pos + 1) (by omega)
  refine deskB_line (k := (lfs s pos).1.length) (x := s.extract (lfs s pos).2 pos) ?_ hl
  rw [ht, lfs_hit hc]
  simp
end Go.Proofs.YtfdnniedcfeiiaaDoor
