/- The contract of the model's l01Offset. -/
import Derived.Test.YtibhbpgnjikjnaaOffEq
import Derived.Test.YtibhbpgnjikjnaaDigM
import Derived.Laws.OwnMore
import Derived.Deep.AppendLies
namespace Go.Proofs.Ytibhbpgnjikjnaa
open Go.RowKit

theorem ldM_t {s : ByteArray} (h9 : s.size ≤ 9) (h : digs s = true) : ldM s = drN s ∧ 0 ≤ drN s := by
  refine ⟨?_, (drN_bd s h9).1⟩
  unfold ldM; rw [if_pos h9, ldN_t h, drN_t h]
theorem ldM_f {s : ByteArray} (h : digs s = false) : ldM s = -1 := by
  unfold ldM; rw [ldN_f h]; split <;> rfl
theorem ldM_bd (s : ByteArray) : -1 ≤ ldM s ∧ ldM s ≤ 999999999 := by
  by_cases h9 : s.size ≤ 9
  · cases h : digs s
    · rw [ldM_f h]; omega
    · have := ldM_t h9 h; have := drN_bd s h9; omega
  · unfold ldM; rw [if_neg h9]; omega
theorem tw_no {s : ByteArray} (h : twB s = false) : ldM s < 0 ∨ (0 ≤ ldM s ∧ s.size ≠ 2) ∨ (0 ≤ ldM s ∧ s.size = 2 ∧ 59 < ldM s) := by
  by_cases h0 : ldM s < 0
  · exact .inl h0
  by_cases h2 : s.size = 2
  · have hd : digs s = true := by
      cases h : digs s
      · rw [ldM_f h] at h0; omega
      · rfl
    have e := (ldM_t (by omega) hd).1
    have : ¬ drN s < 60 := fun hl => by unfold twB at h; simp [h2, hd, hl] at h
    exact .inr (.inr ⟨by omega, h2, by omega⟩)
  · exact .inr (.inl ⟨by omega, h2⟩)
theorem tw_yes {s : ByteArray} (h : twB s = true) : ldM s = drN s ∧ 0 ≤ drN s ∧ drN s ≤ 59 ∧ s.size = 2 := by
  have h1 := twB_t h
  have h2 := ldM_t (by omega) h1.2
  unfold twB at h
  simp at h
  omega
theorem parts_ne (s : ByteArray) : 1 ≤ (parts s).length := by unfold parts; simp
theorem parts_le {s : ByteArray} : ∀ p ∈ parts s, p.size ≤ s.size := by
  have H : ∀ k, ∀ p ∈ (scan s k).1, p.size ≤ s.size := by
    intro k
    induction k with
    | zero => intro p hp; simp [scan] at hp
    | succ k ih =>
      by_cases hc : byteAt s k = 58
      · rw [scan_hit hc]; intro p hp; simp at hp
        rcases hp with hp | rfl
        · exact ih p hp
        · rw [ByteArray.size_extract]; omega
      · rw [scan_miss hc]; exact ih
  intro p hp
  unfold parts at hp; simp at hp
  rcases hp with hp | rfl
  · exact H _ p hp
  · rw [ByteArray.size_extract]; omega
theorem neg_rest {s : ByteArray} (h : negB s = true) : s.extract 1 s.size = restS s := by
  obtain ⟨⟨l⟩⟩ := s
  cases l with
  | nil => simp [negB, Lib.hasPrefix] at h
  | cons c l =>
    simp [negB, Lib.hasPrefix] at h
    apply ByteArray.ext
    simp [restS, Lib.trimPrefix, Lib.hasPrefix, h, ByteArray.size]
theorem pos_rest {s : ByteArray} (h : negB s = false) : restS s = s := by
  unfold negB at h; unfold restS Lib.trimPrefix; simp [h]
theorem byte_cons (c : UInt8) (l : List UInt8) : byteAt ⟨⟨c :: l⟩⟩ 0 = (c.toNat : Int) := by
  unfold byteAt; rw [dif_pos (by show 0 < (c :: l).length; simp)]; rfl
theorem neg_byte (s : ByteArray) : negB s = decide (0 < s.size ∧ byteAt s 0 = 45) := by
  obtain ⟨⟨l⟩⟩ := s
  cases l with
  | nil => rfl
  | cons c l =>
    have e1 : (0 < (⟨⟨c :: l⟩⟩ : ByteArray).size) := by show 0 < (c :: l).length; simp
    have e2 : negB ⟨⟨c :: l⟩⟩ = (45 == c) := by
      show ((45 == c) && List.isPrefixOf [] l) = _
      simp
    rw [byte_cons, e2]
    by_cases h : c = 45
    · subst h; simp [e1]
    · have h' : (c.toNat : Int) ≠ 45 := by
        intro hn
        apply h
        apply UInt8.toNat_inj.mp
        show c.toNat = 45
        omega
      have h2 : (45 == c) = false := by simpa using fun hn => h hn.symm
      rw [h2]; simp [h']
end Go.Proofs.Ytibhbpgnjikjnaa
