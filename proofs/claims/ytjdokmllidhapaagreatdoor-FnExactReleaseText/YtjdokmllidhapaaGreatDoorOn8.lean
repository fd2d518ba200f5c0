/- What the program and the model tell of a text is the same day. -/
import Derived.Test.YtjdokmllidhapaaGreatDoorOn7
import Derived.Lib.CutLaws
namespace Go.Proofs.YtjdokmllidhapaaGreatDoor
open Go.RowKit

/-- the names' bytes: letters. -/
theorem nm_bytes {k : Nat} (h : k < 7) : (wdNames.extract (k * 3) ((k + 1) * 3)).size = 3 ∧ ∀ i, i < 3 → 65 ≤ byteAt (wdNames.extract (k * 3) ((k + 1) * 3)) i := by
  rcases (show k = 0 ∨ k = 1 ∨ k = 2 ∨ k = 3 ∨ k = 4 ∨ k = 5 ∨ k = 6 by omega) with rfl | rfl | rfl | rfl | rfl | rfl | rfl <;>
  · refine ⟨rfl, fun i hi => ?_⟩
    rcases (show i = 0 ∨ i = 1 ∨ i = 2 by omega) with rfl | rfl | rfl <;> decide
theorem toList_inj {s t : ByteArray} (h : s.toList = t.toList) : s = t := by
  rw [ByteArray.toList_eq, ByteArray.toList_eq] at h
  apply ByteArray.ext
  exact Array.ext' h
theorem spG_at {s t : ByteArray} {k n : Nat} (h : spG s t k n ≠ -1) : ∃ j, k ≤ j ∧ j < k + n ∧ spB s t j = true := by
  induction n generalizing k with
  | zero => exact absurd rfl h
  | succ n ih =>
    cases hb : spB s t k
    · rw [spG_miss hb (by omega)] at h
      obtain ⟨j, j1, j2, j3⟩ := ih h
      exact ⟨j, by omega, by omega, j3⟩
    · exact ⟨k, by omega, by omega, hb⟩
/-- a weekday's name: three letters. -/
theorem wd_bytes {t : ByteArray} (h : wdN t ≠ -1) : t.size = 3 ∧ ∀ i, i < 3 → 65 ≤ byteAt t i := by
  obtain ⟨j, _, j2, j3⟩ := spG_at h
  unfold spB at j3
  have e := toList_inj (beq_iff_eq.mp j3)
  have := nm_bytes (k := j) (by omega)
  rw [e] at this
  exact this
theorem wd_size {t : ByteArray} (h : t.size ≠ 3) : wdN t = -1 := Classical.byContradiction fun hn => h (wd_bytes hn).1
/-- where a sign of two bytes stands first. -/
theorem occ_at {s : ByteArray} {a b : UInt8} {i : Nat} : Lib.occAt s.data.toList [a, b] i = true ↔ (i + 2 ≤ s.size ∧ byteAt s i = (a.toNat : Int) ∧ byteAt s (i + 1) = (b.toNat : Int)) := by
  unfold Lib.occAt
  have hz : s.data.toList.length = s.size := by rw [Array.length_toList]; rfl
  rw [List.isPrefixOf_iff_prefix]
  constructor
  · rintro ⟨r, hr⟩
    have hl := congrArg List.length hr
    simp [hz] at hl
    have g0 : s.data.toList[i]? = some a := by
      have := congrArg (fun l => l[0]?) hr; simpa using this.symm
    have g1 : s.data.toList[i + 1]? = some b := by
      have := congrArg (fun l => l[1]?) hr; simpa using this.symm
    have es : s = S s.data.toList := by apply ByteArray.ext; simp
    refine ⟨by omega, ?_, ?_⟩
    · rw [es]; exact byteAt_S g0
    · rw [es]; exact byteAt_S g1
  · rintro ⟨h1, h2, h3⟩
    have e0 : s.data.toList[i]'(by omega) = a := by
      apply UInt8.toNat_inj.mp
      have := byteAt_eq s i (by omega)
      rw [h2] at this
      have : s[i].toNat = a.toNat := by omega
      exact this
    have e1 : s.data.toList[i + 1]'(by omega) = b := by
      apply UInt8.toNat_inj.mp
      have := byteAt_eq s (i + 1) (by omega)
      rw [h3] at this
      have : s[i + 1].toNat = b.toNat := by omega
      exact this
    refine ⟨s.data.toList.drop (i + 2), ?_⟩
    rw [List.drop_eq_getElem_cons (show i < s.data.toList.length by omega), List.drop_eq_getElem_cons (show i + 1 < s.data.toList.length by omega), e0, e1]
    rfl
/-- the cut, where the sign stands at 3 behind three letters. -/
theorem cut_three {s : ByteArray} {a b : UInt8} (ha : a.toNat < 65) (_hb : b.toNat < 65) (h5 : 5 ≤ s.size) (h3 : byteAt s 3 = (a.toNat : Int)) (h4 : byteAt s 4 = (b.toNat : Int)) (hl : ∀ i, i < 3 → 65 ≤ byteAt s i) :
    cutA s a b = s.extract 0 3 ∧ cutZ s a b = s.extract 5 s.size ∧ cutB s a b = true := by
  have hz : s.data.toList.length = s.size := by rw [Array.length_toList]; rfl
  have hi : Lib.index s.data.toList [a, b] = (3 : Nat) := by
    refine Lib.index_first (by omega) (occ_at.mpr ⟨by omega, h3, h4⟩) fun j hj => ?_
    cases ho : Lib.occAt s.data.toList [a, b] j
    · rfl
    · have := (occ_at.mp ho).2.1
      have := hl j hj
      omega
  have := Lib.cutB_hit s ⟨#[a, b]⟩ 3 hi
  exact this
theorem index_occ {l sub : List UInt8} {i : Nat} (h : Lib.index l sub = (i : Int)) : Lib.occAt l sub i = true := by
  induction l generalizing i with
  | nil =>
    unfold Lib.index at h
    split at h
    · rename_i he
      obtain rfl : i = 0 := by omega
      have : sub = [] := by simpa using he
      subst this; rfl
    · omega
  | cons c l ih =>
    unfold Lib.index at h
    split at h
    · rename_i he
      obtain rfl : i = 0 := by omega
      exact he
    · split at h
      · omega
      · have := Lib.index_ge l sub
        obtain ⟨j, rfl⟩ : ∃ j, i = j + 1 := ⟨i - 1, by rename_i h1 h2; simp at h2; omega⟩
        exact ih (by omega)
/-- a cut whose front is a weekday's name stands at 3. -/
theorem cut_back {s : ByteArray} {a b : UInt8} (hb : cutB s a b = true) (hw : wdN (cutA s a b) ≠ -1) :
    5 ≤ s.size ∧ byteAt s 3 = (a.toNat : Int) ∧ byteAt s 4 = (b.toNat : Int) ∧ cutA s a b = s.extract 0 3 ∧ cutZ s a b = s.extract 5 s.size := by
  rcases Lib.indexB_cases s ⟨#[a, b]⟩ with hn | ⟨i, hi, hle⟩
  · have := Lib.cutB_miss s ⟨#[a, b]⟩ hn
    unfold cutB at hb
    rw [this.2.2] at hb; cases hb
  · have hc := Lib.cutB_hit s ⟨#[a, b]⟩ i hi
    have eA : cutA s a b = s.extract 0 i := hc.1
    have eZ : cutZ s a b = s.extract (i + 2) s.size := hc.2.1
    have hle' : i + 2 ≤ s.size := hle
    have h3 := (wd_bytes hw).1
    rw [eA, ByteArray.size_extract] at h3
    have e3 : i = 3 := by omega
    subst e3
    have ho := occ_at.mp (index_occ (l := s.data.toList) (sub := [a, b]) hi)
    exact ⟨by omega, ho.2.1, ho.2.2, eA, eZ⟩
theorem nb_size {y m : Int} {s : ByteArray} (h : 2 < s.size) : nbV y m s = -1000000 := by
  unfold nbV nbB; rw [if_neg (by simp; omega)]
end Go.Proofs.YtjdokmllidhapaaGreatDoor
