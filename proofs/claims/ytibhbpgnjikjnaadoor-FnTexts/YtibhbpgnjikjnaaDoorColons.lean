/- The plain mathematics of an offset's text: where its colons stand, and its parts. -/
import Derived.Test.YtibhbpgnjikjnaaDoorSplit
import Derived.Test.YtibhbpgnjikjnaaDoorSpans
namespace Go.Proofs.YtibhbpgnjikjnaaDoor

theorem scan_run {s : ByteArray} {a b : Nat} (h : a ≤ b) (hn : ∀ i, a ≤ i → i < b → byteAt s i ≠ 58) : scan s b = scan s a := by
  obtain ⟨n, rfl⟩ : ∃ n, b = a + n := ⟨b - a, by omega⟩
  induction n with
  | zero => rfl
  | succ n ih =>
    have h1 := ih (by omega) (fun i h1 h2 => hn i h1 (by omega))
    have h2 := hn (a + n) (by omega) (by omega)
    rw [show a + (n + 1) = a + n + 1 by omega, scan_miss h2, h1]
theorem scan_len {s : ByteArray} {a b : Nat} (h : a ≤ b) : (scan s a).1.length ≤ (scan s b).1.length := by
  obtain ⟨n, rfl⟩ : ∃ n, b = a + n := ⟨b - a, by omega⟩
  induction n with
  | zero => exact Nat.le_refl _
  | succ n ih =>
    have h1 := ih (by omega)
    rw [show a + (n + 1) = a + n + 1 by omega]
    by_cases hc : byteAt s (a + n) = 58
    · rw [scan_hit hc]; simp; omega
    · rw [scan_miss hc]; exact h1
/-- the first colon from a place on, or none. -/
theorem first_colon (s : ByteArray) (a : Nat) : (∀ i, a ≤ i → i < s.size → byteAt s i ≠ 58) ∨ ∃ j, a ≤ j ∧ j < s.size ∧ byteAt s j = 58 ∧ ∀ i, a ≤ i → i < j → byteAt s i ≠ 58 := by
  by_cases h : ∃ j, a ≤ j ∧ j < s.size ∧ byteAt s j = 58
  · right
    obtain ⟨j, h1, h2, h3⟩ := h
    induction j using Nat.strongRecOn with
    | _ j ih =>
      by_cases hl : ∃ i, a ≤ i ∧ i < j ∧ byteAt s i = 58
      · obtain ⟨i, i1, i2, i3⟩ := hl
        exact ih i i2 i1 (by omega) i3
      · exact ⟨j, h1, h2, h3, fun i i1 i2 i3 => hl ⟨i, i1, i2, i3⟩⟩
  · left
    exact fun i i1 i2 i3 => h ⟨i, i1, i2, i3⟩
theorem parts_none {s : ByteArray} (h : ∀ i, i < s.size → byteAt s i ≠ 58) : parts s = [s.extract 0 s.size] := by
  have e : scan s s.size = ([], 0) := scan_run (a := 0) (by omega) (fun i _ hi => h i hi)
  unfold parts; rw [e]; rfl
theorem parts_one {s : ByteArray} {j : Nat} (hj : j < s.size) (hc : byteAt s j = 58) (h1 : ∀ i, i < j → byteAt s i ≠ 58) (h2 : ∀ i, j < i → i < s.size → byteAt s i ≠ 58) :
    parts s = [s.extract 0 j, s.extract (j + 1) s.size] := by
  have e1 : scan s j = ([], 0) := scan_run (a := 0) (by omega) (fun i _ hi => h1 i hi)
  have e2 := scan_hit hc
  rw [e1] at e2
  have e3 : scan s s.size = scan s (j + 1) := scan_run (by omega) (fun i i1 i2 => h2 i (by omega) i2)
  unfold parts; rw [e3, e2]; rfl
theorem parts_two {s : ByteArray} {j k : Nat} (hjk : j < k) (hk : k < s.size) (hc : byteAt s j = 58) (hd : byteAt s k = 58) (h1 : ∀ i, i < j → byteAt s i ≠ 58) (h2 : ∀ i, j < i → i < k → byteAt s i ≠ 58) (h3 : ∀ i, k < i → i < s.size → byteAt s i ≠ 58) :
    parts s = [s.extract 0 j, s.extract (j + 1) k, s.extract (k + 1) s.size] := by
  have e1 : scan s j = ([], 0) := scan_run (a := 0) (by omega) (fun i _ hi => h1 i hi)
  have e2 := scan_hit hc
  rw [e1] at e2
  have e3 : scan s k = scan s (j + 1) := scan_run (by omega) (fun i i1 i2 => h2 i (by omega) i2)
  have e4 := scan_hit hd
  rw [e3, e2] at e4
  have e5 : scan s s.size = scan s (k + 1) := scan_run (by omega) (fun i i1 i2 => h3 i (by omega) i2)
  unfold parts; rw [e5, e4]; rfl
theorem parts_many {s : ByteArray} {j k m : Nat} (hjk : j < k) (hkm : k < m) (hm : m < s.size) (hc : byteAt s j = 58) (hd : byteAt s k = 58) (he : byteAt s m = 58) : 4 ≤ (parts s).length := by
  have a1 : 1 ≤ (scan s (j + 1)).1.length := by rw [scan_hit hc]; simp
  have a2 := scan_len (s := s) (a := j + 1) (b := k) (by omega)
  have a3 : (scan s k).1.length + 1 = (scan s (k + 1)).1.length := by rw [scan_hit hd]; simp
  have a4 := scan_len (s := s) (a := k + 1) (b := m) (by omega)
  have a5 : (scan s m).1.length + 1 = (scan s (m + 1)).1.length := by rw [scan_hit he]; simp
  have a6 := scan_len (s := s) (a := m + 1) (b := s.size) (by omega)
  unfold parts; simp; omega
theorem byteAt_extract {s : ByteArray} {a b i : Nat} (hb : b ≤ s.size) (hi : i < b - a) : byteAt (s.extract a b) i = byteAt s (a + i) := by
  have h1 : i < (s.extract a b).size := by rw [ByteArray.size_extract]; omega
  have h2 : a + i < s.size := by omega
  rw [← byteAt_eq _ _ h1, ← byteAt_eq _ _ h2, ByteArray.getElem_extract]
/-- a text of digits has no colon. -/
theorem digs_extract {s : ByteArray} {a b : Nat} (hb : b ≤ s.size) (h : digs (s.extract a b) = true) : ∀ i, a ≤ i → i < b → byteAt s i ≠ 58 := by
  intro i i1 i2 hc
  have hd := (digs_t h).2 (i - a) (by rw [ByteArray.size_extract]; omega)
  rw [byteAt_extract hb (by omega), show a + (i - a) = i by omega, hc] at hd
  exact absurd hd (by decide)
theorem digs_none {s : ByteArray} (h : digs s = true) : ∀ i, i < s.size → byteAt s i ≠ 58 := by
  intro i hi hc
  have hd := (digs_t h).2 i hi
  rw [hc] at hd
  exact absurd hd (by decide)
end Go.Proofs.YtibhbpgnjikjnaaDoor
