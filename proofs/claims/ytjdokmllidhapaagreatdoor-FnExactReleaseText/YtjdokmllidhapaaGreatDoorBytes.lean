/- Texts as lists of bytes. -/
import Derived.Test.YtjdokmllidhapaaGreatDoorDigs
namespace Go.Proofs.YtjdokmllidhapaaGreatDoor

/-- a text of bytes. -/
abbrev S (l : List UInt8) : ByteArray := ⟨l.toArray⟩
theorem S_append (a b : List UInt8) : S a ++ S b = S (a ++ b) := by
  apply ByteArray.ext
  simp [S]
theorem S_cons (c : UInt8) (b : List UInt8) : ({ data := #[c] } : ByteArray) ++ S b = S (c :: b) := S_append [c] b
theorem S_size (l : List UInt8) : (S l).size = l.length := by simp [ByteArray.size]
theorem byteAt_ex {s : ByteArray} {a b i : Nat} (hb : b ≤ s.size) (hi : i < b - a) : byteAt (s.extract a b) i = byteAt s (a + i) := by
  have h1 : i < (s.extract a b).size := by rw [ByteArray.size_extract]; omega
  have h2 : a + i < s.size := by omega
  rw [← byteAt_eq _ _ h1, ← byteAt_eq _ _ h2, ByteArray.getElem_extract]
theorem byteAt_S {l : List UInt8} {i : Nat} {c : UInt8} (h : l[i]? = some c) : byteAt (S l) i = (c.toNat : Int) := by
  obtain ⟨hi, hc⟩ := List.getElem?_eq_some_iff.mp h
  have h1 : i < (S l).size := by rw [S_size]; exact hi
  rw [← byteAt_eq _ _ h1]
  subst hc
  rfl
theorem bytes_ext {s t : ByteArray} (hz : s.size = t.size) (h : ∀ i, i < s.size → byteAt s i = byteAt t i) : s = t := by
  apply ByteArray.ext_getElem hz
  intro i h1 h2
  have := h i h1
  rw [← byteAt_eq _ _ h1, ← byteAt_eq _ _ h2] at this
  apply UInt8.toNat_inj.mp
  omega
end Go.Proofs.YtjdokmllidhapaaGreatDoor
