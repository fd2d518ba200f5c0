/- The texts that the laws write into memory. -/
import Derived.Test.YtjfonbnmdcpepaaBasic
import Derived.Laws.IdiomStrings
namespace Go.Proofs.Ytjfonbnmdcpepaa
open Go.RowKit

def mtF : Nat → Nat → List UInt8 → List UInt8
 | 0, _, c => c
 | f + 1, k, c => if k = 0 then c else mtF f (k / 10) (UInt8.ofNat (48 + k % 10) :: c)
theorem mtF_any : ∀ {f g k : Nat} {c : List UInt8}, k ≤ f → k ≤ g → mtF f k c = mtF g k c
 | 0, 0, _, _, _, _ => rfl
 | 0, g + 1, k, c, h, _ => by rw [mtF, mtF, if_pos (by omega)]
 | f + 1, 0, k, c, _, h => by rw [mtF, mtF, if_pos (by omega)]
 | f + 1, g + 1, k, c, h, h2 => by
  rw [mtF, mtF]
  split
  · rfl
  · exact mtF_any (by omega) (by omega)
def mtGo (k : Nat) (acc : List UInt8) : List UInt8 := mtF k k acc
theorem mtGo_zero (acc : List UInt8) : mtGo 0 acc = acc := rfl
theorem mtGo_pos {k : Nat} (h : 0 < k) (acc : List UInt8) : mtGo k acc = mtGo (k / 10) (UInt8.ofNat (48 + k % 10) :: acc) := by
 obtain ⟨f, rfl⟩ : ∃ f, k = f + 1 := ⟨k - 1, by omega⟩
 rw [mtGo, mtF, if_neg (by omega)]; exact mtF_any (by omega) (by omega)
theorem ret_strM {a b : ByteArray} (h : a = b) : Ending.returned (.string a) = .returned (.string b) := by rw [h]
/-- the text of a number. -/
def mtB (k : Nat) : ByteArray := ⟨(109 :: mtGo k []).toArray⟩
set_option maxRecDepth 20000 in
set_option maxHeartbeats 1000000 in
theorem laws_markText (k : Nat) (w : World) (h0 : 0 < k) (h1 : k < 1000000000) :
    Calls Try.prog 87 #[.int .i64 k] w fun e w' => e = .returned (.string (mtB k)) ∧ Below w.heap.size w w' := by
  go_enter Try.func87, Try.ntmps87
  go_wp2
  go_loopw [0, 3] (fun s o wr => ∃ (m : Nat) (l : List UInt8), s = .int .i64 m ∧ o = .string ⟨l.toArray⟩ ∧ l.length ≤ 9 ∧ m < 10 ^ (9 - l.length) ∧ Hid (mtGo m l = mtGo k []) ∧ Below w.heap.size w wr) (fun s _ _ => (intOf s).toNat)
  case atStart => exact ⟨k, [], rfl, rfl, by simp, by simpa using h1, rfl, Below.refl _ _⟩
  case round =>
    obtain ⟨m, l, rfl, rfl, hl, hm, HG, hB⟩ := hrel
    by_cases hpos : 0 < m
    · have hl9 : l.length < 9 := by
        rcases Nat.lt_or_ge l.length 9 with h | h
        · exact h
        · have e : 9 - l.length = 0 := by omega
          rw [e] at hm; omega
      have HL : Hid (m / 10 < 10 ^ (9 - (l.length + 1))) := by
        simp only [Hid]
        rw [show 9 - l.length = (9 - (l.length + 1)) + 1 by omega, Nat.pow_succ] at hm
        omega
      have HR : Hid (mtGo (m / 10) (UInt8.ofNat (48 + m % 10) :: l) = mtGo k []) := by simp only [Hid]; rw [← mtGo_pos hpos]; exact HG.out
      have hm2 : (m : Int) ≤ 1000000000 := by
        have := Nat.pow_le_pow_right (show 0 < 10 by omega) (show 9 - l.length ≤ 9 by omega)
        have h9 : 10 ^ 9 = 1000000000 := by decide
        omega
      clear hm
      have hu : (UInt8.ofNat (48 + m % 10)).toNat = 48 + m % 10 := UInt8.toNat_ofNat_of_lt' (by have : UInt8.size = 256 := rfl; omega)
      have kc : (convert 22 9 (.slice (some ⟨wr.heap.size, 0, none⟩) 1 1)).run Try.prog (wr.alloc (.cells #[.int .u8 (48 + (m : Int) % 10)] 5)) = .ok (.string ⟨#[UInt8.ofNat (48 + m % 10)]⟩) (wr.alloc (.cells #[.int .u8 (48 + (m : Int) % 10)] 5)) :=
        run_convert_bytes_back _ 22 9 5 ⟨wr.heap.size, 0, none⟩ 1 [UInt8.ofNat (48 + m % 10)] Try.underlying22 Try.underlying5 Try.underlying9 (fun j hj => by
          have e : j = 0 := by simpa using hj
          subst e
          simp only [List.getElem_cons_zero, hu]
          simp [go_sem])
      have HC : Hid (∀ b : UInt8, ({ data := #[b] } : ByteArray) ++ ⟨l.toArray⟩ = ⟨(b :: l).toArray⟩) := fun b => by apply ByteArray.ext; simp
      generalize UInt8.ofNat (48 + m % 10) = c at *
      clear hu
      go_wp2
      go_roundw
      case rel => exact ⟨m / 10, c :: l, by go_num, by rw [HC.out], by simp; omega, by simpa using HL.out, HR, hB.alloc hB.size _⟩
      case measure => simp [intOf]; omega
    · have e : m = 0 := by omega
      subst e
      have HR : Hid (({ data := #[109] } : ByteArray) ++ ⟨l.toArray⟩ = mtB k) := by
        simp only [Hid]
        have := HG.out
        rw [mtGo_zero] at this
        subst this
        unfold mtB
        apply ByteArray.ext
        simp
      clear HG
      go_wp2
      go_ret
      exact ⟨ret_strM HR.out, hB⟩
end Go.Proofs.Ytjfonbnmdcpepaa
