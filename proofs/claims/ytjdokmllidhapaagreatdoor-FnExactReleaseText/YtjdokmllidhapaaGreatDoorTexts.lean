/- Contracts of the numbers' texts: digits, padded digits; the program's and the model's. -/
import Derived.Test.YtjdokmllidhapaaGreatDoorBytes
import Derived.Test.YtjdokmllidhapaaGreatDoorShelf
import Derived.Lib.AppendIntMem
import Derived.Lib.ItoaLen
namespace Go.Proofs.YtjdokmllidhapaaGreatDoor
open Go.RowKit

theorem ret_str {a b : ByteArray} (h : a = b) : Ending.returned (.string a) = .returned (.string b) := by rw [h]
def strLen : Value → Nat
  | .string s => s.size
  | _ => 0
/-- the digits of a number, at least so many. -/
def padL (u k : Nat) : List UInt8 := List.replicate (k - (Lib.decDigits u).length) 48 ++ Lib.decDigits u
theorem dd_pos (u : Nat) : 1 ≤ (Lib.decDigits u).length := by
  rw [Lib.decDigits]; split <;> simp
theorem dd_len4 {u : Nat} (h : u < 10000) : (Lib.decDigits u).length ≤ 4 := by
  by_cases h1 : u < 10
  · rw [Lib.decDigits_one h1]; simp
  rw [Lib.decDigits, dif_neg h1]
  by_cases h2 : u / 10 < 10
  · rw [Lib.decDigits_one h2]; simp
  rw [Lib.decDigits, dif_neg h2]
  by_cases h3 : u / 10 / 10 < 10
  · rw [Lib.decDigits_one h3]; simp
  rw [Lib.decDigits, dif_neg h3, Lib.decDigits_one (by omega)]; simp

/-- the library's table of powers. -/
def Pow (w : World) : Prop := Lib.TabIs Tryz.prog w "internal/strconv.uint64pow10" .u64 Lib.pow10Tab
theorem gPow : Tryz.prog.globalNamed "internal/strconv.uint64pow10" = some 4 := by kernel_rfl
theorem Pow.of_below {w w' : World} (h : Pow w) (hb : Below w.heap.size w w') : Pow w' :=
  var?_below hb gPow (World.block_lt_of_cell? _ _ (Lib.TabIs.cell h gPow 0 (by decide))) h
theorem Pow.alloc {w : World} (h : Pow w) (o : Obj) : Pow (w.alloc o) := h.of_below ((Below.refl _ _).alloc (Nat.le_refl _) o)

theorem fmtInt (n : Nat) (w : World) (hn : n < 1000000) (hP : Pow w) :
    Calls Tryz.prog 219 #[.int .i64 n, .int .i64 10] w fun e w' => e = .returned (.string (S (Lib.decDigits n))) ∧ Below w.heap.size w w' := by
  refine (Tryz.strconv_FormatInt_10 (n : Int) (by omega) (by omega) w hP).mono ?_
  rintro e w' ⟨rfl, k, os, rfl⟩
  exact ⟨by rw [Lib.itoa_nonneg], Lib.below_grow _ _ (Nat.le_refl _) _ _⟩

set_option maxHeartbeats 400000 in
theorem impl_padded (n k : Nat) (w : World) (hn : n < 1000000) (hk : k ≤ 4) (hP : Pow w) :
    Calls Tryz.prog 156 #[.int .i64 n, .int .i64 k] w fun e w' => e = .returned (.string (S (padL n k))) ∧ Below w.heap.size w w' := by
  have hF := fmtInt n w hn hP
  go_enter Tryz.func156, Tryz.ntmps156
  go_wp2_with fail
  refine hF.mono ?_
  rintro e w1 ⟨rfl, hb⟩
  clear hF hP
  go_wp2
  go_loop [5] (fun t => ∃ j : Nat, j ≤ k - (Lib.decDigits n).length ∧ t = .string (S (List.replicate j 48 ++ Lib.decDigits n))) (fun t => k - strLen t)
  case atStart => exact ⟨0, by omega, rfl⟩
  case round =>
    obtain ⟨j, hj, rfl⟩ := hrel
    by_cases hlt : j + (Lib.decDigits n).length < k
    · go_wp2
      go_round
      case rel => exact ⟨j + 1, by omega, by rw [S_cons, List.replicate_succ]; rfl⟩
      case measure => simp only [strLen, ByteArray.size_append, S_size, List.length_append, List.length_replicate]; simp; omega
    · go_wp2
      go_ret
      exact ⟨ret_str (by unfold padL; congr 3; omega), hb⟩

/-- the same at a number and a width that are spelt otherwise. -/
theorem impl_padI {n k : Int} (u kk : Nat) (w : World) (hu : n = u) (hkk : k = kk) (hn : u < 1000000) (hk : kk ≤ 4) (hP : Pow w) :
    Calls Tryz.prog 156 #[.int .i64 n, .int .i64 k] w fun e w' => e = .returned (.string (S (padL u kk))) ∧ Below w.heap.size w w' := by
  subst hu hkk; exact impl_padded u kk w hn hk hP
/-- digits of a number, none of 0. -/
def dd0 (m : Nat) : List UInt8 := if m = 0 then [] else Lib.decDigits m
theorem dd0_step {m : Nat} (_h : m ≠ 0) : Lib.decDigits m = dd0 (m / 10) ++ [UInt8.ofNat (48 + m % 10)] := by
  unfold dd0
  rw [Lib.decDigits]
  split
  · rw [if_pos (by omega)]; rw [Nat.mod_eq_of_lt (by omega)]; rfl
  · rw [if_neg (by omega)]

/-- a digit's byte. -/
def dgt (c : Int) : UInt8 := UInt8.ofNat c.toNat
theorem dd0_round {n m : Nat} {out : List UInt8} (h : dd0 m ++ out = Lib.decDigits n) (hz : m ≠ 0) : Lib.decDigits n = dd0 (m / 10) ++ (dgt (48 + (m : Int) % 10) :: out) := by
  have e : (48 + (m : Int) % 10).toNat = 48 + m % 10 := by omega
  have e2 : dd0 m = Lib.decDigits m := if_neg hz
  unfold dgt
  rw [← h, e, e2, dd0_step hz]
  simp
/-- a text of one byte, made of a list of one. -/
theorem conv1 (w : World) (c : Int) :
    (convert 22 9 (.slice (some ⟨w.heap.size, 0, none⟩) 1 1)).run Tryz.prog (w.alloc (.cells #[.int .u8 c] 5)) = .ok (.string (S [dgt c])) (w.alloc (.cells #[.int .u8 c] 5)) :=
  run_convert_bytes_arg _ 22 5 Tryz.underlying22 Tryz.underlying5 w.heap.size 0 1 1 [c] rfl (fun i hi => by
    obtain rfl : i = 0 := by omega
    simp) 9 Tryz.underlying9
theorem dd_len {n : Nat} (h : n < 1000000) : (Lib.decDigits n).length ≤ 20 := by
  rw [Lib.decDigits_length]; exact Lib.nDigits_le20 n (by omega)
theorem out_len {n m : Nat} {out : List UInt8} (hn : n < 1000000) (h : dd0 m ++ out = Lib.decDigits n) : out.length ≤ 20 := by
  have := dd_len hn
  rw [← h] at this
  simp at this; omega
set_option maxHeartbeats 1000000 in
theorem spec_l01Dec (n : Nat) (w : World) (hn : n < 1000000) :
    Calls Tryz.prog 148 #[.int .i64 n] w fun e w' => e = .returned (.string (S (Lib.decDigits n))) ∧ Below w.heap.size w w' := by
  by_cases h0 : n = 0
  · subst h0
    go_enter Tryz.func148, Tryz.ntmps148
    go_wp2
    go_ret
    exact ⟨ret_str (by rw [Lib.decDigits_one (by omega)]; rfl), Below.refl _ _⟩
  · have hb : ((n : Int) == 0) = false := by simpa using h0
    go_enter Tryz.func148, Tryz.ntmps148
    go_wp2
    go_loopw [0, 4] (fun x t wr => ∃ (m : Nat) (out : List UInt8), m ≤ n ∧ x = .int .i64 m ∧ t = .string (S out) ∧ Hid (dd0 m ++ out = Lib.decDigits n) ∧ Below w.heap.size w wr) (fun x _ _ => (intOf x).toNat)
    case atStart => exact ⟨n, [], by omega, rfl, rfl, by unfold dd0; rw [if_neg h0]; simp [Hid], Below.refl _ _⟩
    case round =>
      obtain ⟨m, out, hm, rfl, rfl, HD, hB⟩ := hrel
      by_cases hz : m = 0
      · subst hz
        go_wp2
        go_ret
        exact ⟨ret_str (by have := HD.out; simpa [dd0] using this), hB⟩
      · have hne : ((m : Int) != 0) = true := by simpa using hz
        have hcv := fun w => conv1 w (48 + (m : Int) % 10)
        have HS : Hid (Lib.decDigits n = dd0 (m / 10) ++ (dgt (48 + (m : Int) % 10) :: out)) := dd0_round HD.out hz
        have hol := out_len hn HD.out
        clear HD
        go_wp2
        go_roundw
        case rel => exact ⟨m / 10, _, by omega, by go_num, by rw [S_append]; rfl, HS.out.symm, hB.alloc hB.size _⟩
        case measure => simp [intOf]; omega
set_option maxHeartbeats 400000 in
theorem spec_l01Pad (n k : Nat) (w : World) (hn : n < 1000000) (hk : k ≤ 4) :
    Calls Tryz.prog 215 #[.int .i64 n, .int .i64 k] w fun e w' => e = .returned (.string (S (padL n k))) ∧ Below w.heap.size w w' := by
  have hF := spec_l01Dec n w hn
  go_enter Tryz.func215, Tryz.ntmps215
  go_wp2_with fail
  refine hF.mono ?_
  rintro e w1 ⟨rfl, hb⟩
  clear hF
  go_wp2
  go_loop [5] (fun t => ∃ j : Nat, j ≤ k - (Lib.decDigits n).length ∧ t = .string (S (List.replicate j 48 ++ Lib.decDigits n))) (fun t => k - strLen t)
  case atStart => exact ⟨0, by omega, rfl⟩
  case round =>
    obtain ⟨j, hj, rfl⟩ := hrel
    by_cases hlt : j + (Lib.decDigits n).length < k
    · go_wp2
      go_round
      case rel => exact ⟨j + 1, by omega, by rw [S_cons, List.replicate_succ]; rfl⟩
      case measure => simp only [strLen, ByteArray.size_append, S_size, List.length_append, List.length_replicate]; simp; omega
    · go_wp2
      go_ret
      exact ⟨ret_str (by unfold padL; congr 3; omega), hb⟩

/-- the text of an offset that is not below 0. -/
def offL (s : Nat) : List UInt8 := Lib.decDigits (s / 3600) ++ 58 :: padL (s / 60 % 60) 2 ++ (if s % 60 = 0 then [] else 58 :: padL (s % 60) 2)
def offV (n : Int) : List UInt8 := if isB n (-604800) 604800 = true then (if n < 0 then 45 :: offL n.natAbs else offL n.toNat) else []
theorem pad1 (u : Nat) : padL u 1 = Lib.decDigits u := by
  have := dd_pos u
  unfold padL
  rw [show 1 - (Lib.decDigits u).length = 0 by omega]
  rfl

theorem padL_len {u k : Nat} (h : u < 1000000) (hk : k ≤ 4) : (padL u k).length ≤ 24 := by
  have := dd_len h
  unfold padL
  simp; omega
theorem spec_padI {n k : Int} (u kk : Nat) (w : World) (hu : n = u) (hkk : k = kk) (hn : u < 1000000) (hk : kk ≤ 4) :
    Calls Tryz.prog 215 #[.int .i64 n, .int .i64 k] w fun e w' => e = .returned (.string (S (padL u kk))) ∧ Below w.heap.size w w' := by
  subst hu hkk; exact spec_l01Pad u kk w hn hk
theorem spec_decI {n : Int} (u : Nat) (w : World) (hu : n = u) (hn : u < 1000000) :
    Calls Tryz.prog 148 #[.int .i64 n] w fun e w' => e = .returned (.string (S (Lib.decDigits u))) ∧ Below w.heap.size w w' := by
  subst hu; exact spec_l01Dec u w hn
end Go.Proofs.YtjdokmllidhapaaGreatDoor
