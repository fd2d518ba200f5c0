/- An era's abbreviation: both sides. -/
import Derived.Test.YtibhbpgnjikjnaaDoorBasic
import Derived.Test.YtibhbpgnjikjnaaDoorShelf
import Derived.Lib.Replace
namespace Go.Proofs.YtibhbpgnjikjnaaDoor
open Go.RowKit

theorem ex_dataA (s : ByteArray) (a b : Nat) : (s.extract a b).data.toList = (s.data.toList.drop a).take (b - a) := by
  rw [ByteArray.data_extract]
  simp [List.take_drop]
theorem toList_dataA (s : ByteArray) : s.toList = s.data.toList := by rw [ByteArray.toList_eq]
theorem bytes_of {s : ByteArray} {l : List UInt8} (h : s.data.toList = l) : s = ⟨l.toArray⟩ := by
  subst h
  apply ByteArray.ext
  simp
theorem size_data (s : ByteArray) : s.data.toList.length = s.size := by rw [Array.length_toList]; rfl
/-- the format's part that a save takes. -/
def partL (d : List UInt8) (save : Int) : List UInt8 :=
  if 0 ≤ Lib.index d [47] then (if save = 0 then d.take (Lib.index d [47]).toNat else d.drop ((Lib.index d [47]).toNat + 1)) else d
/-- the letter in its place. -/
def abbrL (p l : List UInt8) : List UInt8 :=
  if 0 ≤ Lib.index p [37, 115] then p.take (Lib.index p [37, 115]).toNat ++ l ++ p.drop ((Lib.index p [37, 115]).toNat + 2) else p
theorem part_no {d : List UInt8} {save : Int} (h : Lib.index d [47] = -1) : partL d save = d := by unfold partL; rw [if_neg (by omega)]
theorem part_0 {d : List UInt8} {i : Nat} (h : Lib.index d [47] = i) : partL d 0 = d.take i := by unfold partL; rw [if_pos (by omega), if_pos rfl, h]; simp
theorem part_1 {d : List UInt8} {save : Int} {i : Nat} (h : Lib.index d [47] = i) (hs : save ≠ 0) : partL d save = d.drop (i + 1) := by unfold partL; rw [if_pos (by omega), if_neg hs, h]; simp
theorem abbr_no {p l : List UInt8} (h : Lib.index p [37, 115] = -1) : abbrL p l = p := by unfold abbrL; rw [if_neg (by omega)]
theorem abbr_at {p l : List UInt8} {i : Nat} (h : Lib.index p [37, 115] = i) : abbrL p l = p.take i ++ l ++ p.drop (i + 2) := by unfold abbrL; rw [if_pos (by omega), h]; simp
theorem part_len (d : List UInt8) (save : Int) : (partL d save).length ≤ d.length := by
  unfold partL
  split
  · split
    · rw [List.length_take]; omega
    · rw [List.length_drop]; omega
  · exact Nat.le_refl _
theorem occ_split {p : List UInt8} {i : Nat} (h : Lib.occAt p [37, 115] i = true) : p.take i ++ [37, 115] ++ p.drop (i + 2) = p := by
  unfold Lib.occAt at h
  obtain ⟨r, hr⟩ := List.isPrefixOf_iff_prefix.1 h
  have e : p.drop (i + 2) = r := by rw [← List.drop_drop, ← hr]; rfl
  rw [e, List.append_assoc, hr, List.take_append_drop]
/-- what the library's replacing gives. -/
theorem replace_one (p l : List UInt8) : Lib.replace p [37, 115] l 1 = abbrL p l := by
  rcases Lib.index_spec p [37, 115] with ⟨h1, _⟩ | ⟨i, h1, _, h3, _⟩
  · rw [abbr_no h1]
    unfold Lib.replace Lib.replaceNum
    rw [Lib.count_miss h1]
    split
    · rfl
    · rw [if_pos (Or.inr (by omega))]; rfl
  · rw [abbr_at h1]
    unfold Lib.replace
    split
    · rename_i hl
      rw [← (beq_iff_eq.mp hl)]
      exact (occ_split h3).symm
    · have hc : 0 < Lib.count p [37, 115] := by
        unfold Lib.count Lib.countFrom
        rw [if_neg (by simp; omega)]
        omega
      unfold Lib.replaceNum
      rw [if_neg (by omega)]
      exact Lib.replaceK_hit _ _ 0 p i h1
/-- where the library cuts. -/
theorem cut_no {d : List UInt8} (h : Lib.index d [47] = -1) : Lib.cut d [47] = (d, [], false) := by unfold Lib.cut; rw [if_neg (by omega)]
theorem cut_at {d : List UInt8} {i : Nat} (h : Lib.index d [47] = i) : Lib.cut d [47] = (d.take i, d.drop (i + 1), true) := by unfold Lib.cut; rw [if_pos (by omega), h]; simp
set_option maxHeartbeats 1000000 in
theorem spec_l03Index (s sub : ByteArray) (w : World) (hs : s.size ≤ 8000) (h1 : 1 ≤ sub.size) (h2 : sub.size ≤ 2) :
    Calls Tryd.prog 103 #[.string s, .string sub] w fun e w' => e = .returned (.int .i64 (Lib.index s.data.toList sub.data.toList)) ∧ w' = w := by
  have HH : Hid (∀ k : Nat, Lib.NoOcc s.data.toList sub.data.toList k → k + sub.size ≤ s.size → (s.extract k (k + sub.size)).toList == sub.toList → Lib.index s.data.toList sub.data.toList = k) := fun k hn hk he => by
    refine Lib.index_hit hn (by rw [size_data]; omega) ?_
    rw [Lib.occAt_iff_take _ _ _ (by rw [size_data, size_data]; exact hk), size_data]
    rw [toList_dataA, toList_dataA, ex_dataA, show k + sub.size - k = sub.size by omega] at he
    exact he
  have HM : Hid (∀ k : Nat, Lib.NoOcc s.data.toList sub.data.toList k → k + sub.size ≤ s.size → ((s.extract k (k + sub.size)).toList == sub.toList) = false → Lib.NoOcc s.data.toList sub.data.toList (k + 1)) := fun k hn hk he => by
    refine hn.succ ?_
    rw [Lib.occAt_iff_take _ _ _ (by rw [size_data, size_data]; exact hk), size_data]
    rw [toList_dataA, toList_dataA, ex_dataA, show k + sub.size - k = sub.size by omega] at he
    exact he
  have HP : Hid (∀ k : Nat, Lib.NoOcc s.data.toList sub.data.toList k → s.size < k + sub.size → Lib.index s.data.toList sub.data.toList = -1) := fun k hn hk => by
    refine Lib.index_past (fun e => ?_) hn (by rw [size_data, size_data]; exact hk)
    have := size_data sub
    rw [e] at this
    simp at this
    omega
  have H0 : Hid (Lib.NoOcc s.data.toList sub.data.toList 0) := Lib.NoOcc.zero _ _
  generalize Lib.index s.data.toList sub.data.toList = ix at *
  go_enter Tryd.func103, Tryd.ntmps103
  go_wp2
  go_loop [5] (fun i => ∃ k : Nat, k ≤ s.size + 1 ∧ i = .int .i64 k ∧ Hid (Lib.NoOcc s.data.toList sub.data.toList k)) (fun i => s.size + 1 - (intOf i).toNat)
  case atStart => exact ⟨0, by omega, rfl, H0⟩
  case round =>
    obtain ⟨k, hk, rfl, hn⟩ := hrel
    by_cases hlt : k + sub.size ≤ s.size
    · cases hb : ((s.extract k (k + sub.size)).toList == sub.toList)
      · have HR : Hid (Lib.NoOcc s.data.toList sub.data.toList (k + 1)) := HM.out k hn.out hlt hb
        go_wp2
        go_round
        case rel => exact ⟨k + 1, by omega, by go_num, HR⟩
        case measure => simp [intOf]; omega
      · have HR : Hid (ix = k) := HH.out k hn.out hlt hb
        go_wp2
        go_ret
        exact ⟨ret_int HR.out.symm, rfl⟩
    · have HR : Hid (ix = -1) := HP.out k hn.out (by omega)
      go_wp2
      go_ret
      exact ⟨ret_int HR.out.symm, rfl⟩
end Go.Proofs.YtibhbpgnjikjnaaDoor
