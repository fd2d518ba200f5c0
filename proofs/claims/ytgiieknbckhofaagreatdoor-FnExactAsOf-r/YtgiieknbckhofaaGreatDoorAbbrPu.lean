/- Packed. -/
import Derived.Test.YtgiieknbckhofaaGreatDoorBasePu
import Derived.Test.YtgiieknbckhofaaGreatDoorShelfK
set_option maxHeartbeats 20000000
set_option linter.unusedSimpArgs false
namespace Go.Proofs.YtgiieknbckhofaaGreatDoor
section
open Go.RowKit
theorem ex_dataA (s : ByteArray) (a b : Nat) : (s.extract a b).data.toList = (s.data.toList.drop a).take (b - a) := by
 rw [ByteArray.data_extract]
 simp [List.take_drop]
theorem toList_dataA (s : ByteArray) : s.toList = s.data.toList := by rw [ByteArray.toList_eq]
theorem jfx {s : ByteArray} {l : List UInt8} (h : s.data.toList = l) : s = ⟨l.toArray⟩ := by
 subst h
 apply ByteArray.ext
 simp
theorem jah (s : ByteArray) : s.data.toList.length = s.size := by rw [Array.length_toList]; rfl
def jdw (d : List UInt8) (save : Int) : List UInt8 :=
 if 0 <= Lib.index d [47] then (if save = 0 then d.take (Lib.index d [47]).toNat else d.drop ((Lib.index d [47]).toNat + 1)) else d
def jdi (p l : List UInt8) : List UInt8 :=
 if 0 <= Lib.index p [37, 115] then p.take (Lib.index p [37, 115]).toNat ++ l ++ p.drop ((Lib.index p [37, 115]).toNat + 2) else p
theorem jvp {d : List UInt8} {save : Int} (h : Lib.index d [47] = -1) : jdw d save = d := by unfold jdw; rw [if_neg (by omega)]
theorem j08 {d : List UInt8} {i : Nat} (h : Lib.index d [47] = i) : jdw d 0 = d.take i := by unfold jdw; rw [if_pos (by omega), if_pos rfl, h]; simp
theorem j07 {d : List UInt8} {save : Int} {i : Nat} (h : Lib.index d [47] = i) (hs : save ≠ 0) : jdw d save = d.drop (i + 1) := by unfold jdw; rw [if_pos (by omega), if_neg hs, h]; simp
theorem jmw {p l : List UInt8} (h : Lib.index p [37, 115] = -1) : jdi p l = p := by unfold jdi; rw [if_neg (by omega)]
theorem jmx {p l : List UInt8} {i : Nat} (h : Lib.index p [37, 115] = i) : jdi p l = p.take i ++ l ++ p.drop (i + 2) := by unfold jdi; rw [if_pos (by omega), h]; simp
theorem jlx (d : List UInt8) (save : Int) : (jdw d save).length <= d.length := by
 unfold jdw
 split
 ·split
  ·rw [List.length_take]; omega
  ·rw [List.length_drop]; omega
 ·exact nlr _
theorem jvy {p : List UInt8} {i : Nat} (h : Lib.occAt p [37, 115] i = true) : p.take i ++ [37, 115] ++ p.drop (i + 2) = p := by
 unfold Lib.occAt at h
 obtain ⟨r, hr⟩ := List.isPrefixOf_iff_prefix.1 h
 have e : p.drop (i + 2) = r := by rw [<- List.drop_drop, <- hr]; rfl
 rw [e, List.append_assoc, hr, List.take_append_drop]
theorem jpv (p l : List UInt8) : Lib.replace p [37, 115] l 1 = jdi p l := by
 rcases Lib.index_spec p [37, 115] with ⟨h1, _⟩ | ⟨i, h1, _, h3, _⟩
 ·rw [jmw h1]
  unfold Lib.replace Lib.replaceNum
  rw [Lib.count_miss h1]
  split
  ·rfl
  ·rw [if_pos (Or.inr (by omega))]; rfl
 ·rw [jmx h1]
  unfold Lib.replace
  split
  ·rename_i hl
   rw [<- (beq_iff_eq.mp hl)]
   exact (jvy h3).symm
  ·have hc : 0 < Lib.count p [37, 115] := by
    unfold Lib.count Lib.countFrom
    rw [if_neg (by simp; omega)]
    omega
   unfold Lib.replaceNum
   rw [if_neg (by omega)]
   exact Lib.replaceK_hit _ _ 0 p i h1
theorem j3y {d : List UInt8} (h : Lib.index d [47] = -1) : Lib.cut d [47] = (d, [], false) := by unfold Lib.cut; rw [if_neg (by omega)]
theorem j3z {d : List UInt8} {i : Nat} (h : Lib.index d [47] = i) : Lib.cut d [47] = (d.take i, d.drop (i + 1), true) := by unfold Lib.cut; rw [if_pos (by omega), h]; simp
theorem jcp (s sub : ByteArray) (w : World) (hs : s.size <= 8000) (h1 : 1 <= sub.size) (h2 : sub.size <= 2) :
  Cl 259 #[.string s, .string sub] w fun e w' => e = .returned (iv (Lib.index s.data.toList sub.data.toList)) /\ w' = w := by
 have HH : Hid (∀ k : Nat, Lib.NoOcc s.data.toList sub.data.toList k -> k + sub.size <= s.size -> (s.extract k (k + sub.size)).toList == sub.toList -> Lib.index s.data.toList sub.data.toList = k) := fun k hn hk he => by
  refine Lib.index_hit hn (by rw [jah]; omega) ?_
  rw [Lib.occAt_iff_take _ _ _ (by rw [jah, jah]; exact hk), jah]
  rw [toList_dataA, toList_dataA, ex_dataA, show k + sub.size - k = sub.size by omega] at he
  exact he
 have HM : Hid (∀ k : Nat, Lib.NoOcc s.data.toList sub.data.toList k -> k + sub.size <= s.size -> ((s.extract k (k + sub.size)).toList == sub.toList) = false -> Lib.NoOcc s.data.toList sub.data.toList (k + 1)) := fun k hn hk he => by
  refine hn.succ ?_
  rw [Lib.occAt_iff_take _ _ _ (by rw [jah, jah]; exact hk), jah]
  rw [toList_dataA, toList_dataA, ex_dataA, show k + sub.size - k = sub.size by omega] at he
  exact he
 have HP : Hid (∀ k : Nat, Lib.NoOcc s.data.toList sub.data.toList k -> s.size < k + sub.size -> Lib.index s.data.toList sub.data.toList = -1) := fun k hn hk => by
  refine Lib.index_past (fun e => ?_) hn (by rw [jah, jah]; exact hk)
  have := jah sub
  rw [e] at this
  simp at this
  omega
 have H0 : Hid (Lib.NoOcc s.data.toList sub.data.toList 0) := Lib.NoOcc.zero _ _
 generalize Lib.index s.data.toList sub.data.toList = ix at *
 go_enter Tryz.func259, Tryz.ntmps259
 go_wp2
 go_loop [5] (fun i => ∃ k : Nat, k <= s.size + 1 /\ i = iv k /\ Hid (Lib.NoOcc s.data.toList sub.data.toList k)) (fun i => s.size + 1 - (intOf i).toNat)
 case atStart => exact ⟨0, by omega, rfl, H0⟩
 case round =>
  obtain ⟨k, hk, rfl, hn⟩ := hrel
  by_cases hlt : k + sub.size <= s.size
  ·cases hb : ((s.extract k (k + sub.size)).toList == sub.toList)
   ·have HR : Hid (Lib.NoOcc s.data.toList sub.data.toList (k + 1)) := HM.out k hn.out hlt hb
    go_wp2
    go_round
    case rel => exact ⟨k + 1, by omega, by go_num, HR⟩
    case measure => simp [intOf]; omega
   ·have HR : Hid (ix = k) := HH.out k hn.out hlt hb
    go_wp2
    go_ret
    exact ⟨ret_int HR.out.symm, rfl⟩
  ·have HR : Hid (ix = -1) := HP.out k hn.out (by omega)
   go_wp2
   go_ret
   exact ⟨ret_int HR.out.symm, rfl⟩
end
section
open Go.RowKit
theorem ret_str {a b : ByteArray} (h : a = b) : Ending.returned (.string a) = .returned (.string b) := by rw [h]
def jkk (f l : ByteArray) (save : Int) : ByteArray := if f.size <= 8000 /\ l.size <= 8000 then ⟨(jdi (jdw f.data.toList save) l.data.toList).toArray⟩ else ⟨#[]⟩
theorem jsq {f l : ByteArray} {save : Int} (h : ¬ (f.size <= 8000 /\ l.size <= 8000)) : jkk f l save = ⟨#[]⟩ := if_neg h
theorem jjx {f l : ByteArray} {save : Int} (h : f.size <= 8000 /\ l.size <= 8000) : jkk f l save = ⟨(jdi (jdw f.data.toList save) l.data.toList).toArray⟩ := if_pos h
def MxA (w : World) : Prop := ∃ m : Int, w.cell? (ad (1) 0) = some (iv m)
theorem MxA.of_below {w w' : World} (h : MxA w) (hb : Bw w w') : MxA w' := by
 obtain ⟨m, hm⟩ := h
 exact ⟨m, (qce hb hm hm)⟩
theorem jxt (s sub : ByteArray) (h : 1 <= sub.size) : Lib.countB s sub <= s.size := by
 have := Lib.countB_mul_le sub h s.size s (nlr _)
 exact Nat.le_trans (Nat.le_mul_of_pos_right _ h) this
theorem jnc (f l : ByteArray) (save : Int) (w : World) (hf : f.size <= 8000) (hl : l.size <= 8000) :
  Cl 229 #[.string f, .string l, iv save] w fun e w' => e = .returned (.string ⟨(jdi (jdw f.data.toList save) l.data.toList).toArray⟩) /\ ∃ n, w' = w.drewN n := by
 have hI := fun w => jcp f ⟨#[47]⟩ w hf (by decide) (by decide)
 have dz := jlx f.data.toList save
 rw [jah] at dz
 rcases Lib.index_spec f.data.toList [47] with ⟨e1, _⟩ | ⟨i, e1, hi, sL, _⟩
 ·have hq : f.data.toList = jdw f.data.toList save := (jvp e1).symm
  rw [show (ByteArray.mk #[47]).data.toList = [47] from rfl, e1] at hI
  have hJ := fun w => jcp f ⟨#[37, 115]⟩ w hf (by decide) (by decide)
  rw [show (ByteArray.mk #[37, 115]).data.toList = [37, 115] from rfl] at hJ
  generalize hqq : jdw f.data.toList save = q at *
  clear hqq dz e1
  obtain ⟨p, rfl⟩ : ∃ p : ByteArray, p = f := ⟨f, rfl⟩
  go_enter Tryz.func229, Tryz.ntmps229
  go_wp2_with fail
  refine (hI _).mono ?_
  rintro e w' ⟨rfl, rfl⟩
  go_wp2_with fail
  rcases Lib.index_spec p.data.toList [37, 115] with ⟨e2, _⟩ | ⟨j, e2, hj, ho, _⟩
  ·rw [e2] at hJ
   have HR : Hid (({ data := (jdi q l.data.toList).toArray } : ByteArray) = p) := by simp only [Hid]; rw [<- hq, jmw e2]
   refine (hJ _).mono ?_
   rintro e w' ⟨rfl, rfl⟩
   go_wp2
   go_ret
   exact ⟨ret_str HR.out.symm, 0, rfl⟩
  ·rw [e2] at hJ
   have gF : j + 2 <= p.size := by
    rcases Lib.occAt_room ho with h | h
    ·rw [jah] at h; simpa using h
    ·cases h
   have i0 : (0 : Int) <= (j : Int) := by omega
   have i1 : (j : Int) <= (p.size : Int) := by omega
   have i2 : (j : Int) + 2 <= (p.size : Int) := by omega
   have HR : Hid (({ data := (jdi q l.data.toList).toArray } : ByteArray) = p.extract 0 j ++ l ++ p.extract (j + 2) p.size) := by
    simp only [Hid]
    rw [<- hq, jmx e2]
    symm
    apply jfx
    simp only [ByteArray.data_append, Array.toList_append, ex_dataA, List.drop_zero, Nat.sub_zero]
    rw [List.take_of_length_le (l := p.data.toList.drop (j + 2)) (by rw [List.length_drop, jah]; omega)]
   clear hj ho e2
   refine (hJ _).mono ?_
   rintro e w' ⟨rfl, rfl⟩
   go_wp2_with fail
   go_quiet (fail)
   go_wp2
   go_ret
   exact ⟨ret_str HR.out.symm, _, rfl⟩
 ·rw [jah] at hi
  rw [show (ByteArray.mk #[47]).data.toList = [47] from rfl, e1] at hI
  have gF : i + 1 <= f.size := by
   rcases Lib.occAt_room sL with h | h
   ·rw [jah] at h; simpa using h
   ·cases h
  have j0 : (0 : Int) <= (i : Int) := by omega
  have j1 : (i : Int) + 1 <= (f.size : Int) := by omega
  by_cases hs : save = 0
  ·subst hs
   have hq : (f.extract 0 i).data.toList = jdw f.data.toList 0 := by rw [j08 e1, ex_dataA]; simp
   have hz : (f.extract 0 i).size <= 8000 := by rw [ByteArray.size_extract]; omega
   have hJ := fun w => jcp (f.extract 0 i) ⟨#[37, 115]⟩ w hz (by decide) (by decide)
   rw [show (ByteArray.mk #[37, 115]).data.toList = [37, 115] from rfl] at hJ
   generalize hqq : jdw f.data.toList 0 = q at *
   clear hqq dz e1 sL
   go_enter Tryz.func229, Tryz.ntmps229
   go_wp2_with fail
   refine (hI _).mono ?_
   rintro e w' ⟨rfl, rfl⟩
   go_wp2_with fail
   generalize f.extract 0 i = p at *
   clear hI j0 j1 gF hi
   rcases Lib.index_spec p.data.toList [37, 115] with ⟨e2, _⟩ | ⟨j, e2, hj, ho, _⟩
   ·rw [e2] at hJ
    have HR : Hid (({ data := (jdi q l.data.toList).toArray } : ByteArray) = p) := by simp only [Hid]; rw [<- hq, jmw e2]
    refine (hJ _).mono ?_
    rintro e w' ⟨rfl, rfl⟩
    go_wp2
    go_ret
    exact ⟨ret_str HR.out.symm, 0, rfl⟩
   ·rw [e2] at hJ
    have gF : j + 2 <= p.size := by
     rcases Lib.occAt_room ho with h | h
     ·rw [jah] at h; simpa using h
     ·cases h
    have i0 : (0 : Int) <= (j : Int) := by omega
    have i1 : (j : Int) <= (p.size : Int) := by omega
    have i2 : (j : Int) + 2 <= (p.size : Int) := by omega
    have HR : Hid (({ data := (jdi q l.data.toList).toArray } : ByteArray) = p.extract 0 j ++ l ++ p.extract (j + 2) p.size) := by
     simp only [Hid]
     rw [<- hq, jmx e2]
     symm
     apply jfx
     simp only [ByteArray.data_append, Array.toList_append, ex_dataA, List.drop_zero, Nat.sub_zero]
     rw [List.take_of_length_le (l := p.data.toList.drop (j + 2)) (by rw [List.length_drop, jah]; omega)]
    clear hj ho e2
    refine (hJ _).mono ?_
    rintro e w' ⟨rfl, rfl⟩
    go_wp2_with fail
    go_quiet (fail)
    go_wp2
    go_ret
    exact ⟨ret_str HR.out.symm, _, rfl⟩
  ·have hq : (f.extract (i + 1) f.size).data.toList = jdw f.data.toList save := by rw [j07 e1 hs, ex_dataA, List.take_of_length_le (by rw [List.length_drop, jah]; omega)]
   have hz : (f.extract (i + 1) f.size).size <= 8000 := by rw [ByteArray.size_extract]; omega
   have hJ := fun w => jcp (f.extract (i + 1) f.size) ⟨#[37, 115]⟩ w hz (by decide) (by decide)
   rw [show (ByteArray.mk #[37, 115]).data.toList = [37, 115] from rfl] at hJ
   generalize hqq : jdw f.data.toList save = q at *
   have CD : (save == 0) = false := by simpa using hs
   clear hqq dz e1 sL hs
   go_enter Tryz.func229, Tryz.ntmps229
   go_wp2_with fail
   refine (hI _).mono ?_
   rintro e w' ⟨rfl, rfl⟩
   go_wp2_with fail
   generalize f.extract (i + 1) f.size = p at *
   clear hI j0 j1 gF hi
   rcases Lib.index_spec p.data.toList [37, 115] with ⟨e2, _⟩ | ⟨j, e2, hj, ho, _⟩
   ·rw [e2] at hJ
    have HR : Hid (({ data := (jdi q l.data.toList).toArray } : ByteArray) = p) := by simp only [Hid]; rw [<- hq, jmw e2]
    refine (hJ _).mono ?_
    rintro e w' ⟨rfl, rfl⟩
    go_wp2
    go_ret
    exact ⟨ret_str HR.out.symm, 0, rfl⟩
   ·rw [e2] at hJ
    have gF : j + 2 <= p.size := by
     rcases Lib.occAt_room ho with h | h
     ·rw [jah] at h; simpa using h
     ·cases h
    have i0 : (0 : Int) <= (j : Int) := by omega
    have i1 : (j : Int) <= (p.size : Int) := by omega
    have i2 : (j : Int) + 2 <= (p.size : Int) := by omega
    have HR : Hid (({ data := (jdi q l.data.toList).toArray } : ByteArray) = p.extract 0 j ++ l ++ p.extract (j + 2) p.size) := by
     simp only [Hid]
     rw [<- hq, jmx e2]
     symm
     apply jfx
     simp only [ByteArray.data_append, Array.toList_append, ex_dataA, List.drop_zero, Nat.sub_zero]
     rw [List.take_of_length_le (l := p.data.toList.drop (j + 2)) (by rw [List.length_drop, jah]; omega)]
    clear hj ho e2
    refine (hJ _).mono ?_
    rintro e w' ⟨rfl, rfl⟩
    go_wp2_with fail
    go_quiet (fail)
    go_wp2
    go_ret
    exact ⟨ret_str HR.out.symm, _, rfl⟩
theorem jqy (f l : ByteArray) (save : Int) (w : World) (hM : MxA w) (hf : f.size <= 1048576) (hl : l.size <= 1048576) :
  Cl 301 #[.string f, .string l, iv save] w fun e w' => e = .returned (.string (jkk f l save)) /\ Bw w w' := by
 by_cases h1 : f.size <= 8000
 ·by_cases h2 : l.size <= 8000
  ·obtain ⟨m, hm⟩ := hM
   have hC := Tryz.strings_Cut f ⟨#[47]⟩ m w (by omega) hm
   have sp : ∀ (p : ByteArray) w', p.data.toList.length <= 8000 -> Bw w w' -> Cl 313 #[.string p, .string ⟨#[37, 115]⟩, .string l, iv 1] w' fun e cr => e = .returned (.string ⟨(jdi p.data.toList l.data.toList).toArray⟩) /\ Bw w' cr := fun p w' hp hb => by
    rw [jah] at hp
    have sD := jxt p ⟨#[37, 115]⟩ (by decide)
    have := Tryz.strings_Replace p ⟨#[37, 115]⟩ l 1 m w' (by omega) (qce hb hm hm) (by decide) (by
     have := Nat.mul_le_mul (Nat.le_trans sD hp) h2
     omega)
    rw [show (ByteArray.mk #[37, 115]).data.toList = [37, 115] from rfl, jpv] at this
    exact this
   rw [jjx ⟨h1, h2⟩]
   rw [show (ByteArray.mk #[47]).data.toList = [47] from rfl] at hC
   have dz := jlx f.data.toList save
   rw [jah] at dz
   have hd := jah f
   rcases Lib.index_spec f.data.toList [47] with ⟨e1, _⟩ | ⟨i, e1, hi, sL, _⟩
   ·rw [j3y e1] at hC
    rw [jvp e1]
    have aN := fun w' hb => sp ⟨f.data.toList.toArray⟩ w' (by simp; omega) hb
    simp only at aN
    generalize (jdi f.data.toList l.data.toList).toArray = x at *
    generalize f.data.toList.toArray = d at *
    clear sp e1 dz hd
    go_enter Tryz.func301, Tryz.ntmps301
    go_wp2_with fail
    refine hC.mono ?_
    rintro e w' ⟨rfl, n, rfl⟩
    go_wp2_with fail
    refine (aN _ (below_drewN (brf _ _) _)).mono ?_
    rintro e w' ⟨rfl, hb⟩
    go_wp2
    go_ret
    exact ⟨rfl, (below_drewN (brf _ _) n).trans hb⟩
   ·rw [j3z e1] at hC
    by_cases hs : save = 0
    ·subst hs
     rw [j08 e1]
     have aN := fun w' hb => sp ⟨(f.data.toList.take i).toArray⟩ w' (by simp; omega) hb
     simp only at aN
     generalize (jdi (f.data.toList.take i) l.data.toList).toArray = x at *
     generalize (f.data.toList.take i).toArray = d at *
     generalize (f.data.toList.drop (i + 1)).toArray = d2 at *
     clear sp e1 dz hd
     go_enter Tryz.func301, Tryz.ntmps301
     go_wp2_with fail
     refine hC.mono ?_
     rintro e w' ⟨rfl, n, rfl⟩
     go_wp2_with fail
     refine (aN _ (below_drewN (brf _ _) _)).mono ?_
     rintro e w' ⟨rfl, hb⟩
     go_wp2
     go_ret
     exact ⟨rfl, (below_drewN (brf _ _) n).trans hb⟩
    ·rw [j07 e1 hs]
     have aN := fun w' hb => sp ⟨(f.data.toList.drop (i + 1)).toArray⟩ w' (by simp; omega) hb
     simp only at aN
     generalize (jdi (f.data.toList.drop (i + 1)) l.data.toList).toArray = x at *
     generalize (f.data.toList.take i).toArray = d at *
     generalize (f.data.toList.drop (i + 1)).toArray = d2 at *
     clear sp e1 dz hd
     go_enter Tryz.func301, Tryz.ntmps301
     go_wp2_with fail
     refine hC.mono ?_
     rintro e w' ⟨rfl, n, rfl⟩
     go_wp2_with fail
     refine (aN _ (below_drewN (brf _ _) _)).mono ?_
     rintro e w' ⟨rfl, hb⟩
     go_wp2
     go_ret
     exact ⟨rfl, (below_drewN (brf _ _) n).trans hb⟩
  ·rw [jsq (by omega)]
   go_enter Tryz.func301, Tryz.ntmps301
   go_wp2
   go_ret
   exact ⟨rfl, brf _ _⟩
 ·rw [jsq (by omega)]
  go_enter Tryz.func301, Tryz.ntmps301
  go_wp2
  go_ret
  exact ⟨rfl, brf _ _⟩
end
end Go.Proofs.YtgiieknbckhofaaGreatDoor
