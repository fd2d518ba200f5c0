/- Packed. -/
import Derived.Test.YtgiieknbckhofaaGreatDoorRight1u
import Derived.Test.YtgiieknbckhofaaGreatDoorOnPu
import Derived.Test.YtgiieknbckhofaaGreatDoorRelPu
set_option maxHeartbeats 20000000
set_option linter.unusedSimpArgs false
namespace Go.Proofs.YtgiieknbckhofaaGreatDoor
section
open Go.RowKit
def Zy (w : World) : Prop := Tab w /\ Mx w
theorem Zy.of_below {w w' : World} (h : Zy w) (hb : Bw w w') : Zy w' := ⟨h.1.of_below hb, h.2.of_below hb⟩
theorem Zy.alloc {w : World} (h : Zy w) (o : Obj) : Zy (w.alloc o) := ⟨h.1.alloc o, h.2.alloc o⟩
def onB (s : ByteArray) : Bool := jbk 2000 1 s != -1000000
theorem jon (s : ByteArray) (w : World) (hE : Zy w) (hz : s.size <= 1048576) :
  Cl 158 #[.string s] w fun e w' => e = .returned (.bool (onB s)) /\ Bw w w' := by
 have hX := fun w (h : Zy w) => jok 2000 1 s w h.1 h.2 hz
 unfold onB
 generalize jbk 2000 1 s = r at *
 go_enter Tryz.func158, Tryz.ntmps158
 go_wp2_with fail
 refine (hX _ hE).mono ?_
 rintro e w1 ⟨rfl, hb⟩
 go_wp2
 go_ret
 exact ⟨rfl, hb⟩
theorem jh8 (s : ByteArray) (w : World) (hz : s.size <= 1048576) :
  Cl 114 #[.string s] w fun e w' => e = .returned (.bool (onB s)) /\ Bw w w' := by
 have hy : ymB 2000 1 = true := by decide
 have hX := fun w => jkx 2000 1 s w hy hz
 have e : jbk 2000 1 s = moV 2000 1 s := by unfold jbk; rw [hy, if_pos rfl, jig hy]
 unfold onB
 rw [e]
 clear e
 generalize moV 2000 1 s = r at *
 go_enter Tryz.func114, Tryz.ntmps114
 go_wp2_with fail
 refine (hX _).mono ?_
 rintro e w1 ⟨rfl, hb⟩
 go_wp2
 go_ret
 exact ⟨rfl, hb⟩
def jav (r : RuleD) : Bool := jay r.name && (isB r.lo 1 9999 && (isB r.hi r.lo 9999 && (isB r.month 1 12 && (onB r.on && (isB r.at_ 0 604800 && (ofB r.of && (isB r.save (-7200) 7200 && ltB r.letter)))))))
def jyw (r : RuleD) : Bool := jay r.name && (isB r.lo 1 9999 && (isB r.hi 1 9999 && (decide (r.lo <= r.hi) && (decide (1 <= r.month) && (decide (r.month <= 12) && (onB r.on && (decide (0 <= r.at_) && (decide (r.at_ <= 604800) && (ofB r.of && (isB r.save (-7200) 7200 && ltB r.letter))))))))))
theorem jvm (r : RuleD) : jyw r = jav r := by
 unfold jyw jav
 have e1 : isB r.month 1 12 = (decide (1 <= r.month) && decide (r.month <= 12)) := by unfold isB; simp
 have e2 : isB r.at_ 0 604800 = (decide (0 <= r.at_) && decide (r.at_ <= 604800)) := by unfold isB; simp
 have e3 : (isB r.lo 1 9999 && (isB r.hi 1 9999 && decide (r.lo <= r.hi))) = (isB r.lo 1 9999 && isB r.hi r.lo 9999) := by
  rw [Bool.eq_iff_iff]; unfold isB; simp; omega
 rw [e1, e2]
 have e4 : ∀ x, (isB r.lo 1 9999 && (isB r.hi 1 9999 && (decide (r.lo <= r.hi) && x))) = (isB r.lo 1 9999 && (isB r.hi r.lo 9999 && x)) := fun x => by
  rw [<- Bool.and_assoc (isB r.hi 1 9999), <- Bool.and_assoc (isB r.lo 1 9999), e3, Bool.and_assoc]
 rw [e4]
 simp only [Bool.and_assoc]
theorem ji8 (r : RuleD) (w : World) (hE : Zy w) (ok : r.ok) (hz : r.on.size <= 1048576) :
  Cl 126 #[r.v] w fun e w' => e = .returned (.bool (jyw r)) /\ Bw w w' := by
 obtain ⟨name, lo, hi, month, on, at_, of, save, letter⟩ := r
 obtain ⟨k1, k2, k3, k4⟩ := ok
 simp only [RuleD.v, jyw] at *
 have h1 := fun w => ja6 name w k1
 have h2 := fun w => jew lo w
 have h3 := fun w => jew hi w
 have h4 := fun w (h : Zy w) => jon on w h hz
 have h5 := fun w => jg0 of w
 have h6 := fun w => jey save w
 have h7 := fun w => jhh letter w k4
 generalize jay name = b1 at *
 generalize isB lo 1 9999 = b2 at *
 generalize isB hi 1 9999 = b3 at *
 generalize onB on = b4 at *
 generalize ofB of = b5 at *
 generalize isB save (-7200) 7200 = b6 at *
 generalize ltB letter = b7 at *
 have ag := fun o => qal w o
 go_enter Tryz.func126, Tryz.ntmps126
 go_wp2_with fail
 refine (h1 _).mono ?_
 rintro e w9 ⟨rfl, rfl⟩
 cases b1
 case false =>
  go_wp2
  go_ret
  exact ⟨ret_bool (by simp), (ag _)⟩
 go_wp2_with fail
 refine (h2 _).mono ?_
 rintro e w9 ⟨rfl, rfl⟩
 cases b2
 case false =>
  go_wp2
  go_ret
  exact ⟨ret_bool (by simp), (ag _)⟩
 go_wp2_with fail
 refine (h3 _).mono ?_
 rintro e w9 ⟨rfl, rfl⟩
 cases b3
 case false =>
  go_wp2
  go_ret
  exact ⟨ret_bool (by simp), (ag _)⟩
 by_cases g1 : lo <= hi
 case neg =>
  go_wp2
  go_ret
  exact ⟨ret_bool (by simp; intros; omega), (ag _)⟩
 by_cases g2 : 1 <= month
 case neg =>
  go_wp2
  go_ret
  exact ⟨ret_bool (by simp; intros; omega), (ag _)⟩
 by_cases g3 : month <= 12
 case neg =>
  go_wp2
  go_ret
  exact ⟨ret_bool (by simp; intros; omega), (ag _)⟩
 go_wp2_with fail
 refine (h4 _ (hE.alloc _)).mono ?_
 rintro e w1 ⟨rfl, hb1⟩
 obtain ⟨hc, _⟩ := jaf hb1
 have hlt : w.heap.size < w1.heap.size := by have := hb1.size; simp at this; omega
 have aj := (ag _).trans (hb1.mono (by simp))
 cases b4
 case false =>
  go_wp2
  go_ret
  exact ⟨ret_bool (by simp), aj⟩
 by_cases g4 : 0 <= at_
 case neg =>
  go_wp2
  go_ret
  exact ⟨ret_bool (by simp; intros; omega), aj⟩
 by_cases g5 : at_ <= 604800
 case neg =>
  go_wp2
  go_ret
  exact ⟨ret_bool (by simp; intros; omega), aj⟩
 go_wp2_with fail
 refine (h5 _).mono ?_
 rintro e w9 ⟨rfl, rfl⟩
 cases b5
 case false =>
  go_wp2
  go_ret
  exact ⟨ret_bool (by simp), aj⟩
 go_wp2_with fail
 refine (h6 _).mono ?_
 rintro e w9 ⟨rfl, rfl⟩
 cases b6
 case false =>
  go_wp2
  go_ret
  exact ⟨ret_bool (by simp), aj⟩
 go_wp2_with fail
 refine (h7 _).mono ?_
 rintro e w9 ⟨rfl, rfl⟩
 go_wp2
 go_ret
 exact ⟨ret_bool (by simp [*]), aj⟩
theorem jne (r : RuleD) (w : World) (ok : r.ok) (hz : r.on.size <= 1048576) :
  Cl 83 #[r.v] w fun e w' => e = .returned (.bool (jav r)) /\ Bw w w' := by
 obtain ⟨name, lo, hi, month, on, at_, of, save, letter⟩ := r
 obtain ⟨k1, k2, k3, k4⟩ := ok
 simp only [RuleD.v, jav] at *
 have h1 := fun w => jbv name w k1
 have h2 := fun w => jnf lo w
 have h3 := fun w => jau hi lo 9999 w
 have h8 := fun w => jau month 1 12 w
 have h4 := fun w => jh8 on w hz
 have h9 := fun w => jau at_ 0 604800 w
 have h5 := fun w => jkv of w
 have h6 := fun w => jgo save w
 have h7 := fun w => jj0 letter w k4
 generalize jay name = b1 at *
 generalize isB lo 1 9999 = b2 at *
 generalize isB hi lo 9999 = b3 at *
 generalize isB month 1 12 = b8 at *
 generalize onB on = b4 at *
 generalize isB at_ 0 604800 = b9 at *
 generalize ofB of = b5 at *
 generalize isB save (-7200) 7200 = b6 at *
 generalize ltB letter = b7 at *
 have ag := fun o => qal w o
 go_enter Tryz.func83, Tryz.ntmps83
 go_wp2_with fail
 refine (h1 _).mono ?_
 rintro e w9 ⟨rfl, rfl⟩
 cases b1
 case false =>
  go_wp2
  go_ret
  exact ⟨ret_bool (by simp), (ag _)⟩
 go_wp2_with fail
 refine (h2 _).mono ?_
 rintro e w9 ⟨rfl, rfl⟩
 cases b2
 case false =>
  go_wp2
  go_ret
  exact ⟨ret_bool (by simp), (ag _)⟩
 go_wp2_with fail
 refine (h3 _).mono ?_
 rintro e w9 ⟨rfl, rfl⟩
 cases b3
 case false =>
  go_wp2
  go_ret
  exact ⟨ret_bool (by simp), (ag _)⟩
 go_wp2_with fail
 refine (h8 _).mono ?_
 rintro e w9 ⟨rfl, rfl⟩
 cases b8
 case false =>
  go_wp2
  go_ret
  exact ⟨ret_bool (by simp), (ag _)⟩
 go_wp2_with fail
 refine (h4 _).mono ?_
 rintro e w1 ⟨rfl, hb1⟩
 obtain ⟨hc, _⟩ := jaf hb1
 have hlt : w.heap.size < w1.heap.size := by have := hb1.size; simp at this; omega
 have aj := (ag _).trans (hb1.mono (by simp))
 cases b4
 case false =>
  go_wp2
  go_ret
  exact ⟨ret_bool (by simp), aj⟩
 go_wp2_with fail
 refine (h9 _).mono ?_
 rintro e w9 ⟨rfl, rfl⟩
 cases b9
 case false =>
  go_wp2
  go_ret
  exact ⟨ret_bool (by simp), aj⟩
 go_wp2_with fail
 refine (h5 _).mono ?_
 rintro e w9 ⟨rfl, rfl⟩
 cases b5
 case false =>
  go_wp2
  go_ret
  exact ⟨ret_bool (by simp), aj⟩
 go_wp2_with fail
 refine (h6 _).mono ?_
 rintro e w9 ⟨rfl, rfl⟩
 cases b6
 case false =>
  go_wp2
  go_ret
  exact ⟨ret_bool (by simp), aj⟩
 go_wp2_with fail
 refine (h7 _).mono ?_
 rintro e w9 ⟨rfl, rfl⟩
 go_wp2
 go_ret
 exact ⟨ret_bool (by simp [*]), aj⟩
theorem jke (r : RuleD) (w : World) (hE : Zy w) (ok : r.ok) (hz : r.on.size <= 1048576) :
  Cl 126 #[r.v] w fun e w' => e = .returned (.bool (jav r)) /\ Bw w w' := by
 rw [<- jvm]; exact ji8 r w hE ok hz
end
section
open Go.RowKit
def fbB (c : Int) : Bool := letB c || (digB c || (c == 43 || (c == 45 || (c == 37 || c == 47))))
def strokes (s : ByteArray) : Nat -> Int
 | 0 => 0
 | k + 1 => strokes s k + (if jae s k = 47 then 1 else 0)
theorem js2 (s : ByteArray) (k : Nat) : 0 <= strokes s k /\ strokes s k <= k := by
 induction k with
 | zero => simp [strokes]
 | succ k ih => simp only [strokes]; split <;> omega
def fmtB (s : ByteArray) : Bool := decide (1 <= s.size /\ s.size <= 12 /\ strokes s s.size <= 1 /\ ∀ i, i < s.size -> fbB (jae s i) = true)
theorem jk7 {s : ByteArray} (h : ¬ (1 <= s.size /\ s.size <= 12 /\ strokes s s.size <= 1)) : fmtB s = false := dfe fun hn => h ⟨hn.1, hn.2.1, hn.2.2.1⟩
theorem jxc {s : ByteArray} {k : Nat} (hk : k < s.size) (h : fbB (jae s k) = false) : fmtB s = false := dfe fun hn => by rw [hn.2.2.2 k hk] at h; cases h
theorem jxb {s : ByteArray} (h1 : 1 <= s.size) (h2 : s.size <= 12) (h3 : strokes s s.size <= 1) (h : ∀ i, i < s.size -> fbB (jae s i) = true) : fmtB s = true := dte ⟨h1, h2, h3, h⟩
theorem jga (c : Int) (w : World) :
  Cl 237 #[.int .u8 c] w fun e w' => e = .returned (.bool (fbB c)) /\ w' = w := by
 have hL := fun w => jct c w
 have hD := fun w => jd6 c w
 unfold fbB
 generalize letB c = b1 at *
 generalize digB c = b2 at *
 go_enter Tryz.func237, Tryz.ntmps237
 go_wp2_with fail
 refine (hL _).mono ?_
 rintro e w1 ⟨rfl, rfl⟩
 cases b1
 case true =>
  go_wp2
  go_ret
  exact ⟨ret_bool (by simp), rfl⟩
 go_wp2_with fail
 refine (hD _).mono ?_
 rintro e w1 ⟨rfl, rfl⟩
 cases b2
 case true =>
  go_wp2
  go_ret
  exact ⟨ret_bool (by simp), rfl⟩
 go_wp2
 all_goals go_ret
 all_goals exact ⟨ret_bool (by first | (simp_all; done) | simp [Bool.or_assoc]), rfl⟩
theorem jlj (s : ByteArray) (k : Nat) (hk : k <= s.size) : strokes s k = ((s.data.toList.take k).count 47 : Nat) := by
 have hz : s.data.toList.length = s.size := by rw [Array.length_toList]; rfl
 induction k with
 | zero => simp [strokes]
 | succ k ih =>
  have hlt : k < s.data.toList.length := by omega
  have e : jae s k = (s.data.toList[k].toNat : Int) := by
   rw [<- jai s k (by omega)]; rfl
  rw [List.take_add_one, lgg hlt, List.count_append, strokes, ih (by omega), e]
  by_cases h : s.data.toList[k] = 47
  ·rw [h]; simp
  ·have h2 : ¬ (s.data.toList[k].toNat : Int) = 47 := fun hn => h (by
    apply UInt8.toNat_inj.mp
    show s.data.toList[k].toNat = 47
    omega)
   have hc : List.count 47 [s.data.toList[k]] = 0 := List.count_eq_zero_of_not_mem (by simpa using fun hn => h hn.symm)
   rw [if_neg h2, Option.toList_some, hc]
   simp
theorem jpo (s : ByteArray) : (Lib.countByte s.data.toList 47 : Int) = strokes s s.size := by
 have hz : s.data.toList.length = s.size := by rw [Array.length_toList]; rfl
 rw [jlj s s.size (nlr _), List.take_of_length_le (by omega)]
 rfl
theorem jhk (s : ByteArray) (w : World) (hs : s.size <= maxLen) :
  Cl 201 #[.string s] w fun e w' => e = .returned (.bool (fmtB s)) /\ w' = w := by
 unfold maxLen at hs
 by_cases h1 : s.size < 1
 ·rw [jk7 (by omega)]
  go_enter Tryz.func201, Tryz.ntmps201
  go_wp2
  go_ret
  exact ⟨rfl, rfl⟩
 by_cases h2 : 12 < s.size
 ·rw [jk7 (by omega)]
  go_enter Tryz.func201, Tryz.ntmps201
  go_wp2
  go_ret
  exact ⟨rfl, rfl⟩
 have hC := fun w => Tryz.strings_Count_one s 47 w
 rw [jpo] at hC
 by_cases h3 : 1 < strokes s s.size
 ·rw [jk7 (by omega)]
  generalize strokes s s.size = n at *
  go_enter Tryz.func201, Tryz.ntmps201
  go_wp2_with (go_at_call 236; refine (hC _).mono ?_; rintro e w' ⟨rfl, rfl⟩)
  go_ret
  exact ⟨rfl, rfl⟩
 have sf : Hid (strokes s s.size <= 1) := by simp only [Hid]; omega
 generalize hn : strokes s s.size = n at hC h3
 go_enter Tryz.func201, Tryz.ntmps201
 go_wp2_with (go_at_call 236; refine (hC _).mono ?_; rintro e w' ⟨rfl, rfl⟩)
 go_loop [19] (fun i => ∃ k : Nat, k <= s.size /\ i = iv k /\ Hid (∀ j, j < k -> fbB (jae s j) = true)) (fun i => s.size - (intOf i).toNat)
 case atStart => exact ⟨0, by omega, rfl, upto_zero⟩
 case round =>
  obtain ⟨k, hk, rfl, ak⟩ := hrel
  by_cases hlt : k < s.size
  ·have hB := fun w => jga (jae s k) w
   have e := jai s k hlt
   cases hb : fbB (jae s k)
   ·have HB : Hid (fmtB s = false) := jxc hlt hb
    rw [hb, <- e] at hB
    clear hb e
    go_wp2_with (go_at_call 237; refine (hB _).mono ?_; rintro e w' ⟨rfl, rfl⟩)
    go_ret
    exact ⟨ret_bool HB.out.symm, rfl⟩
   ·have HB : Hid (∀ j, j < k + 1 -> fbB (jae s j) = true) := jbj ak.out hb
    rw [hb, <- e] at hB
    clear hb e
    go_wp2_with (go_at_call 237; refine (hB _).mono ?_; rintro e w' ⟨rfl, rfl⟩)
    go_round
    case rel => exact ⟨k + 1, by omega, by go_num, HB⟩
    case measure => simp [intOf]; omega
  ·have e : k = s.size := by omega
   subst e
   have HB : Hid (fmtB s = true) := jxb (by omega) (by omega) sf.out ak.out
   go_wp2
   go_ret
   exact ⟨ret_bool HB.out.symm, rfl⟩
theorem jj1 (s : ByteArray) (w : World) (hs : s.size <= maxLen) :
  Cl 153 #[.string s] w fun e w' => e = .returned (.bool (fmtB s)) /\ w' = w := by
 unfold maxLen at hs
 go_enter Tryz.func153, Tryz.ntmps153
 go_wp2
 go_loop [3, 4] (fun x i => ∃ k : Nat, k <= s.size /\ i = iv k /\ x = iv (strokes s k) /\ Hid (∀ j, j < k -> fbB (jae s j) = true)) (fun _ i => s.size - (intOf i).toNat)
 case atStart => exact ⟨0, by omega, rfl, rfl, upto_zero⟩
 case round =>
  obtain ⟨k, hk, rfl, rfl, ak⟩ := hrel
  have sb := js2 s k
  by_cases hlt : k < s.size
  ·have hL := fun w => jch (jae s k) w
   have hD := fun w => jdl (jae s k) w
   have e := jai s k hlt
   by_cases lW : jae s k = 47
   ·have HN : Hid (strokes s (k + 1) = strokes s k + 1) := by simp only [Hid, strokes]; rw [if_pos lW]
    have HB : Hid (∀ j, j < k + 1 -> fbB (jae s j) = true) := jbj ak.out (by rw [lW]; decide)
    have g : ((s[k].toNat : Int) == 47) = true := by rw [e, lW]; rfl
    clear e lW hL hD
    go_wp2
    go_round
    case rel => exact ⟨k + 1, by omega, by go_num, by rw [HN.out], HB⟩
    case measure => simp [intOf]; omega
   ·have HN : Hid (strokes s (k + 1) = strokes s k) := by simp only [Hid, strokes]; rw [if_neg lW]; omega
    have g : ((s[k].toNat : Int) == 47) = false := by rw [e]; simpa using lW
    cases hb : fbB (jae s k)
    ·have HB : Hid (fmtB s = false) := jxc hlt hb
     unfold fbB at hb
     simp only [Bool.or_eq_false_iff] at hb
     obtain ⟨q1, q2, q3, q4, q5, _⟩ := hb
     rw [q1, <- e] at hL
     rw [q2, <- e] at hD
     rw [<- e] at q3 q4 q5
     have Qh : ((s[k].toNat : Int) != 43) = true := by simpa using q3
     have Qi : ((s[k].toNat : Int) != 45) = true := by simpa using q4
     have Qj : ((s[k].toNat : Int) != 37) = true := by simpa using q5
     clear e lW q1 q2 q3 q4 q5
     go_wp2_with (first | (go_at_call 119; refine (hL _).mono ?_; rintro e w' ⟨rfl, rfl⟩) | (go_at_call 120; refine (hD _).mono ?_; rintro e w' ⟨rfl, rfl⟩))
     go_ret
     exact ⟨ret_bool HB.out.symm, rfl⟩
    ·have HB : Hid (∀ j, j < k + 1 -> fbB (jae s j) = true) := jbj ak.out hb
     have hc : letB (jae s k) = true \/ (letB (jae s k) = false /\ digB (jae s k) = true) \/ (letB (jae s k) = false /\ digB (jae s k) = false /\ jae s k = 43) \/ (letB (jae s k) = false /\ digB (jae s k) = false /\ jae s k = 45) \/ (letB (jae s k) = false /\ digB (jae s k) = false /\ jae s k = 37) := by
      unfold fbB at hb
      cases q1 : letB (jae s k)
      ·cases q2 : digB (jae s k)
       ·rw [q1, q2] at hb
        simp at hb
        rcases hb with h | h | h | h
        ·exact .inr (.inr (.inl ⟨rfl, rfl, h⟩))
        ·exact .inr (.inr (.inr (.inl ⟨rfl, rfl, h⟩)))
        ·exact .inr (.inr (.inr (.inr ⟨rfl, rfl, h⟩)))
        ·exact absurd h lW
       ·exact .inr (.inl ⟨rfl, rfl⟩)
      ·exact .inl rfl
     clear hb lW
     rcases hc with q1 | ⟨q1, q2⟩ | ⟨q1, q2, q3⟩ | ⟨q1, q2, q3⟩ | ⟨q1, q2, q3⟩
     ·rw [q1, <- e] at hL
      clear e q1 hD
      go_wp2_with (go_at_call 119; refine (hL _).mono ?_; rintro e w' ⟨rfl, rfl⟩)
      go_round
      case rel => exact ⟨k + 1, by omega, by go_num, by rw [HN.out], HB⟩
      case measure => simp [intOf]; omega
     all_goals
      rw [q1, <- e] at hL
      rw [q2, <- e] at hD
     ·clear e q1 q2
      go_wp2_with (first | (go_at_call 119; refine (hL _).mono ?_; rintro e w' ⟨rfl, rfl⟩) | (go_at_call 120; refine (hD _).mono ?_; rintro e w' ⟨rfl, rfl⟩))
      go_round
      case rel => exact ⟨k + 1, by omega, by go_num, by rw [HN.out], HB⟩
      case measure => simp [intOf]; omega
     ·have t1 : ((s[k].toNat : Int) != 43) = false := by rw [e, q3]; rfl
      clear e q1 q2 q3
      go_wp2_with (first | (go_at_call 119; refine (hL _).mono ?_; rintro e w' ⟨rfl, rfl⟩) | (go_at_call 120; refine (hD _).mono ?_; rintro e w' ⟨rfl, rfl⟩))
      go_round
      case rel => exact ⟨k + 1, by omega, by go_num, by rw [HN.out], HB⟩
      case measure => simp [intOf]; omega
     ·have t1 : ((s[k].toNat : Int) != 43) = true := by rw [e, q3]; rfl
      have t2 : ((s[k].toNat : Int) != 45) = false := by rw [e, q3]; rfl
      clear e q1 q2 q3
      go_wp2_with (first | (go_at_call 119; refine (hL _).mono ?_; rintro e w' ⟨rfl, rfl⟩) | (go_at_call 120; refine (hD _).mono ?_; rintro e w' ⟨rfl, rfl⟩))
      go_round
      case rel => exact ⟨k + 1, by omega, by go_num, by rw [HN.out], HB⟩
      case measure => simp [intOf]; omega
     ·have t1 : ((s[k].toNat : Int) != 43) = true := by rw [e, q3]; rfl
      have t2 : ((s[k].toNat : Int) != 45) = true := by rw [e, q3]; rfl
      have t3 : ((s[k].toNat : Int) != 37) = false := by rw [e, q3]; rfl
      clear e q1 q2 q3
      go_wp2_with (first | (go_at_call 119; refine (hL _).mono ?_; rintro e w' ⟨rfl, rfl⟩) | (go_at_call 120; refine (hD _).mono ?_; rintro e w' ⟨rfl, rfl⟩))
      go_round
      case rel => exact ⟨k + 1, by omega, by go_num, by rw [HN.out], HB⟩
      case measure => simp [intOf]; omega
  ·have e : k = s.size := by omega
   subst e
   by_cases h1 : 1 <= s.size
   ·by_cases h2 : s.size <= 12
    ·by_cases h3 : strokes s s.size <= 1
     ·have HB : Hid (fmtB s = true) := jxb h1 h2 h3 ak.out
      go_wp2
      go_ret
      exact ⟨ret_bool HB.out.symm, rfl⟩
     ·have HB : Hid (fmtB s = false) := jk7 (by omega)
      go_wp2
      go_ret
      exact ⟨ret_bool HB.out.symm, rfl⟩
    ·have HB : Hid (fmtB s = false) := jk7 (by omega)
     go_wp2
     go_ret
     exact ⟨ret_bool HB.out.symm, rfl⟩
   ·have HB : Hid (fmtB s = false) := jk7 (by omega)
    go_wp2
    go_ret
    exact ⟨ret_bool HB.out.symm, rfl⟩
end
end Go.Proofs.YtgiieknbckhofaaGreatDoor
