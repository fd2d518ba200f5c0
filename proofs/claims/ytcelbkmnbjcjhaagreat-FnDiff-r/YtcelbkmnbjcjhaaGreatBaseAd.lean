/- Packed: Basic PlainKit Digs Bytes DecS HeldL Held. -/
import Derived.Test.YtcelbkmnbjcjhaaGreatProg
import Derived.WalkKit
import Derived.WalkSpells
import Derived.WalkLawsBesides
import Derived.Deep.QuietTactic
import Derived.BigQuiet
import Derived.Deep.RegionWith
import Derived.Test.YtcelbkmnbjcjhaaGreatRows
import Derived.ProofKit
import Derived.OpenShut
import Derived.ShutString
import Derived.Lib.ItoaLen
import Derived.Deep.RegionHeld3
namespace Go.Proofs.YtcelbkmnbjcjhaaGreat
open Go.RowKit

theorem ret_bool {a b : Bool} (h : a = b) : Ending.returned (.bool a) = .returned (.bool b) := by rw [h]
theorem ret_int {k : IntKind} {a b : Int} (h : a = b) : Ending.returned (.int k a) = .returned (.int k b) := by rw [h]

theorem below1 (w : World) (o : Obj) (n : Nat) : Below w.heap.size w ((w.alloc o).drewN n) := below_drewN ((Below.refl _ _).alloc (Nat.le_refl _) o) n
theorem bcell {W w1 : World} (hb : Below W.heap.size W w1) : (∀ b o, b < W.heap.size → w1.cell? ⟨b, o, none⟩ = W.cell? ⟨b, o, none⟩) ∧ (∀ b o, b < W.heap.size → w1.frozen? ⟨b, o, none⟩ = W.frozen? ⟨b, o, none⟩) :=
 ⟨fun b o h => hb.cell (p := ⟨b, o, none⟩) h, fun b o h => hb.frozen (p := ⟨b, o, none⟩) h⟩

set_option maxHeartbeats 400000 in
theorem spec_l01Is_t (n lo hi : Int) (w : World) (h1 : lo ≤ n) (h2 : n ≤ hi) :
  Calls Tryz.prog 27 #[.int .i64 n, .int .i64 lo, .int .i64 hi] w fun e w' => e = .returned (.bool true) ∧ w' = w := by
 go_enter Tryz.func27, Tryz.ntmps27
 go_wp2
 go_ret
 exact ⟨ret_bool (by simp), rfl⟩
set_option maxHeartbeats 400000 in
theorem spec_l01Is_f (n lo hi : Int) (w : World) (h : n < lo ∨ hi < n) :
  Calls Tryz.prog 27 #[.int .i64 n, .int .i64 lo, .int .i64 hi] w fun e w' => e = .returned (.bool false) ∧ w' = w := by
 by_cases h1 : lo ≤ n
 ·
  have h2 : hi < n := by omega
  clear h
  go_enter Tryz.func27, Tryz.ntmps27
  go_wp2
  go_ret
  exact ⟨ret_bool (by simp; omega), rfl⟩
 ·
  clear h
  go_enter Tryz.func27, Tryz.ntmps27
  go_wp2
  go_ret
  exact ⟨ret_bool (by simp), rfl⟩
def isB (n lo hi : Int) : Bool := decide (lo ≤ n ∧ n ≤ hi)
theorem isB_t {n lo hi : Int} (h1 : lo ≤ n) (h2 : n ≤ hi) : isB n lo hi = true := decide_eq_true ⟨h1, h2⟩
theorem isB_f {n lo hi : Int} (h : ¬ (lo ≤ n ∧ n ≤ hi)) : isB n lo hi = false := decide_eq_false h
theorem isB_of_t {n lo hi : Int} (h : isB n lo hi = true) : lo ≤ n ∧ n ≤ hi := of_decide_eq_true h
theorem isB_of_f {n lo hi : Int} (h : isB n lo hi = false) : ¬ (lo ≤ n ∧ n ≤ hi) := of_decide_eq_false h
theorem spec_l01Is (n lo hi : Int) (w : World) :
  Calls Tryz.prog 27 #[.int .i64 n, .int .i64 lo, .int .i64 hi] w fun e w' => e = .returned (.bool (isB n lo hi)) ∧ w' = w := by
 cases h : isB n lo hi
 ·
  exact spec_l01Is_f n lo hi w (by have := isB_of_f h; omega)
 ·
  exact spec_l01Is_t n lo hi w (isB_of_t h).1 (isB_of_t h).2
theorem spec_l01Is_v {n lo hi : Int} {b : Bool} (h : isB n lo hi = b) (w : World) :
  Calls Tryz.prog 27 #[.int .i64 n, .int .i64 lo, .int .i64 hi] w fun e w' => e = .returned (.bool b) ∧ w' = w := h ▸ spec_l01Is n lo hi w
end Go.Proofs.YtcelbkmnbjcjhaaGreat
namespace Go.Proofs.YtcelbkmnbjcjhaaGreat
theorem own : ownKnob Tryz.prog.godebug = none := by kernel_rfl
theorem laidOut : laidOutB Tryz.prog = true := by kernel_rfl
end Go.Proofs.YtcelbkmnbjcjhaaGreat
namespace Go.Proofs.YtcelbkmnbjcjhaaGreat
open Go.RowKit

def digB (c : Int) : Bool := decide (48 ≤ c ∧ c ≤ 57)
theorem digB_eq {c : Int} {b : Bool} (h : b = true ↔ (48 ≤ c ∧ c ≤ 57)) : b = digB c := by
 unfold digB; rw [Bool.eq_iff_iff]; simpa using h
/-- a byte of a text. -/
def byteAt (s : ByteArray) (k : Nat) : Int := if h : k < s.size then (s[k].toNat : Int) else 0
theorem byteAt_eq (s : ByteArray) (k : Nat) (h : k < s.size) : (s[k].toNat : Int) = byteAt s k := by unfold byteAt; rw [dif_pos h]

set_option maxHeartbeats 400000 in
theorem spec_l01Digit (c : Int) (w : World) :
  Calls Tryz.prog 83 #[.int .u8 c] w fun e w' => e = .returned (.bool (digB c)) ∧ w' = w := by
 go_enter Tryz.func83, Tryz.ntmps83
 go_wp2
 all_goals go_ret
 all_goals exact ⟨ret_bool (digB_eq (by simp; omega)), rfl⟩
theorem upto_zero {p : Nat → Prop} : Hid (∀ j, j < 0 → p j) := fun j hj => by omega
theorem upto_succ {p : Nat → Prop} {k : Nat} (h : ∀ j, j < k → p j) (hk : p k) : Hid (∀ j, j < k + 1 → p j) := fun j hj => by
 by_cases e : j = k
 ·
  subst e; exact hk
 ·
  exact h j (by omega)
theorem digB_t {c : Int} (h : digB c = true) : 48 ≤ c ∧ c ≤ 57 := of_decide_eq_true h
/-- the number that the first k bytes of a text of digits tell. -/
def numAt (s : ByteArray) : Nat → Int
 | 0 => 0
 | k + 1 => 10 * numAt s k + (byteAt s k - 48)
/-- a text of digits alone, at least one. -/
def digs (s : ByteArray) : Bool := decide (1 ≤ s.size ∧ ∀ i, i < s.size → digB (byteAt s i) = true)
theorem digs_t {s : ByteArray} (h : digs s = true) : 1 ≤ s.size ∧ ∀ i, i < s.size → digB (byteAt s i) = true := of_decide_eq_true h
theorem digs_no0 {s : ByteArray} (h : s.size = 0) : digs s = false := decide_eq_false fun hn => by omega
theorem digs_no {s : ByteArray} {k : Nat} (hk : k < s.size) (h : digB (byteAt s k) = false) : digs s = false := decide_eq_false fun hn => by rw [hn.2 k hk] at h; cases h
theorem digs_yes {s : ByteArray} (h1 : 1 ≤ s.size) (h : ∀ i, i < s.size → digB (byteAt s i) = true) : digs s = true := decide_eq_true ⟨h1, h⟩
theorem numAt_bd {s : ByteArray} {k : Nat} (h : ∀ j, j < k → digB (byteAt s j) = true) : 0 ≤ numAt s k ∧ numAt s k + 1 ≤ 10 ^ k := by
 induction k with
 | zero => simp [numAt]
 | succ k ih =>
  have ⟨a, b⟩ := ih (fun j hj => h j (by omega))
  have ⟨c, d⟩ := digB_t (h k (by omega))
  simp only [numAt]
  have e : (10 : Int) ^ (k + 1) = 10 * 10 ^ k := by rw [Int.pow_succ]; omega
  rw [e]
  omega
theorem numAt_bd9 {s : ByteArray} {k : Nat} (hk : k ≤ 9) (h : ∀ j, j < k → digB (byteAt s j) = true) : 0 ≤ numAt s k ∧ numAt s k ≤ 999999999 := by
 have ⟨a, b⟩ := numAt_bd h
 have e : (10 : Int) ^ k ≤ 10 ^ 9 := by
  have := Nat.pow_le_pow_right (n := 10) (by omega) hk
  exact_mod_cast this
 omega
/-- what digitsRead tells. -/
def drN (s : ByteArray) : Int := if digs s = true then numAt s s.size else 0
theorem drN_t {s : ByteArray} (h : digs s = true) : drN s = numAt s s.size := by unfold drN; rw [if_pos h]
/-- what the model's l01Digits tells. -/
def ldN (s : ByteArray) : Int := if digs s = true then numAt s s.size else -1
theorem ldN_t {s : ByteArray} (h : digs s = true) : ldN s = numAt s s.size := by unfold ldN; rw [if_pos h]
theorem ldN_f {s : ByteArray} (h : digs s = false) : ldN s = -1 := by unfold ldN; rw [h]; rfl
set_option maxHeartbeats 1000000 in
theorem spec_l01Digits (s : ByteArray) (w : World) (hs : s.size ≤ 9) :
  Calls Tryz.prog 101 #[.string s] w fun e w' => e = .returned (.int .i64 (ldN s)) ∧ w' = w := by
 by_cases h0 : s.size < 1
 ·
  have h := digs_no0 (s := s) (by omega)
  rw [ldN_f h]
  go_enter Tryz.func101, Tryz.ntmps101
  go_wp2
  go_ret
  exact ⟨rfl, rfl⟩
 ·
  go_enter Tryz.func101, Tryz.ntmps101
  go_wp2
  go_loop [3, 4] (fun x i => ∃ k : Nat, k ≤ s.size ∧ i = .int .i64 k ∧ x = .int .i64 (numAt s k) ∧ Hid (∀ j, j < k → digB (byteAt s j) = true)) (fun _ i => s.size - (intOf i).toNat)
  case atStart => exact ⟨0, by omega, rfl, rfl, upto_zero⟩
  case round =>
   obtain ⟨k, hk, rfl, rfl, hall⟩ := hrel
   by_cases hlt : k < s.size
   ·
    have hB := fun w => spec_l01Digit (byteAt s k) w
    have nb := numAt_bd9 (s := s) (k := k) (by omega) hall.out
    have e := byteAt_eq s k hlt
    cases hb : digB (byteAt s k)
    ·
     have HB : Hid (digs s = false) := digs_no hlt hb
     rw [hb, ← e] at hB
     clear hb e
     go_wp2_with (go_at_call 83; refine (hB _).mono ?_; rintro e w' ⟨rfl, rfl⟩)
     go_ret
     exact ⟨ret_int (ldN_f HB.out).symm, rfl⟩
    ·
     have HB : Hid (digB (byteAt s k) = true) := hb
     have ⟨b1, b2⟩ := digB_t hb
     have HN : Hid (numAt s (k + 1) = 10 * numAt s k + ((s[k].toNat : Int) - 48)) := by simp only [Hid, numAt]; rw [e]
     rw [hb, ← e] at hB
     rw [← e] at b1 b2
     clear hb e
     go_wp2_with (go_at_call 83; refine (hB _).mono ?_; rintro e w' ⟨rfl, rfl⟩)
     go_round
     case rel => exact ⟨k + 1, by omega, by go_num, by rw [HN.out], upto_succ hall.out HB.out⟩
     case measure => simp [intOf]; omega
   ·
    have e : k = s.size := by omega
    subst e
    have HB : Hid (digs s = true) := digs_yes (by omega) hall.out
    go_wp2
    go_ret
    exact ⟨ret_int (ldN_t HB.out).symm, rfl⟩
end Go.Proofs.YtcelbkmnbjcjhaaGreat
namespace Go.Proofs.YtcelbkmnbjcjhaaGreat

/-- a text of bytes. -/
abbrev S (l : List UInt8) : ByteArray := ⟨l.toArray⟩
theorem S_append (a b : List UInt8) : S a ++ S b = S (a ++ b) := by
 apply ByteArray.ext
 simp [S]
theorem S_size (l : List UInt8) : (S l).size = l.length := by simp [ByteArray.size]
theorem byteAt_ex {s : ByteArray} {a b i : Nat} (hb : b ≤ s.size) (hi : i < b - a) : byteAt (s.extract a b) i = byteAt s (a + i) := by
 have h1 : i < (s.extract a b).size := by rw [ByteArray.size_extract]; omega
 have h2 : a + i < s.size := by omega
 rw [← byteAt_eq _ _ h1, ← byteAt_eq _ _ h2, ByteArray.getElem_extract]
theorem byteAt_S {l : List UInt8} {i : Nat} {c : UInt8} (h : l[i]? = some c) : byteAt (S l) i = (c.toNat : Int) := by
 obtain ⟨hi, hc⟩ := List.getElem?_eq_some_iff.mp h
 have h1 : i < (S l).size := by rw [S_size]; exact hi
 rw [← byteAt_eq _ _ h1]
 subst hc
 rfl
theorem bytes_ext {s t : ByteArray} (hz : s.size = t.size) (h : ∀ i, i < s.size → byteAt s i = byteAt t i) : s = t := by
 apply ByteArray.ext_getElem hz
 intro i h1 h2
 have := h i h1
 rw [← byteAt_eq _ _ h1, ← byteAt_eq _ _ h2] at this
 apply UInt8.toNat_inj.mp
 omega
end Go.Proofs.YtcelbkmnbjcjhaaGreat
namespace Go.Proofs.YtcelbkmnbjcjhaaGreat
open Go.RowKit

theorem ret_strD {a b : ByteArray} (h : a = b) : Ending.returned (.string a) = .returned (.string b) := by rw [h]
/-- digits of a number, none of 0. -/
def dd0 (m : Nat) : List UInt8 := if m = 0 then [] else Lib.decDigits m
theorem dd0_step {m : Nat} (_h : m ≠ 0) : Lib.decDigits m = dd0 (m / 10) ++ [UInt8.ofNat (48 + m % 10)] := by
 unfold dd0
 rw [Lib.decDigits]
 split
 ·
  rw [if_pos (by omega)]; rw [Nat.mod_eq_of_lt (by omega)]; rfl
 ·
  rw [if_neg (by omega)]

/-- a digit's byte. -/
def dgt (c : Int) : UInt8 := UInt8.ofNat c.toNat
theorem dd0_round {n m : Nat} {out : List UInt8} (h : dd0 m ++ out = Lib.decDigits n) (hz : m ≠ 0) : Lib.decDigits n = dd0 (m / 10) ++ (dgt (48 + (m : Int) % 10) :: out) := by
 have e : (48 + (m : Int) % 10).toNat = 48 + m % 10 := by omega
 have e2 : dd0 m = Lib.decDigits m := if_neg hz
 unfold dgt
 rw [← h, e, e2, dd0_step hz]
 simp
/-- a text of one byte, made of a list of one. -/
theorem conv1 (w : World) (c : Int) :
  (convert 22 9 (.slice (some ⟨w.heap.size, 0, none⟩) 1 1)).run Tryz.prog (w.alloc (.cells #[.int .u8 c] 5)) = .ok (.string (S [dgt c])) (w.alloc (.cells #[.int .u8 c] 5)) :=
 run_convert_bytes_arg _ 22 5 Tryz.underlying22 Tryz.underlying5 w.heap.size 0 1 1 [c] rfl (fun i hi => by
  obtain rfl : i = 0 := by omega
  simp) 9 Tryz.underlying9
theorem dd_len {n : Nat} (h : n < 1000000) : (Lib.decDigits n).length ≤ 20 := by
 rw [Lib.decDigits_length]; exact Lib.nDigits_le20 n (by omega)
theorem out_len {n m : Nat} {out : List UInt8} (hn : n < 1000000) (h : dd0 m ++ out = Lib.decDigits n) : out.length ≤ 20 := by
 have := dd_len hn
 rw [← h] at this
 simp at this; omega
set_option maxHeartbeats 1000000 in
theorem spec_l01Dec (n : Nat) (w : World) (hn : n < 1000000) :
  Calls Tryz.prog 75 #[.int .i64 n] w fun e w' => e = .returned (.string (S (Lib.decDigits n))) ∧ Below w.heap.size w w' := by
 by_cases h0 : n = 0
 ·
  subst h0
  go_enter Tryz.func75, Tryz.ntmps75
  go_wp2
  go_ret
  exact ⟨ret_strD (by rw [Lib.decDigits_one (by omega)]; rfl), Below.refl _ _⟩
 ·
  have hb : ((n : Int) == 0) = false := by simpa using h0
  go_enter Tryz.func75, Tryz.ntmps75
  go_wp2
  go_loopw [0, 4] (fun x t wr => ∃ (m : Nat) (out : List UInt8), m ≤ n ∧ x = .int .i64 m ∧ t = .string (S out) ∧ Hid (dd0 m ++ out = Lib.decDigits n) ∧ Below w.heap.size w wr) (fun x _ _ => (intOf x).toNat)
  case atStart => exact ⟨n, [], by omega, rfl, rfl, by unfold dd0; rw [if_neg h0]; simp [Hid], Below.refl _ _⟩
  case round =>
   obtain ⟨m, out, hm, rfl, rfl, HD, hB⟩ := hrel
   by_cases hz : m = 0
   ·
    subst hz
    go_wp2
    go_ret
    exact ⟨ret_strD (by have := HD.out; simpa [dd0] using this), hB⟩
   ·
    have hne : ((m : Int) != 0) = true := by simpa using hz
    have hcv := fun w => conv1 w (48 + (m : Int) % 10)
    have HS : Hid (Lib.decDigits n = dd0 (m / 10) ++ (dgt (48 + (m : Int) % 10) :: out)) := dd0_round HD.out hz
    have hol := out_len hn HD.out
    clear HD
    go_wp2
    go_roundw
    case rel => exact ⟨m / 10, _, by omega, by go_num, by rw [S_append]; rfl, HS.out.symm, hB.alloc hB.size _⟩
    case measure => simp [intOf]; omega
end Go.Proofs.YtcelbkmnbjcjhaaGreat
namespace Go.Proofs.YtcelbkmnbjcjhaaGreat
section
variable {P : Program} {ops : Array Oper} {Q : Exit → Act → World → Prop} {md : Region.Mode} {k : Nat} {S : World → Prop}

/-- S holds as long as operation k has not come up. -/
def Till (k : Nat) (S : World → Prop) (listed : Array Bool) (w : World) : Prop := listed.getD k true = false → S w
def wpAnyL (P : Program) (md : Region.Mode) (ops : Array Oper) (Q : Exit → Act → World → Prop) (k : Nat) (S : World → Prop) : Nat → Array Bool → Act → World → Prop
 | 0, listed, a, w => Region.ready md ops listed = [] ∧ Q .normal a w
 | fuel + 1, listed, a, w =>
  (Region.ready md ops listed = [] → Q .normal a w) ∧
  ∀ i ∈ Region.ready md ops listed, wpOp P ops Q i (fun a' w' => Till k S (listed.setIfInBounds i true) w' ∧ wpAnyL P md ops Q k S fuel (listed.setIfInBounds i true) a' w') a w
theorem wpAny_of_L : ∀ (fuel : Nat) (listed : Array Bool) (a : Act) (w : World), wpAnyL P md ops Q k S fuel listed a w → wpAny P md ops Q fuel listed a w
 | 0, _, _, _, h => h
 | fuel + 1, _, _, _, h => ⟨h.1, fun i hi => wpOp_mono (fun a' w' h' => wpAny_of_L fuel _ a' w' h'.2) (h.2 i hi)⟩
theorem till_set {i : Nat} {listed : Array Bool} {w : World} (hki : k ≠ i) (h : Till k S (listed.setIfInBounds i true) w) : Till k S listed w := fun h0 => h (by rw [getD_set_ne true (Ne.symm hki)]; exact h0)
theorem till_of {i : Nat} {listed : Array Bool} {w : World} (hki : k ≠ i) (h : Till k S listed w) : Till k S (listed.setIfInBounds i true) w := fun h0 => h (by rw [getD_set_ne true (Ne.symm hki)] at h0; exact h0)
/-- an operation that yields its value as long as S holds, and for which operation k waits. -/
theorem wpAnyL_first {i : Nat} {oi ok : Oper} {v : Value} (hi : ops[i]? = some oi) (hsel : ∀ (j : Nat) (o : Oper) cs b, ops[j]? = some o → o.op ≠ .select cs b)
  (hQ : ∀ c a w, Q (.panic c) (a.put oi.dst v) w → Q (.panic c) a w) (hk : ops[k]? = some ok) (hdep : ∃ e ∈ ok.after, Region.binds md e = true ∧ e.on = i) (hki : k ≠ i) :
  ∀ (fuel : Nat) (listed : Array Bool) (a : Act) (w : World),
   (∀ j oj, ops[j]? = some oj → j ≠ i → listed.getD j true = false → (∀ e ∈ oj.after, Region.binds md e = true → e.on ≠ i) → oi.apart ops oj = true) →
   i ∈ Region.ready md ops listed → listed.getD k true = false → YieldsIf P ops S oi v a → S w →
   wpAnyL P md ops Q k S fuel (listed.setIfInBounds i true) (a.put oi.dst v) w → wpAnyL P md ops Q k S (fuel + 1) listed a w := by
 intro fuel
 induction fuel with
 | zero =>
  intro listed a w _ hr hkl hy hS H
  refine ⟨fun h => (by rw [h] at hr; cases hr), fun j hj => ?_⟩
  by_cases hji : j = i
  ·
   subst hji; exact hy.wpOp hi hS ⟨fun _ => hS, H⟩
  ·
   have := ready_mono hj hji
   rw [H.1] at this
   cases this
 | succ fuel ih =>
  intro listed a w hfree hr hkl hy hS H
  refine ⟨fun h => (by rw [h] at hr; cases hr), fun j hj => ?_⟩
  by_cases hji : j = i
  ·
   subst hji; exact hy.wpOp hi hS ⟨fun _ => hS, H⟩
  ·
   have h1 := H.2 j (ready_mono hj hji)
   obtain ⟨hjun, oj, hoj, hall⟩ := mem_ready.1 hj
   have hnot : ∀ e ∈ oj.after, Region.binds md e = true → e.on ≠ i := fun e he hb heq => by
    have h1 := hall e he hb
    have h0 := (mem_ready.1 hr).1
    rw [heq] at h1
    rcases Nat.lt_or_ge i listed.size with h' | h'
    ·
     simp [h'] at h0 h1; rw [h0] at h1; cases h1
    ·
     simp [Array.getElem?_eq_none h'] at h1
   have hjk : j ≠ k := fun e => by
    subst e
    obtain ⟨e, he, hb, hon⟩ := hdep
    rw [hk] at hoj
    cases hoj
    exact hnot e he hb hon
   have h2 := wpOp_putIf hoj (hfree j oj hoj hji hjun hnot) (fun cs b => hsel i oi cs b hi) (fun cs b => hsel j oj cs b hoj) hQ hy h1
   have hkl' : (listed.setIfInBounds j true).getD k true = false := by rw [getD_set_ne true hjk]; exact hkl
   have hfree' : ∀ k ok, ops[k]? = some ok → k ≠ i → (listed.setIfInBounds j true).getD k true = false →
     (∀ e ∈ ok.after, Region.binds md e = true → e.on ≠ i) → oi.apart ops ok = true := fun k ok hk hki hun hno => by
    refine hfree k ok hk hki ?_ hno
    by_cases hjk : j = k
    ·
     subst hjk; exact hjun
    ·
     rw [getD_set_ne true hjk] at hun; exact hun
   refine wpOp_mono (fun a' w' h3 => ?_) h2
   have hS' : S w' := h3.2.1 (by rw [getD_set_ne true hjk, getD_set_ne true (Ne.symm hki)]; exact hkl)
   refine ⟨fun _ => hS', ih (listed.setIfInBounds j true) a' w' hfree' (ready_mono hr (Ne.symm hji)) hkl' h3.1 hS' ?_⟩
   rw [Array.setIfInBounds_comm _ _ hji]
   exact h3.2.2
/-- an operation that yields its value in whatever world. -/
theorem wpAnyL_any {i : Nat} {oi : Oper} {v : Value} (hi : ops[i]? = some oi) (hsel : ∀ (j : Nat) (o : Oper) cs b, ops[j]? = some o → o.op ≠ .select cs b)
  (hQ : ∀ c a w, Q (.panic c) (a.put oi.dst v) w → Q (.panic c) a w) (hki : k ≠ i) :
  ∀ (fuel : Nat) (listed : Array Bool) (a : Act) (w : World),
   (∀ j oj, ops[j]? = some oj → j ≠ i → listed.getD j true = false → (∀ e ∈ oj.after, Region.binds md e = true → e.on ≠ i) → oi.apart ops oj = true) →
   i ∈ Region.ready md ops listed → YieldsIf P ops (fun _ => True) oi v a → Till k S listed w →
   wpAnyL P md ops Q k S fuel (listed.setIfInBounds i true) (a.put oi.dst v) w → wpAnyL P md ops Q k S (fuel + 1) listed a w := by
 intro fuel
 induction fuel with
 | zero =>
  intro listed a w _ hr hy hS H
  refine ⟨fun h => (by rw [h] at hr; cases hr), fun j hj => ?_⟩
  by_cases hji : j = i
  ·
   subst hji; exact hy.wpOp hi trivial ⟨till_of hki hS, H⟩
  ·
   have := ready_mono hj hji
   rw [H.1] at this
   cases this
 | succ fuel ih =>
  intro listed a w hfree hr hy hS H
  refine ⟨fun h => (by rw [h] at hr; cases hr), fun j hj => ?_⟩
  by_cases hji : j = i
  ·
   subst hji; exact hy.wpOp hi trivial ⟨till_of hki hS, H⟩
  ·
   have h1 := H.2 j (ready_mono hj hji)
   obtain ⟨hjun, oj, hoj, hall⟩ := mem_ready.1 hj
   have hnot : ∀ e ∈ oj.after, Region.binds md e = true → e.on ≠ i := fun e he hb heq => by
    have h1 := hall e he hb
    have h0 := (mem_ready.1 hr).1
    rw [heq] at h1
    rcases Nat.lt_or_ge i listed.size with h' | h'
    ·
     simp [h'] at h0 h1; rw [h0] at h1; cases h1
    ·
     simp [Array.getElem?_eq_none h'] at h1
   have h2 := wpOp_putIf hoj (hfree j oj hoj hji hjun hnot) (fun cs b => hsel i oi cs b hi) (fun cs b => hsel j oj cs b hoj) hQ hy h1
   have hfree' : ∀ k ok, ops[k]? = some ok → k ≠ i → (listed.setIfInBounds j true).getD k true = false →
     (∀ e ∈ ok.after, Region.binds md e = true → e.on ≠ i) → oi.apart ops ok = true := fun k ok hk hki hun hno => by
    refine hfree k ok hk hki ?_ hno
    by_cases hjk : j = k
    ·
     subst hjk; exact hjun
    ·
     rw [getD_set_ne true hjk] at hun; exact hun
   refine wpOp_mono (fun a' w' h3 => ?_) h2
   have hS' : Till k S (listed.setIfInBounds j true) w' := by
    have := h3.2.1
    rw [Array.setIfInBounds_comm _ _ (Ne.symm hji)] at this
    exact till_set hki this
   refine ⟨hS', ih (listed.setIfInBounds j true) a' w' hfree' (ready_mono hr (Ne.symm hji)) h3.1 hS' ?_⟩
   rw [Array.setIfInBounds_comm _ _ hji]
   exact h3.2.2
/-! the moves of a walk -/
theorem wp_region_L {id : Nat} {a : Act} {w : World} (k : Nat) (S : World → Prop) (hm : P.follows .mixedOrders = true) (hS : S w.drew)
  (h : S w.drew → wpAnyL P .any ops Q k S ops.size (Array.replicate ops.size false) a w.drew) : (Code.region id ops true).wp P Q a w :=
 wp_region_any hm (wpAny_of_L _ _ _ _ (h hS))
theorem wpAnyL_load {i : Nat} {oi ok : Oper} {v : Value} {fuel : Nat} {listed : Array Bool} {a : Act} {w : World} (hi : ops[i]? = some oi)
  (hs : Region.noSelect ops = true) (hf : Region.free md ops listed i = true) (hr : (Region.ready md ops listed).contains i = true)
  (hQ : ∀ c a w, Q (.panic c) (a.put oi.dst v) w → Q (.panic c) a w) (hk : ops[k]? = some ok) (hdep : (ok.after.any fun e => Region.binds md e && e.on == i) = true) (hki : k ≠ i) (hkl : listed.getD k true = false)
  (hy : YieldsIf P ops S oi v a) (hS : S w)
  (h : wpAnyL P md ops Q k S fuel (listed.setIfInBounds i true) (a.put oi.dst v) w) : wpAnyL P md ops Q k S (fuel + 1) listed a w :=
 wpAnyL_first hi (Region.noSelect_spec hs) hQ hk (by
  rw [Array.any_eq_true] at hdep
  obtain ⟨n, hn, he⟩ := hdep
  rw [Bool.and_eq_true] at he
  exact ⟨ok.after[n], Array.getElem_mem hn, he.1, by simpa using he.2⟩) hki fuel listed a w (Region.free_spec hi hf) (by simpa using hr) hkl hy hS h
theorem wpAnyL_pure {i : Nat} {oi : Oper} {v : Value} {fuel : Nat} {listed : Array Bool} {a : Act} {w : World} (hi : ops[i]? = some oi)
  (hs : Region.noSelect ops = true) (hf : Region.free md ops listed i = true) (hr : (Region.ready md ops listed).contains i = true)
  (hQ : ∀ c a w, Q (.panic c) (a.put oi.dst v) w → Q (.panic c) a w) (hki : k ≠ i)
  (hy : YieldsIf P ops (fun _ => True) oi v a) (hS : Till k S listed w)
  (h : wpAnyL P md ops Q k S fuel (listed.setIfInBounds i true) (a.put oi.dst v) w) : wpAnyL P md ops Q k S (fuel + 1) listed a w :=
 wpAnyL_any hi (Region.noSelect_spec hs) hQ hki fuel listed a w (Region.free_spec hi hf) (by simpa using hr) hy hS h
theorem wpAnyL_done {listed : Array Bool} {a : Act} {w : World} (hr : Region.ready md ops listed = []) (h : Q .normal a w) : ∀ fuel, wpAnyL P md ops Q k S fuel listed a w
 | 0 => ⟨hr, h⟩
 | _ + 1 => ⟨fun _ => h, by rw [hr]; simp⟩
def AllReadyL (P : Program) (md : Region.Mode) (ops : Array Oper) (Q : Exit → Act → World → Prop) (k : Nat) (S : World → Prop) (fuel : Nat) (listed : Array Bool) (a : Act) (w : World) (rs : List Nat) : Prop :=
 ∀ i ∈ rs, wpOp P ops Q i (fun a' w' => Till k S (listed.setIfInBounds i true) w' ∧ wpAnyL P md ops Q k S fuel (listed.setIfInBounds i true) a' w') a w
theorem AllReadyL.nil {fuel : Nat} {listed : Array Bool} {a : Act} {w : World} : AllReadyL P md ops Q k S fuel listed a w [] := fun _ h => by cases h
theorem AllReadyL.cons {fuel : Nat} {listed : Array Bool} {a : Act} {w : World} {i : Nat} {o : Oper} {rs : List Nat} (ho : ops[i]? = some o)
  (h : ∀ K' : Act → World → Prop, Shut (∀ a w, Till k S (listed.setIfInBounds i true) w → (Till k S (listed.setIfInBounds i true) w → wpAnyL P md ops Q k S fuel (listed.setIfInBounds i true) a w) → K' a w) → if Region.wanted o (yielded ops a.tmps) = true then Oper.wp P o a w K' Q else K' (a.put o.dst undef) w)
  (hs : AllReadyL P md ops Q k S fuel listed a w rs) : AllReadyL P md ops Q k S fuel listed a w (i :: rs) := fun j hj => by
 rcases List.mem_cons.1 hj with rfl | hj
 ·
  exact wpOp_step ho (fun K' hK => h K' (fun a w hS hW => hK a w ⟨hS, hW hS⟩))
 ·
  exact hs j hj
theorem wpAnyL_ready {rs : List Nat} {fuel : Nat} {listed : Array Bool} {a : Act} {w : World} (hr : Region.ready md ops listed = rs) (hne : rs ≠ [])
  (h : AllReadyL P md ops Q k S fuel listed a w rs) : wpAnyL P md ops Q k S (fuel + 1) listed a w := ⟨fun h0 => absurd (hr ▸ h0) hne, hr ▸ h⟩
end
end Go.Proofs.YtcelbkmnbjcjhaaGreat
namespace Go.Proofs.YtcelbkmnbjcjhaaGreat

theorem wpAnyH_sub {P : Program} {md : Region.Mode} {ops : Array Oper} {Q : Exit → Act → World → Prop} {S1 S2 : World → Prop} (h : ∀ w, S2 w → S1 w) :
  ∀ (fuel : Nat) (listed : Array Bool) (a : Act) (w : World), wpAnyH P md ops Q S2 fuel listed a w → wpAnyH P md ops Q S1 fuel listed a w
 | 0, _, _, _, hw => hw
 | n + 1, _, _, _, ⟨h0, h1⟩ => ⟨h0, fun i hi => wpOp_mono (fun a w ⟨hs, hw⟩ => ⟨h w hs, wpAnyH_sub h n _ a w hw⟩) (h1 i hi)⟩
end Go.Proofs.YtcelbkmnbjcjhaaGreat
