/- Lines of a text: plain mathematics, and the library's Split, LastIndex, HasSuffix in these words. -/
import Derived.Test.YteajdbnongpkfaaDoorDigs
import Derived.Lib.SplitLaws
import Derived.Lib.LastIndexByte
import Derived.Lib.Strings
namespace Go.Proofs.YteajdbnongpkfaaDoor
open Go.RowKit

/-- the lines that end among the first k bytes, and where the last one begins. -/
def lfs (s : ByteArray) : Nat → List ByteArray × Nat
  | 0 => ([], 0)
  | k + 1 => if byteAt s k = 10 then ((lfs s k).1 ++ [s.extract (lfs s k).2 k], k + 1) else lfs s k
/-- all lines, the last one without a line feed. -/
def lns (s : ByteArray) : List ByteArray := (lfs s s.size).1 ++ [s.extract (lfs s s.size).2 s.size]
theorem lfs_bd (s : ByteArray) (k : Nat) : (lfs s k).1.length ≤ k ∧ (lfs s k).2 ≤ k := by
  induction k with
  | zero => simp [lfs]
  | succ k ih =>
    simp only [lfs]
    split
    · simp; omega
    · omega
theorem lfs_hit {s : ByteArray} {k : Nat} (h : byteAt s k = 10) : lfs s (k + 1) = ((lfs s k).1 ++ [s.extract (lfs s k).2 k], k + 1) := by simp only [lfs]; rw [if_pos h]
theorem lfs_miss {s : ByteArray} {k : Nat} (h : byteAt s k ≠ 10) : lfs s (k + 1) = lfs s k := by simp only [lfs]; rw [if_neg h]
theorem lfs_end (s : ByteArray) (k : Nat) : (lfs s k).2 = k ↔ k = 0 ∨ byteAt s (k - 1) = 10 := by
  cases k with
  | zero => simp [lfs]
  | succ k =>
    have := lfs_bd s k
    by_cases h : byteAt s k = 10
    · rw [lfs_hit h]; simp [h]
    · rw [lfs_miss h]; simp [h]; omega
theorem lfs_none (s : ByteArray) (k : Nat) : ∀ j, (lfs s k).2 ≤ j → j < k → byteAt s j ≠ 10 := by
  induction k with
  | zero => omega
  | succ k ih =>
    intro j h1 h2
    by_cases h : byteAt s k = 10
    · rw [lfs_hit h] at h1; simp at h1; omega
    · rw [lfs_miss h] at h1
      by_cases e : j = k
      · subst e; exact h
      · exact ih j h1 (by omega)

def cutL : List UInt8 → List (List UInt8)
  | [] => [[]]
  | b :: l => if b = 10 then [] :: cutL l else match cutL l with
    | [] => [[b]]
    | h :: t => (b :: h) :: t
theorem cutL_ne (b : UInt8) (l h : List UInt8) (t : List (List UInt8)) (hb : b ≠ 10) (e : cutL l = h :: t) : cutL (b :: l) = (b :: h) :: t := by
  rw [cutL, if_neg hb, e]
theorem cutL_miss : ∀ l : List UInt8, (∀ j : Nat, l[j]? ≠ some 10) → cutL l = [l]
  | [], _ => rfl
  | b :: l, h => by
    have hb : b ≠ 10 := fun e => h 0 (by simp [e])
    exact cutL_ne b l l [] hb (cutL_miss l fun j => by have := h (j + 1); simpa using this)
theorem cutL_hit : ∀ (i : Nat) (l : List UInt8), (∀ j, j < i → l[j]? ≠ some 10) → l[i]? = some 10 → cutL l = l.take i :: cutL (l.drop (i + 1))
  | _, [], _, h => by simp at h
  | 0, b :: l, _, h => by
    have hb : b = 10 := by simpa using h
    rw [cutL, if_pos hb]; simp
  | i + 1, b :: l, h, hi => by
    have hb : b ≠ 10 := fun e => h 0 (by omega) (by simp [e])
    have ih := cutL_hit i l (fun j hj => by have := h (j + 1) (by omega); simpa using this) (by simpa using hi)
    rw [cutL_ne b l _ _ hb ih]; simp
theorem splitK_cut : ∀ (l : List UInt8) (k : Nat), l.count 10 ≤ k → Lib.splitK [10] 0 k l = cutL l
  | [], 0, _ => rfl
  | [], k + 1, _ => by simp [Lib.splitK, Lib.index, cutL]
  | b :: l, k, h => by
    by_cases hb : b = 10
    · subst hb
      rw [List.count_cons_self] at h
      obtain ⟨k, rfl⟩ : ∃ m, k = m + 1 := ⟨k - 1, by omega⟩
      have hix : Lib.index (10 :: l) [10] = 0 := by rw [Lib.index]; simp [List.isPrefixOf]
      rw [Lib.splitK, hix]
      simp only [cutL]
      simp [splitK_cut l k (by omega)]
    · rw [List.count_cons_of_ne (by simpa using hb)] at h
      have ih := splitK_cut l k h
      have hp : ([10] : List UInt8).isPrefixOf (b :: l) = false := by simp [List.isPrefixOf, Ne.symm hb]
      have hix : Lib.index (b :: l) [10] = if Lib.index l [10] == -1 then -1 else Lib.index l [10] + 1 := by rw [Lib.index, hp]; simp
      cases k with
      | zero => exact (cutL_ne b l _ _ hb ih.symm).symm
      | succ k =>
        by_cases hm : Lib.index l [10] = -1
        · rw [Lib.splitK, if_pos (by simp [hm])] at ih
          rw [Lib.splitK, if_pos (by rw [hix]; simp [hm])]
          exact (cutL_ne b l _ _ hb ih.symm).symm
        · have hge := Lib.index_ge l [10]
          obtain ⟨j, hj⟩ : ∃ j : Nat, Lib.index l [10] = j := ⟨(Lib.index l [10]).toNat, by omega⟩
          have hm' : ¬ (Lib.index l [10] == -1) = true := fun e => hm (beq_iff_eq.1 e)
          rw [Lib.splitK, if_neg hm', hj] at ih
          have hix' : Lib.index (b :: l) [10] = ((j + 1 : Nat) : Int) := by rw [hix, if_neg hm', hj]; omega
          have hm2 : ¬ (Lib.index (b :: l) [10] == -1) = true := fun e => by have := beq_iff_eq.1 e; omega
          rw [Lib.splitK, if_neg hm2, hix', cutL_ne b l _ _ hb ih.symm]
          simp

theorem byteAt_get (s : ByteArray) (k : Nat) : byteAt s k = 10 ↔ s.data.toList[k]? = some 10 := by
  unfold byteAt
  by_cases h : k < s.size
  · rw [dif_pos h]
    have e : s.data.toList[k]? = some s[k] := by
      rw [Array.getElem?_toList, Array.getElem?_eq_getElem (show k < s.data.size from h)]; rfl
    rw [e]
    constructor
    · intro h2; congr 1; apply UInt8.toNat_inj.1; have : s[k].toNat = 10 := by omega
      rw [this]; rfl
    · intro h2; have := Option.some.inj h2; rw [this]; rfl
  · rw [dif_neg h]
    have e : s.data.toList[k]? = none := by rw [Array.getElem?_toList]; exact Array.getElem?_eq_none (Nat.le_of_not_lt h)
    rw [e]; simp
theorem lfs_cut (s : ByteArray) : ∀ k, k ≤ s.size → cutL s.data.toList = (lfs s k).1.map (·.data.toList) ++ cutL (s.data.toList.drop (lfs s k).2)
  | 0, _ => by simp [lfs]
  | k + 1, hk => by
    have ih := lfs_cut s k (by omega)
    have hn := lfs_none s k
    have hb := (lfs_bd s k).2
    by_cases h : byteAt s k = 10
    · have hh := cutL_hit (k - (lfs s k).2) (s.data.toList.drop (lfs s k).2) (fun j hj => by
        rw [List.getElem?_drop]; intro e; exact hn _ (by omega) (by omega) ((byteAt_get s _).2 e)) (by
        rw [List.getElem?_drop, show (lfs s k).2 + (k - (lfs s k).2) = k by omega]; exact (byteAt_get s k).1 h)
      rw [lfs_hit h, ih, hh]
      simp only [List.map_append, List.map_cons, List.map_nil, List.append_assoc, List.singleton_append]
      congr 2
      · rw [Lib.extract_data]
      · rw [List.drop_drop, show (lfs s k).2 + (k - (lfs s k).2 + 1) = k + 1 by omega]
    · rw [lfs_miss h]; exact ih
theorem lns_cut (s : ByteArray) : cutL s.data.toList = (lns s).map (·.data.toList) := by
  have hn := lfs_none s s.size
  have h := cutL_miss (s.data.toList.drop (lfs s s.size).2) (fun j e => by
    rw [List.getElem?_drop] at e
    have hlt : (lfs s s.size).2 + j < s.size := by
      have := (List.getElem?_eq_some_iff.1 e).1; rw [← Lib.size_eq] at this; exact this
    exact hn _ (by omega) hlt ((byteAt_get s _).2 e))
  rw [lfs_cut s s.size (Nat.le_refl _), h]
  unfold lns
  simp only [List.map_append, List.map_cons, List.map_nil]
  congr 2
  rw [Lib.extract_to_end]
theorem data_inj {a b : ByteArray} (h : a.data.toList = b.data.toList) : a = b := by
  obtain ⟨⟨a⟩⟩ := a; obtain ⟨⟨b⟩⟩ := b; simp at h; rw [h]
theorem map_inj : ∀ {a b : List ByteArray}, a.map (·.data.toList) = b.map (·.data.toList) → a = b
  | [], [], _ => rfl
  | [], _ :: _, h => by simp at h
  | _ :: _, [], h => by simp at h
  | x :: a, y :: b, h => by
    simp only [List.map_cons, List.cons.injEq] at h
    rw [data_inj h.1, map_inj h.2]
/-- the library's Split at a line feed tells these lines. -/
theorem split_lns (s : ByteArray) : Lib.splitB ⟨#[10]⟩ 0 (Lib.countB s ⟨#[10]⟩) s = lns s := by
  apply map_inj
  rw [Lib.splitB_data, ← lns_cut]
  exact splitK_cut _ _ (by unfold Lib.countB; exact Nat.le_of_eq (Lib.count_one 10 _).symm)
theorem lns_length (s : ByteArray) : Lib.countB s ⟨#[10]⟩ = (lfs s s.size).1.length := by
  have h := Lib.splitB_all ⟨#[10]⟩ (by decide) 0 _ s rfl
  rw [split_lns] at h
  simp [lns] at h
  omega

/-- a line that may stand in a journal. -/
def lineB (t : ByteArray) : Bool := decide (t.size ≤ 2000 ∧ ∀ k, k < t.size → 32 ≤ byteAt t k ∧ byteAt t k ≤ 126)
theorem lineB_empty (t : ByteArray) (h : t.size = 0) : lineB t = true := decide_eq_true ⟨by omega, fun k hk => by omega⟩
theorem lineB_no {t : ByteArray} {k : Nat} (hk : k < t.size) (h : byteAt t k < 32 ∨ 126 < byteAt t k) : lineB t = false := decide_eq_false fun hn => by have := hn.2 k hk; omega
theorem lineB_all {t : ByteArray} (h : ∀ k, k < t.size → 32 ≤ byteAt t k ∧ byteAt t k ≤ 126) : lineB t = decide (t.size ≤ 2000) := by
  unfold lineB
  by_cases g : t.size ≤ 2000
  · rw [decide_eq_true g, decide_eq_true ⟨g, h⟩]
  · rw [decide_eq_false g, decide_eq_false fun hn => g hn.1]
/-- a right journal. -/
def inB (s : ByteArray) (y : Int) : Bool := decide (s.size ≤ 8000 ∧ 0 ≤ y ∧ y ≤ s.size)
def jB (s : ByteArray) (y : Int) : Bool := inB s y && (decide ((lfs s s.size).2 = s.size) && (lfs s s.size).1.all lineB)
theorem jB_in {s : ByteArray} {y : Int} (h : jB s y = true) : s.size ≤ 8000 ∧ 0 ≤ y ∧ y ≤ s.size := by
  unfold jB at h; rw [Bool.and_eq_true] at h; exact of_decide_eq_true h.1

theorem suffix_end (s : ByteArray) (h : 1 ≤ s.size) : Lib.hasSuffix s.data.toList [10] = decide ((lfs s s.size).2 = s.size) := by
  rw [Bool.eq_iff_iff, decide_eq_true_iff, lfs_end]
  unfold Lib.hasSuffix
  rw [List.isSuffixOf_iff_suffix]
  have hl : s.data.toList.length = s.size := (Lib.size_eq s).symm
  constructor
  · rintro ⟨t, ht⟩
    right
    rw [byteAt_get, ← ht]
    have : s.size - 1 = t.length := by rw [← hl, ← ht]; simp
    rw [this]; simp
  · rintro (h0 | h1)
    · omega
    · rw [byteAt_get] at h1
      refine ⟨s.data.toList.take (s.size - 1), ?_⟩
      have e := List.take_append_drop (s.size - 1) s.data.toList
      have hd : s.data.toList.drop (s.size - 1) = [10] := by
        rw [List.drop_eq_getElem?_toList_append, h1]
        simp [hl]; omega
      rw [hd] at e; exact e
theorem last_lfs (s : ByteArray) (n : Nat) (hn : n ≤ s.size) : ∀ k, k ≤ n → Lib.lastIdx (s.extract 0 n) 10 k + 1 = (lfs s k).2
  | 0, _ => rfl
  | k + 1, hk => by
    have ih := last_lfs s n hn k (by omega)
    have hk' : k < (s.extract 0 n).size := by rw [ByteArray.size_extract]; omega
    have e : (((s.extract 0 n).data[k]!).toNat : Int) = byteAt s k := by
      rw [← byteAt_eq s k (by omega), getElem!_pos _ k (by exact hk')]
      have := ByteArray.getElem_extract (b := s) (start := 0) (stop := n) (i := k) hk'
      simp only [Nat.zero_add] at this
      congr 2
    by_cases h : byteAt s k = 10
    · rw [Lib.lastIdx_hit _ _ _ (e.trans h), lfs_hit h]; rfl
    · rw [Lib.lastIdx_miss _ _ _ (by rw [e]; exact h), lfs_miss h]; exact ih
theorem last_of (s : ByteArray) (n : Nat) (hn : n ≤ s.size) : Lib.lastIndexByte (s.extract 0 n) 10 + 1 = (lfs s n).2 := by
  unfold Lib.lastIndexByte
  rw [show (s.extract 0 n).size = n by rw [ByteArray.size_extract]; omega]
  exact last_lfs s n hn n (Nat.le_refl _)
end Go.Proofs.YteajdbnongpkfaaDoor
