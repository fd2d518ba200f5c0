/- Packed: Abbr Abbr2 Tb1 Tb2 Tb3 Tb4 Tb5 Ts1 Ts2. -/
import Derived.Test.YtcelbkmnbjcjhaaGreatBaseAd
import Derived.Test.YtcelbkmnbjcjhaaGreatShelf
import Derived.Lib.Replace
import Derived.Test.YtcelbkmnbjcjhaaGreatRelAd
import Derived.Lib.MinMax
import Derived.Deep.RegionHeld3
import Derived.Laws.StructEq
import Derived.Lib.QuietBelow
namespace Go.Proofs.YtcelbkmnbjcjhaaGreat
open Go.RowKit

theorem ex_dataA (s : ByteArray) (a b : Nat) : (s.extract a b).data.toList = (s.data.toList.drop a).take (b - a) := by
 rw [ByteArray.data_extract]
 simp [List.take_drop]
theorem toList_dataA (s : ByteArray) : s.toList = s.data.toList := by rw [ByteArray.toList_eq]
theorem bytes_of {s : ByteArray} {l : List UInt8} (h : s.data.toList = l) : s = ⟨l.toArray⟩ := by
 subst h
 apply ByteArray.ext
 simp
theorem size_data (s : ByteArray) : s.data.toList.length = s.size := by rw [Array.length_toList]; rfl
/-- the format's part that a save takes. -/
def partL (d : List UInt8) (save : Int) : List UInt8 :=
 if 0 ≤ Lib.index d [47] then (if save = 0 then d.take (Lib.index d [47]).toNat else d.drop ((Lib.index d [47]).toNat + 1)) else d
/-- the letter in its place. -/
def abbrL (p l : List UInt8) : List UInt8 :=
 if 0 ≤ Lib.index p [37, 115] then p.take (Lib.index p [37, 115]).toNat ++ l ++ p.drop ((Lib.index p [37, 115]).toNat + 2) else p
theorem part_no {d : List UInt8} {save : Int} (h : Lib.index d [47] = -1) : partL d save = d := by unfold partL; rw [if_neg (by omega)]
theorem part_0 {d : List UInt8} {i : Nat} (h : Lib.index d [47] = i) : partL d 0 = d.take i := by unfold partL; rw [if_pos (by omega), if_pos rfl, h]; simp
theorem part_1 {d : List UInt8} {save : Int} {i : Nat} (h : Lib.index d [47] = i) (hs : save ≠ 0) : partL d save = d.drop (i + 1) := by unfold partL; rw [if_pos (by omega), if_neg hs, h]; simp
theorem abbr_no {p l : List UInt8} (h : Lib.index p [37, 115] = -1) : abbrL p l = p := by unfold abbrL; rw [if_neg (by omega)]
theorem abbr_at {p l : List UInt8} {i : Nat} (h : Lib.index p [37, 115] = i) : abbrL p l = p.take i ++ l ++ p.drop (i + 2) := by unfold abbrL; rw [if_pos (by omega), h]; simp
theorem part_len (d : List UInt8) (save : Int) : (partL d save).length ≤ d.length := by
 unfold partL
 split
 ·
  split
  ·
   rw [List.length_take]; omega
  ·
   rw [List.length_drop]; omega
 ·
  exact Nat.le_refl _
set_option maxHeartbeats 1000000 in
theorem spec_l03Index (s sub : ByteArray) (w : World) (hs : s.size ≤ 8000) (h1 : 1 ≤ sub.size) (h2 : sub.size ≤ 2) :
  Calls Tryz.prog 109 #[.string s, .string sub] w fun e w' => e = .returned (.int .i64 (Lib.index s.data.toList sub.data.toList)) ∧ w' = w := by
 have HH : Hid (∀ k : Nat, Lib.NoOcc s.data.toList sub.data.toList k → k + sub.size ≤ s.size → (s.extract k (k + sub.size)).toList == sub.toList → Lib.index s.data.toList sub.data.toList = k) := fun k hn hk he => by
  refine Lib.index_hit hn (by rw [size_data]; omega) ?_
  rw [Lib.occAt_iff_take _ _ _ (by rw [size_data, size_data]; exact hk), size_data]
  rw [toList_dataA, toList_dataA, ex_dataA, show k + sub.size - k = sub.size by omega] at he
  exact he
 have HM : Hid (∀ k : Nat, Lib.NoOcc s.data.toList sub.data.toList k → k + sub.size ≤ s.size → ((s.extract k (k + sub.size)).toList == sub.toList) = false → Lib.NoOcc s.data.toList sub.data.toList (k + 1)) := fun k hn hk he => by
  refine hn.succ ?_
  rw [Lib.occAt_iff_take _ _ _ (by rw [size_data, size_data]; exact hk), size_data]
  rw [toList_dataA, toList_dataA, ex_dataA, show k + sub.size - k = sub.size by omega] at he
  exact he
 have HP : Hid (∀ k : Nat, Lib.NoOcc s.data.toList sub.data.toList k → s.size < k + sub.size → Lib.index s.data.toList sub.data.toList = -1) := fun k hn hk => by
  refine Lib.index_past (fun e => ?_) hn (by rw [size_data, size_data]; exact hk)
  have := size_data sub
  rw [e] at this
  simp at this
  omega
 have H0 : Hid (Lib.NoOcc s.data.toList sub.data.toList 0) := Lib.NoOcc.zero _ _
 generalize Lib.index s.data.toList sub.data.toList = ix at *
 go_enter Tryz.func109, Tryz.ntmps109
 go_wp2
 go_loop [5] (fun i => ∃ k : Nat, k ≤ s.size + 1 ∧ i = .int .i64 k ∧ Hid (Lib.NoOcc s.data.toList sub.data.toList k)) (fun i => s.size + 1 - (intOf i).toNat)
 case atStart => exact ⟨0, by omega, rfl, H0⟩
 case round =>
  obtain ⟨k, hk, rfl, hn⟩ := hrel
  by_cases hlt : k + sub.size ≤ s.size
  ·
   cases hb : ((s.extract k (k + sub.size)).toList == sub.toList)
   ·
    have HR : Hid (Lib.NoOcc s.data.toList sub.data.toList (k + 1)) := HM.out k hn.out hlt hb
    go_wp2
    go_round
    case rel => exact ⟨k + 1, by omega, by go_num, HR⟩
    case measure => simp [intOf]; omega
   ·
    have HR : Hid (ix = k) := HH.out k hn.out hlt hb
    go_wp2
    go_ret
    exact ⟨ret_int HR.out.symm, rfl⟩
  ·
   have HR : Hid (ix = -1) := HP.out k hn.out (by omega)
   go_wp2
   go_ret
   exact ⟨ret_int HR.out.symm, rfl⟩
end Go.Proofs.YtcelbkmnbjcjhaaGreat
namespace Go.Proofs.YtcelbkmnbjcjhaaGreat
open Go.RowKit

theorem ret_str {a b : ByteArray} (h : a = b) : Ending.returned (.string a) = .returned (.string b) := by rw [h]
/-- the abbreviation. -/
def abbrD (f l : ByteArray) (save : Int) : ByteArray := if f.size ≤ 8000 ∧ l.size ≤ 8000 then ⟨(abbrL (partL f.data.toList save) l.data.toList).toArray⟩ else ⟨#[]⟩
theorem abbrD_yes {f l : ByteArray} {save : Int} (h : f.size ≤ 8000 ∧ l.size ≤ 8000) : abbrD f l save = ⟨(abbrL (partL f.data.toList save) l.data.toList).toArray⟩ := if_pos h
set_option maxHeartbeats 2000000 in
theorem spec_l03Abbr (f l : ByteArray) (save : Int) (w : World) (hf : f.size ≤ 8000) (hl : l.size ≤ 8000) :
  Calls Tryz.prog 99 #[.string f, .string l, .int .i64 save] w fun e w' => e = .returned (.string ⟨(abbrL (partL f.data.toList save) l.data.toList).toArray⟩) ∧ ∃ n, w' = w.drewN n := by
 have hI := fun w => spec_l03Index f ⟨#[47]⟩ w hf (by decide) (by decide)
 have hplen := part_len f.data.toList save
 rw [size_data] at hplen
 rcases Lib.index_spec f.data.toList [47] with ⟨e1, _⟩ | ⟨i, e1, hi, ho1, _⟩
 ·
  have hq : f.data.toList = partL f.data.toList save := (part_no e1).symm
  rw [show (ByteArray.mk #[47]).data.toList = [47] from rfl, e1] at hI
  have hJ := fun w => spec_l03Index f ⟨#[37, 115]⟩ w hf (by decide) (by decide)
  rw [show (ByteArray.mk #[37, 115]).data.toList = [37, 115] from rfl] at hJ
  generalize hqq : partL f.data.toList save = q at *
  clear hqq hplen e1
  obtain ⟨p, rfl⟩ : ∃ p : ByteArray, p = f := ⟨f, rfl⟩
  go_enter Tryz.func99, Tryz.ntmps99
  go_wp2_with fail
  refine (hI _).mono ?_
  rintro e w' ⟨rfl, rfl⟩
  go_wp2_with fail
  rcases Lib.index_spec p.data.toList [37, 115] with ⟨e2, _⟩ | ⟨j, e2, hj, ho, _⟩
  ·
   rw [e2] at hJ
   have HR : Hid (({ data := (abbrL q l.data.toList).toArray } : ByteArray) = p) := by simp only [Hid]; rw [← hq, abbr_no e2]
   refine (hJ _).mono ?_
   rintro e w' ⟨rfl, rfl⟩
   go_wp2
   go_ret
   exact ⟨ret_str HR.out.symm, 0, rfl⟩
  ·
   rw [e2] at hJ
   have hroom : j + 2 ≤ p.size := by
    rcases Lib.occAt_room ho with h | h
    ·
     rw [size_data] at h; simpa using h
    ·
     cases h
   have i0 : (0 : Int) ≤ (j : Int) := by omega
   have i1 : (j : Int) ≤ (p.size : Int) := by omega
   have i2 : (j : Int) + 2 ≤ (p.size : Int) := by omega
   have HR : Hid (({ data := (abbrL q l.data.toList).toArray } : ByteArray) = p.extract 0 j ++ l ++ p.extract (j + 2) p.size) := by
    simp only [Hid]
    rw [← hq, abbr_at e2]
    symm
    apply bytes_of
    simp only [ByteArray.data_append, Array.toList_append, ex_dataA, List.drop_zero, Nat.sub_zero]
    rw [List.take_of_length_le (l := p.data.toList.drop (j + 2)) (by rw [List.length_drop, size_data]; omega)]
   clear hj ho e2
   refine (hJ _).mono ?_
   rintro e w' ⟨rfl, rfl⟩
   go_wp2_with fail
   go_quiet (fail)
   go_wp2
   go_ret
   exact ⟨ret_str HR.out.symm, _, rfl⟩
 ·
  rw [size_data] at hi
  rw [show (ByteArray.mk #[47]).data.toList = [47] from rfl, e1] at hI
  have hroom : i + 1 ≤ f.size := by
   rcases Lib.occAt_room ho1 with h | h
   ·
    rw [size_data] at h; simpa using h
   ·
    cases h
  have j0 : (0 : Int) ≤ (i : Int) := by omega
  have j1 : (i : Int) + 1 ≤ (f.size : Int) := by omega
  by_cases hs : save = 0
  ·
   subst hs
   have hq : (f.extract 0 i).data.toList = partL f.data.toList 0 := by rw [part_0 e1, ex_dataA]; simp
   have hz : (f.extract 0 i).size ≤ 8000 := by rw [ByteArray.size_extract]; omega
   have hJ := fun w => spec_l03Index (f.extract 0 i) ⟨#[37, 115]⟩ w hz (by decide) (by decide)
   rw [show (ByteArray.mk #[37, 115]).data.toList = [37, 115] from rfl] at hJ
   generalize hqq : partL f.data.toList 0 = q at *
   clear hqq hplen e1 ho1
   go_enter Tryz.func99, Tryz.ntmps99
   go_wp2_with fail
   refine (hI _).mono ?_
   rintro e w' ⟨rfl, rfl⟩
   go_wp2_with fail
   generalize f.extract 0 i = p at *
   clear hI j0 j1 hroom hi
   rcases Lib.index_spec p.data.toList [37, 115] with ⟨e2, _⟩ | ⟨j, e2, hj, ho, _⟩
   ·
    rw [e2] at hJ
    have HR : Hid (({ data := (abbrL q l.data.toList).toArray } : ByteArray) = p) := by simp only [Hid]; rw [← hq, abbr_no e2]
    refine (hJ _).mono ?_
    rintro e w' ⟨rfl, rfl⟩
    go_wp2
    go_ret
    exact ⟨ret_str HR.out.symm, 0, rfl⟩
   ·
    rw [e2] at hJ
    have hroom : j + 2 ≤ p.size := by
     rcases Lib.occAt_room ho with h | h
     ·
      rw [size_data] at h; simpa using h
     ·
      cases h
    have i0 : (0 : Int) ≤ (j : Int) := by omega
    have i1 : (j : Int) ≤ (p.size : Int) := by omega
    have i2 : (j : Int) + 2 ≤ (p.size : Int) := by omega
    have HR : Hid (({ data := (abbrL q l.data.toList).toArray } : ByteArray) = p.extract 0 j ++ l ++ p.extract (j + 2) p.size) := by
     simp only [Hid]
     rw [← hq, abbr_at e2]
     symm
     apply bytes_of
     simp only [ByteArray.data_append, Array.toList_append, ex_dataA, List.drop_zero, Nat.sub_zero]
     rw [List.take_of_length_le (l := p.data.toList.drop (j + 2)) (by rw [List.length_drop, size_data]; omega)]
    clear hj ho e2
    refine (hJ _).mono ?_
    rintro e w' ⟨rfl, rfl⟩
    go_wp2_with fail
    go_quiet (fail)
    go_wp2
    go_ret
    exact ⟨ret_str HR.out.symm, _, rfl⟩
  ·
   have hq : (f.extract (i + 1) f.size).data.toList = partL f.data.toList save := by rw [part_1 e1 hs, ex_dataA, List.take_of_length_le (by rw [List.length_drop, size_data]; omega)]
   have hz : (f.extract (i + 1) f.size).size ≤ 8000 := by rw [ByteArray.size_extract]; omega
   have hJ := fun w => spec_l03Index (f.extract (i + 1) f.size) ⟨#[37, 115]⟩ w hz (by decide) (by decide)
   rw [show (ByteArray.mk #[37, 115]).data.toList = [37, 115] from rfl] at hJ
   generalize hqq : partL f.data.toList save = q at *
   have hs' : (save == 0) = false := by simpa using hs
   clear hqq hplen e1 ho1 hs
   go_enter Tryz.func99, Tryz.ntmps99
   go_wp2_with fail
   refine (hI _).mono ?_
   rintro e w' ⟨rfl, rfl⟩
   go_wp2_with fail
   generalize f.extract (i + 1) f.size = p at *
   clear hI j0 j1 hroom hi
   rcases Lib.index_spec p.data.toList [37, 115] with ⟨e2, _⟩ | ⟨j, e2, hj, ho, _⟩
   ·
    rw [e2] at hJ
    have HR : Hid (({ data := (abbrL q l.data.toList).toArray } : ByteArray) = p) := by simp only [Hid]; rw [← hq, abbr_no e2]
    refine (hJ _).mono ?_
    rintro e w' ⟨rfl, rfl⟩
    go_wp2
    go_ret
    exact ⟨ret_str HR.out.symm, 0, rfl⟩
   ·
    rw [e2] at hJ
    have hroom : j + 2 ≤ p.size := by
     rcases Lib.occAt_room ho with h | h
     ·
      rw [size_data] at h; simpa using h
     ·
      cases h
    have i0 : (0 : Int) ≤ (j : Int) := by omega
    have i1 : (j : Int) ≤ (p.size : Int) := by omega
    have i2 : (j : Int) + 2 ≤ (p.size : Int) := by omega
    have HR : Hid (({ data := (abbrL q l.data.toList).toArray } : ByteArray) = p.extract 0 j ++ l ++ p.extract (j + 2) p.size) := by
     simp only [Hid]
     rw [← hq, abbr_at e2]
     symm
     apply bytes_of
     simp only [ByteArray.data_append, Array.toList_append, ex_dataA, List.drop_zero, Nat.sub_zero]
     rw [List.take_of_length_le (l := p.data.toList.drop (j + 2)) (by rw [List.length_drop, size_data]; omega)]
    clear hj ho e2
    refine (hJ _).mono ?_
    rintro e w' ⟨rfl, rfl⟩
    go_wp2_with fail
    go_quiet (fail)
    go_wp2
    go_ret
    exact ⟨ret_str HR.out.symm, _, rfl⟩
end Go.Proofs.YtcelbkmnbjcjhaaGreat
namespace Go.Proofs.YtcelbkmnbjcjhaaGreat
open Go.RowKit

/-- the letter of the first that saves nothing. -/
def firstL : List HapD → ByteArray
 | [] => ⟨#[]⟩
 | h :: t => if h.save = 0 then h.letter else firstL t
theorem firstL_none {l : List HapD} (h : ∀ x ∈ l, x.save ≠ 0) : firstL l = ⟨#[]⟩ := by
 induction l with
 | nil => rfl
 | cons x l ih => rw [firstL, if_neg (h x (by simp))]; exact ih fun y hy => h y (List.mem_cons_of_mem _ hy)
theorem firstL_at {l : List HapD} {k : Nat} {x : HapD} (hx : l[k]? = some x) (h0 : x.save = 0) (hb : ∀ j y, j < k → l[j]? = some y → y.save ≠ 0) : firstL l = x.letter := by
 induction l generalizing k with
 | nil => simp at hx
 | cons a l ih =>
  cases k with
  | zero => simp at hx; subst hx; rw [firstL, if_pos h0]
  | succ k =>
   rw [firstL, if_neg (hb 0 a (by omega) (by simp))]
   exact ih (by simpa using hx) fun j y hj hy => hb (j + 1) y (by omega) (by simpa using hy)
/-- how many there are up to the last one that is no later than an instant. -/
def hcntK (H : List HapD) (t : Int) : Nat → Nat
 | 0 => 0
 | k + 1 => match H[k]? with
  | some h => if h.at_ ≤ t then k + 1 else hcntK H t k
  | none => hcntK H t k
def hcnt (H : List HapD) (t : Int) : Nat := hcntK H t H.length
theorem hcntK_step {H : List HapD} {t : Int} {k : Nat} {h : HapD} (hh : H[k]? = some h) (ht : t < h.at_) : hcntK H t (k + 1) = hcntK H t k := by rw [hcntK, hh]; simp only; rw [if_neg (by omega)]
theorem hcntK_hit {H : List HapD} {t : Int} {k : Nat} {h : HapD} (hh : H[k]? = some h) (ht : h.at_ ≤ t) : hcntK H t (k + 1) = k + 1 := by rw [hcntK, hh]; simp only; rw [if_pos ht]
theorem hcntK_le (H : List HapD) (t : Int) : ∀ k, hcntK H t k ≤ k := by
 intro k
 induction k with
 | zero => exact Nat.le_refl _
 | succ k ih =>
  rw [hcntK]
  split
  ·
   split <;> omega
  ·
   omega
theorem hcnt_le (H : List HapD) (t : Int) : hcnt H t ≤ H.length := hcntK_le H t _
theorem hcntK_up {H : List HapD} {t : Int} {n : Nat} : ∀ {k : Nat}, n ≤ k → (∀ i h, n ≤ i → i < k → H[i]? = some h → t < h.at_) → hcntK H t k = hcntK H t n := by
 intro k
 induction k with
 | zero => intro h _; rw [Nat.le_zero.mp h]
 | succ k ih =>
  intro hn h
  by_cases e : n = k + 1
  ·
   rw [e]
  ·
   rw [hcntK]
   split
   ·
    rename_i x hx
    rw [if_neg (by have := h k x (by omega) (by omega) hx; omega)]
    exact ih (by omega) fun i y h1 h2 h3 => h i y h1 (by omega) h3
   ·
    exact ih (by omega) fun i y h1 h2 h3 => h i y h1 (by omega) h3
theorem hcnt_one {H : List HapD} {t : Int} {n : Nat} (h1 : n ≤ H.length) (h2 : ∀ i h, n ≤ i → H[i]? = some h → t < h.at_) (h3 : ∀ m h, n = m + 1 → H[m]? = some h → h.at_ ≤ t) : hcnt H t = n := by
 unfold hcnt
 rw [hcntK_up h1 fun i h hi _ hh => h2 i h hi hh]
 cases n with
 | zero => rfl
 | succ m =>
  obtain ⟨x, hx⟩ : ∃ x, H[m]? = some x := ⟨_, List.getElem?_eq_getElem (by omega)⟩
  exact hcntK_hit hx (h3 m x rfl hx)
/-- what is in force. -/
def forceN (H : List HapD) : Nat → HapD
 | 0 => ⟨0, 0, firstL H⟩
 | m + 1 => H[m]?.getD ⟨0, 0, ⟨#[]⟩⟩
def forceE (e : EraD) (H : List HapD) (t : Int) : HapD := if e.rules.size = 0 then ⟨0, e.save, ⟨#[]⟩⟩ else forceN H (hcnt H t)
theorem forceE_no {e : EraD} {H : List HapD} {t : Int} (h : e.rules.size = 0) : forceE e H t = ⟨0, e.save, ⟨#[]⟩⟩ := if_pos h
theorem forceE_yes {e : EraD} {H : List HapD} {t : Int} (h : ¬ e.rules.size = 0) : forceE e H t = forceN H (hcnt H t) := if_neg h
/-- a turn of an era. -/
def madeE (e : EraD) (F : HapD) (t : Int) : TurnD := ⟨t, e.offset + F.save, F.save, abbrD e.format F.letter F.save⟩
def turnE (e : EraD) (H : List HapD) (t : Int) : TurnD := madeE e (forceE e H t) t
/-- where an era ends that is not the last one. -/
def endU (e : EraD) (H : List HapD) : Int := if e.of.toList == [115] then e.until_ - e.offset else if e.of.toList == [119] then e.until_ - e.offset - (forceE e H (e.until_ - e.offset - 1)).save else e.until_
def endE (e : EraD) (H : List HapD) (b : Int) : Int := max b (min (endU e H) 253402300799)
/-- like, but for the instant. -/
def likeT (y x : TurnD) : Bool := decide (y.offset = x.offset) && (decide (y.save = x.save) && (y.abbr.toList == x.abbr.toList))
def addT (T : List TurnD) (x : TurnD) : List TurnD := match T.getLast? with
 | some y => if likeT y x = true then T else T ++ [x]
 | none => T ++ [x]
theorem addT_like {T : List TurnD} {y x : TurnD} (h : T.getLast? = some y) (hl : likeT y x = true) : addT T x = T := by rw [addT, h]; simp only; rw [if_pos hl]
theorem addT_new {T : List TurnD} {y x : TurnD} (h : T.getLast? = some y) (hl : likeT y x = false) : addT T x = T ++ [x] := by rw [addT, h]; simp only; rw [if_neg (by rw [hl]; simp)]
theorem addT_len (T : List TurnD) (x : TurnD) : (addT T x).length ≤ T.length + 1 := by
 unfold addT
 split
 ·
  split
  ·
   omega
  ·
   simp
 ·
  simp
/-- turns at instants, one behind the other. -/
def foldT (f : Int → TurnD) (L : List Int) (T : List TurnD) : List TurnD := L.foldl (fun T t => addT T (f t)) T
theorem foldT_cons (f : Int → TurnD) (t : Int) (L : List Int) (T : List TurnD) : foldT f (t :: L) T = foldT f L (addT T (f t)) := rfl
theorem foldT_snoc (f : Int → TurnD) (t : Int) (L : List Int) (T : List TurnD) : foldT f (L ++ [t]) T = addT (foldT f L T) (f t) := by unfold foldT; rw [List.foldl_append]; rfl
theorem foldT_len (f : Int → TurnD) : ∀ (L : List Int) (T : List TurnD), (foldT f L T).length ≤ T.length + L.length := by
 intro L
 induction L with
 | nil => intro T; simp [foldT]
 | cons t L ih =>
  intro T
  rw [foldT_cons]
  have := ih (addT T (f t))
  have := addT_len T (f t)
  simp only [List.length_cons]
  omega
/-- an instant put among risen ones, once. -/
def insA : List Int → Int → List Int
 | [], n => [n]
 | a :: l, n => if a < n then a :: insA l n else if a = n then a :: l else n :: a :: l
theorem insA_mem {n t : Int} : ∀ {l : List Int}, t ∈ insA l n ↔ t ∈ l ∨ t = n := by
 intro l
 induction l with
 | nil => simp [insA]
 | cons a l ih =>
  rw [insA]
  split
  ·
   rw [List.mem_cons, ih, List.mem_cons, or_assoc]
  ·
   split
   ·
    rename_i h1 h2
    rw [List.mem_cons]
    constructor
    ·
     exact .inl
    ·
     rintro (e | e)
     ·
      exact e
     ·
      left; omega
   ·
    rw [List.mem_cons]
    constructor
    ·
     rintro (e | e)
     ·
      exact .inr e
     ·
      exact .inl e
    ·
     rintro (e | e)
     ·
      exact .inr e
     ·
      exact .inl e
theorem insA_up {n : Int} : ∀ {l : List Int}, l.Pairwise (· < ·) → (insA l n).Pairwise (· < ·) := by
 intro l
 induction l with
 | nil => intro _; simp [insA]
 | cons a l ih =>
  intro h
  have h' := List.pairwise_cons.mp h
  rw [insA]
  split
  ·
   rename_i ha
   refine List.pairwise_cons.mpr ⟨fun t ht => ?_, ih h'.2⟩
   rcases insA_mem.mp ht with e | e
   ·
    exact h'.1 t e
   ·
    omega
  ·
   split
   ·
    exact h
   ·
    rename_i h1 h2
    refine List.pairwise_cons.mpr ⟨fun t ht => ?_, h⟩
    rcases List.mem_cons.mp ht with e | e
    ·
     omega
    ·
     have := h'.1 t e; omega
def atsF (b : Int) (X : List Int) : List Int := X.foldl insA [b]
theorem ats_go {X A : List Int} (h : A.Pairwise (· < ·)) : (X.foldl insA A).Pairwise (· < ·) ∧ ∀ t, t ∈ X.foldl insA A ↔ t ∈ A ∨ t ∈ X := by
 induction X generalizing A with
 | nil => exact ⟨h, fun t => by simp⟩
 | cons x X ih =>
  obtain ⟨h1, h2⟩ := ih (insA_up (n := x) h)
  refine ⟨h1, fun t => ?_⟩
  rw [List.foldl_cons, h2 t, insA_mem, List.mem_cons, or_assoc]
theorem insA_len (l : List Int) (n : Int) : (insA l n).length ≤ l.length + 1 := by
 induction l with
 | nil => simp [insA]
 | cons a l ih =>
  rw [insA]
  split
  ·
   simp only [List.length_cons]; omega
  ·
   split <;> simp
theorem ats_len (b : Int) (X : List Int) : (atsF b X).length ≤ X.length + 1 := by
 unfold atsF
 have : ∀ (X A : List Int), (X.foldl insA A).length ≤ A.length + X.length := by
  intro X
  induction X with
  | nil => intro A; simp
  | cons x X ih => intro A; rw [List.foldl_cons]; have := ih (insA A x); have := insA_len A x; simp only [List.length_cons]; omega
 have := this X [b]
 simp at this
 omega
/-- the instants within an era at which something happens. -/
def inX (H : List HapD) (b e : Int) : List Int := (H.map HapD.at_).filter fun t => decide (b < t) && decide (t < e)
end Go.Proofs.YtcelbkmnbjcjhaaGreat
namespace Go.Proofs.YtcelbkmnbjcjhaaGreat
open Go.RowKit Go.Sort

/-- of each place the least instant from there on, or the last of all. -/
def sufM : List HapD → List Int
 | [] => []
 | h :: t => min ((sufM t).headD 253402300799) h.at_ :: sufM t
theorem sufM_len : ∀ H : List HapD, (sufM H).length = H.length
 | [] => rfl
 | h :: t => by rw [sufM, List.length_cons, List.length_cons, sufM_len t]
/-- the least from a place on. -/
def lowAt (E : List Int) (k : Nat) : Int := E[k]?.getD 253402300799
theorem lowAt_end {E : List Int} {k : Nat} (h : E.length ≤ k) : lowAt E k = 253402300799 := by unfold lowAt; rw [List.getElem?_eq_none h]; rfl
theorem lowAt_in {E : List Int} {k : Nat} {t : Int} (h : E[k]? = some t) : lowAt E k = t := by unfold lowAt; rw [h]; rfl
theorem sufM_at : ∀ {H : List HapD} {k : Nat} {h : HapD}, H[k]? = some h → (sufM H)[k]? = some (min (lowAt (sufM H) (k + 1)) h.at_)
 | [], k, h, hh => by simp at hh
 | a :: t, 0, h, hh => by
  simp at hh
  subst hh
  rw [sufM, List.getElem?_cons_zero]
  congr 2
  unfold lowAt
  rw [List.getElem?_cons_succ]
  cases sufM t <;> rfl
 | a :: t, k + 1, h, hh => by
  rw [List.getElem?_cons_succ] at hh
  rw [sufM, List.getElem?_cons_succ, sufM_at hh]
  congr 2
theorem low_step {H : List HapD} {k : Nat} (hk : k < H.length) : lowAt (sufM H) k ≤ lowAt (sufM H) (k + 1) := by
 obtain ⟨x, hx⟩ : ∃ x, H[k]? = some x := ⟨_, List.getElem?_eq_getElem hk⟩
 rw [lowAt_in (sufM_at hx)]
 omega
theorem low_mono {H : List HapD} {i : Nat} : ∀ {j : Nat}, i ≤ j → j ≤ H.length → lowAt (sufM H) i ≤ lowAt (sufM H) j := by
 intro j
 induction j with
 | zero => intro h _; rw [Nat.le_zero.mp h]; exact Int.le_refl _
 | succ j ih =>
  intro h hj
  by_cases e : i = j + 1
  ·
   rw [e]; exact Int.le_refl _
  ·
   have := ih (by omega) (by omega)
   have := low_step (H := H) (k := j) (by omega)
   omega
/-- where the least instants pass an instant is how many there are up to the last in force. -/
theorem low_cnt {H : List HapD} {t : Int} {m : Nat} (hH : ∀ h ∈ H, h.at_ ≤ 253402300799) (h1 : m ≤ H.length) (h2 : ∀ i, i < m → ¬ t < lowAt (sufM H) i) (h3 : ∀ i, m ≤ i → i < H.length → t < lowAt (sufM H) i) : hcnt H t = m := by
 refine hcnt_one h1 (fun i h hi hh => ?_) (fun k h e hh => ?_)
 ·
  have hil := (List.getElem?_eq_some_iff.mp hh).1
  have := h3 i hi hil
  rw [lowAt_in (sufM_at hh)] at this
  omega
 ·
  have hkl := (List.getElem?_eq_some_iff.mp hh).1
  have h4 := h2 k (by omega)
  rw [lowAt_in (sufM_at hh)] at h4
  have h5 := hH h (List.mem_of_getElem? hh)
  rcases Nat.lt_or_ge (k + 1) H.length with e1 | e1
  ·
   have := h3 (k + 1) (by omega) e1
   omega
  ·
   rw [lowAt_end (by rw [sufM_len]; exact e1)] at h4
   omega
/-- instants in memory. -/
def LowAt (w : World) (g : Nat) (E : List Int) (k : Nat) : Prop := ∀ i t, k ≤ i → E[i]? = some t → w.cell? ⟨g, i, none⟩ = some (.int .i64 t)
theorem LowAt.below {w w' : World} {g : Nat} {E : List Int} {k : Nat} (h : LowAt w g E k) (hb : Below w.heap.size w w') : LowAt w' g E k := fun i t hk hi => keepC hb (h i t hk hi)
theorem LowAt.set {w : World} {g m : Nat} {E : List Int} {k : Nat} {t : Int} (h : LowAt w g E (k + 1)) (hR : Room w g m) (hk : k < m) (ht : E[k]? = some t) : LowAt (w.setCell ⟨g, k, none⟩ (.int .i64 t)) g E k := fun i u hi hu => by
 by_cases e : i = k
 ·
  subst e
  rw [ht] at hu
  injection hu with hu
  subst hu
  obtain ⟨⟨v, hv⟩, _⟩ := hR i hk
  exact World.cell?_setCell_same _ _ _ hv
 ·
  rw [World.cell?_setCell_other _ _ _ _ (by simp)]
  exact h i u (by omega) hu
set_option maxRecDepth 100000 in
theorem infoI64 : ∃ i : TypeInfo, Tryz.prog.info? 2 = some i ∧ i.zero = some (.int .i64 0) ∧ i.size = 1 ∧ i.bytes = 8 := ⟨_, rfl, rfl, rfl, rfl⟩
end Go.Proofs.YtcelbkmnbjcjhaaGreat
namespace Go.Proofs.YtcelbkmnbjcjhaaGreat
open Go.RowKit Go.Sort

theorem set_three3 {w : World} {b : Nat} {x0 x1 x2 v0 v1 v2 : Value} (h0 : w.cell? ⟨b, 0, none⟩ = some x0) (h1 : w.cell? ⟨b, 1, none⟩ = some x1) (h2 : w.cell? ⟨b, 2, none⟩ = some x2) :
  (((w.setCell ⟨b, 0, none⟩ v0).setCell ⟨b, 1, none⟩ v1).setCell ⟨b, 2, none⟩ v2).cell? ⟨b, 0, none⟩ = some v0 ∧ (((w.setCell ⟨b, 0, none⟩ v0).setCell ⟨b, 1, none⟩ v1).setCell ⟨b, 2, none⟩ v2).cell? ⟨b, 1, none⟩ = some v1 ∧ (((w.setCell ⟨b, 0, none⟩ v0).setCell ⟨b, 1, none⟩ v1).setCell ⟨b, 2, none⟩ v2).cell? ⟨b, 2, none⟩ = some v2 := by
 refine ⟨?_, ?_, ?_⟩
 ·
  rw [World.cell?_setCell_other _ _ _ _ (by simp), World.cell?_setCell_other _ _ _ _ (by simp), World.cell?_setCell_same _ _ _ h0]
 ·
  rw [World.cell?_setCell_other _ _ _ _ (by simp)]
  refine World.cell?_setCell_same _ _ _ (u := x1) ?_
  rw [World.cell?_setCell_other _ _ _ _ (by simp)]; exact h1
 ·
  refine World.cell?_setCell_same _ _ _ (u := x2) ?_
  rw [World.cell?_setCell_other _ _ _ _ (by simp), World.cell?_setCell_other _ _ _ _ (by simp)]; exact h2
end Go.Proofs.YtcelbkmnbjcjhaaGreat
namespace Go.Proofs.YtcelbkmnbjcjhaaGreat
open Go.RowKit Go.Sort

/-- the blocks from one number up to another are as they were. -/
def Mid (n0 n1 : Nat) (w W : World) : Prop := ∀ b, n0 ≤ b → b < n1 → W.heap[b]? = w.heap[b]?
theorem Mid.refl (n0 n1 : Nat) (w : World) : Mid n0 n1 w w := fun _ _ _ => rfl
theorem Mid.trans {n0 n1 : Nat} {w W W' : World} (h : Mid n0 n1 w W) (h' : Mid n0 n1 W W') : Mid n0 n1 w W' := fun b h1 h2 => (h' b h1 h2).trans (h b h1 h2)
theorem Mid.of_below {n0 n1 : Nat} {w W : World} (h : Below w.heap.size w W) (hn : n1 ≤ w.heap.size) : Mid n0 n1 w W := fun b _ h2 => h.block b (by omega)
theorem Mid.cell {n0 n1 : Nat} {w W : World} (h : Mid n0 n1 w W) {b o : Nat} {v : Value} (h1 : n0 ≤ b) (h2 : b < n1) (hc : w.cell? ⟨b, o, none⟩ = some v) : W.cell? ⟨b, o, none⟩ = some v := (World.cell?_of_block (a := ⟨b, o, none⟩) (h b h1 h2)).trans hc
theorem SeqAt.mid {n0 n1 : Nat} {w W : World} {a : Option Addr} {q : Nat} {rows : List (List Value)} (h : SeqAt w a q rows) (hm : Mid n0 n1 w W) (ha : ∀ b o, a = some ⟨b, o, none⟩ → n0 ≤ b ∧ b < n1) : SeqAt W a q rows := by
 rcases h with h | ⟨b, o, rfl, h⟩
 ·
  exact .inl h
 ·
  obtain ⟨h1, h2⟩ := ha b o rfl
  exact .inr ⟨b, o, rfl, fun i j r c hi hj => hm.cell h1 h2 (h i j r c hi hj)⟩
end Go.Proofs.YtcelbkmnbjcjhaaGreat
namespace Go.Proofs.YtcelbkmnbjcjhaaGreat
open Go.RowKit Go.Sort

theorem set_fourB {w : World} {b : Nat} {x0 x1 x2 x3 v0 v1 v2 v3 : Value} (h0 : w.cell? ⟨b, 0, none⟩ = some x0) (h1 : w.cell? ⟨b, 1, none⟩ = some x1) (h2 : w.cell? ⟨b, 2, none⟩ = some x2) (h3 : w.cell? ⟨b, 3, none⟩ = some x3) :
  ((((w.setCell ⟨b, 0, none⟩ v0).setCell ⟨b, 1, none⟩ v1).setCell ⟨b, 2, none⟩ v2).setCell ⟨b, 3, none⟩ v3).cell? ⟨b, 0, none⟩ = some v0 ∧ ((((w.setCell ⟨b, 0, none⟩ v0).setCell ⟨b, 1, none⟩ v1).setCell ⟨b, 2, none⟩ v2).setCell ⟨b, 3, none⟩ v3).cell? ⟨b, 1, none⟩ = some v1 ∧ ((((w.setCell ⟨b, 0, none⟩ v0).setCell ⟨b, 1, none⟩ v1).setCell ⟨b, 2, none⟩ v2).setCell ⟨b, 3, none⟩ v3).cell? ⟨b, 2, none⟩ = some v2 ∧ ((((w.setCell ⟨b, 0, none⟩ v0).setCell ⟨b, 1, none⟩ v1).setCell ⟨b, 2, none⟩ v2).setCell ⟨b, 3, none⟩ v3).cell? ⟨b, 3, none⟩ = some v3 := by
 refine ⟨?_, ?_, ?_, ?_⟩
 ·
  rw [World.cell?_setCell_other _ _ _ _ (by simp), World.cell?_setCell_other _ _ _ _ (by simp), World.cell?_setCell_other _ _ _ _ (by simp), World.cell?_setCell_same _ _ _ h0]
 ·
  rw [World.cell?_setCell_other _ _ _ _ (by simp), World.cell?_setCell_other _ _ _ _ (by simp)]
  refine World.cell?_setCell_same _ _ _ (u := x1) ?_
  rw [World.cell?_setCell_other _ _ _ _ (by simp)]; exact h1
 ·
  rw [World.cell?_setCell_other _ _ _ _ (by simp)]
  refine World.cell?_setCell_same _ _ _ (u := x2) ?_
  rw [World.cell?_setCell_other _ _ _ _ (by simp), World.cell?_setCell_other _ _ _ _ (by simp)]; exact h2
 ·
  refine World.cell?_setCell_same _ _ _ (u := x3) ?_
  rw [World.cell?_setCell_other _ _ _ _ (by simp), World.cell?_setCell_other _ _ _ _ (by simp), World.cell?_setCell_other _ _ _ _ (by simp)]; exact h3
end Go.Proofs.YtcelbkmnbjcjhaaGreat
namespace Go.Proofs.YtcelbkmnbjcjhaaGreat
open Go.RowKit Go.Sort

set_option maxRecDepth 20000 in
set_option maxHeartbeats 4000000 in
theorem spec_l03Force (H : List HapD) (a : Option Addr) (ca : Nat) (t : Int) (w : World) (hA : SeqAt w a 3 (H.map HapD.cs)) (hl : H.length ≤ 2000) :
  Calls Tryz.prog 100 #[.slice a H.length ca, .int .i64 t] w fun e w' => e = .returned (forceN H (hcnt H t)).v ∧ Below w.heap.size w w' := by
 have HA : Hid (∀ (k : Nat) (x : HapD), H[k]? = some x → x.save = 0 → (∀ j y, j < k → H[j]? = some y → y.save ≠ 0) → firstL H = x.letter) := fun k x h1 h2 h3 => firstL_at h1 h2 h3
 have HN : Hid ((∀ j y, j < H.length → H[j]? = some y → y.save ≠ 0) → firstL H = ⟨#[]⟩) := fun h => firstL_none fun x hx => by
  obtain ⟨j, hj⟩ := List.getElem?_of_mem hx
  exact h j x (List.getElem?_eq_some_iff.mp hj).1 hj
 have hB0 := (Below.refl w.heap.size w).alloc (Nat.le_refl _) (.cells #[.int .i64 0, .int .i64 0, .string ⟨#[]⟩] 143)
 have hA0 := hA.below hB0
 have r0 : (w.alloc (.cells #[.int .i64 0, .int .i64 0, .string ⟨#[]⟩] 143)).cell? ⟨w.heap.size, 0, none⟩ = some (.int .i64 0) := by simp [go_sem]
 have r1 : (w.alloc (.cells #[.int .i64 0, .int .i64 0, .string ⟨#[]⟩] 143)).cell? ⟨w.heap.size, 1, none⟩ = some (.int .i64 0) := by simp [go_sem]
 have r2 : (w.alloc (.cells #[.int .i64 0, .int .i64 0, .string ⟨#[]⟩] 143)).cell? ⟨w.heap.size, 2, none⟩ = some (.string ⟨#[]⟩) := by simp [go_sem]
 have f0 : (w.alloc (.cells #[.int .i64 0, .int .i64 0, .string ⟨#[]⟩] 143)).frozen? ⟨w.heap.size, 0, none⟩ = false := by simp [go_sem]
 have f1 : (w.alloc (.cells #[.int .i64 0, .int .i64 0, .string ⟨#[]⟩] 143)).frozen? ⟨w.heap.size, 1, none⟩ = false := by simp [go_sem]
 have f2 : (w.alloc (.cells #[.int .i64 0, .int .i64 0, .string ⟨#[]⟩] 143)).frozen? ⟨w.heap.size, 2, none⟩ = false := by simp [go_sem]
 have HF1 : Hid (∀ k x, hcntK H t (k + 1) = hcnt H t → H[k]? = some x → x.at_ ≤ t → forceN H (hcnt H t) = x) := fun k x h1 h2 h3 => by
  rw [← h1, hcntK_hit h2 h3]
  simp only [forceN]
  rw [h2]
  rfl
 have HF2 : Hid (hcntK H t 0 = hcnt H t → forceN H (hcnt H t) = ⟨0, 0, firstL H⟩) := fun h => by rw [← h]; rfl
 have HF3 : Hid (hcntK H t H.length = hcnt H t) := rfl
 generalize hF : forceN H (hcnt H t) = F at *
 clear hF
 generalize hcnt H t = c at *
 go_enter Tryz.func100, Tryz.ntmps100
 go_wp2
 generalize (w.alloc (.cells #[.int .i64 0, .int .i64 0, .string ⟨#[]⟩] 143)) = W at *
 go_loopw [5] (fun s5 wr => ∃ m : Nat, m ≤ H.length ∧ s5 = .int .i64 ((m : Int) - 1) ∧ Hid (hcntK H t m = c) ∧ wr = W) (fun s5 _ => (intOf s5 + 1).toNat)
 case atStart => exact ⟨H.length, Nat.le_refl _, rfl, HF3, rfl⟩
 case round =>
  obtain ⟨m, hm, hs5, hC, hw⟩ := hrel
  subst hw
  cases m with
  | zero =>
   subst hs5
   have HF : Hid (F = ⟨0, 0, firstL H⟩) := HF2.out hC.out
   go_wp2
   go_loopw [6] (fun s6 wq => ∃ k : Nat, k ≤ H.length ∧ s6 = .int .i64 k ∧ Hid (∀ j y, j < k → H[j]? = some y → y.save ≠ 0) ∧ wq = wr) (fun s6 _ => H.length - (intOf s6).toNat)
   case atStart => exact ⟨0, by omega, rfl, fun j y h => by omega, rfl⟩
   case round =>
    obtain ⟨k, hk, rfl, hN, hw⟩ := hrel
    subst hw
    by_cases hlt : k < H.length
    ·
     obtain ⟨x, hx⟩ : ∃ x, H[k]? = some x := ⟨_, List.getElem?_eq_getElem hlt⟩
     obtain ⟨b, o, rfl, hc⟩ := hA0.at (i := k) (r := x.cs) (by rw [List.getElem?_map, hx]; rfl)
     have c1 := hc 1 _ rfl
     have c2 := hc 2 _ rfl
     have hkl : (k : Int) < (H.length : Int) := by omega
     by_cases h0 : x.save = 0
     ·
      have HR : Hid (F = ⟨0, 0, x.letter⟩) := by simp only [Hid]; rw [HF.out, HA.out k x hx h0 hN.out]
      rw [h0] at c1
      clear hc hx hN
      obtain ⟨s0, s1, s2⟩ := set_three3 (v0 := .int .i64 0) (v1 := .int .i64 0) (v2 := .string x.letter) r0 r1 r2
      go_wp2
      exact bodyPost_ret (v := .agg #[.int .i64 0, .int .i64 0, .string x.letter]) (by simp [results, Tryz.results100, go_sem, s0, s1, s2]) rfl ⟨by rw [HR.out]; rfl, ((hB0.setCell (Nat.le_refl _) _).setCell (Nat.le_refl _) _).setCell (Nat.le_refl _) _⟩
     ·
      have HR : Hid (∀ j y, j < k + 1 → H[j]? = some y → y.save ≠ 0) := fun j y hj hy => by
       by_cases e : j = k
       ·
        subst e; rw [hx] at hy; injection hy with hy; subst hy; exact h0
       ·
        exact hN.out j y (by omega) hy
      clear hc hx hN
      go_wp2
      go_roundw
      case rel => exact ⟨k + 1, by omega, by go_num, HR, trivial⟩
      case measure => simp [intOf]; omega
    ·
     have HR : Hid (F = ⟨0, 0, ⟨#[]⟩⟩) := by simp only [Hid]; rw [HF.out, HN.out fun j y hj hy => hN.out j y (by omega) hy]
     have hkl : ¬ (k : Int) < (H.length : Int) := by omega
     obtain ⟨s0, s1, s2⟩ := set_three3 (v0 := .int .i64 0) (v1 := .int .i64 0) (v2 := .string ⟨#[]⟩) r0 r1 r2
     clear hN
     go_wp2
     exact bodyPost_ret (v := .agg #[.int .i64 0, .int .i64 0, .string ⟨#[]⟩]) (by simp [results, Tryz.results100, go_sem, s0, s1, s2]) rfl ⟨by rw [HR.out]; rfl, ((hB0.setCell (Nat.le_refl _) _).setCell (Nat.le_refl _) _).setCell (Nat.le_refl _) _⟩
  | succ k =>
   rw [show (((k + 1 : Nat) : Int) - 1) = (k : Int) by omega] at hs5
   subst hs5
   obtain ⟨x, hx⟩ : ∃ x, H[k]? = some x := ⟨_, List.getElem?_eq_getElem (by omega)⟩
   obtain ⟨b, o, rfl, hc⟩ := hA0.at (i := k) (r := x.cs) (by rw [List.getElem?_map, hx]; rfl)
   have c0 : wr.cell? ⟨b, o + k * 3, none⟩ = some (.int .i64 x.at_) := hc 0 _ rfl
   have c1 := hc 1 _ rfl
   have c2 := hc 2 _ rfl
   have hkl : (k : Int) < (H.length : Int) := by omega
   by_cases ht : x.at_ ≤ t
   ·
    have HR : Hid (F = x) := HF1.out k x hC.out hx ht
    obtain ⟨s0, s1, s2⟩ := set_three3 (v0 := .int .i64 x.at_) (v1 := .int .i64 x.save) (v2 := .string x.letter) r0 r1 r2
    clear hc hx hC
    go_wp2
    exact bodyPost_ret (v := .agg #[.int .i64 x.at_, .int .i64 x.save, .string x.letter]) (by simp [results, Tryz.results100, go_sem, s0, s1, s2]) rfl ⟨by rw [HR.out]; rfl, ((hB0.setCell (Nat.le_refl _) _).setCell (Nat.le_refl _) _).setCell (Nat.le_refl _) _⟩
   ·
    have HC : Hid (hcntK H t k = c) := by simp only [Hid]; rw [← hcntK_step hx (by omega)]; exact hC.out
    clear hc hx hC
    go_wp2
    go_roundw
    case rel => exact ⟨k, by omega, rfl, HC, trivial⟩
    case measure => simp [intOf]
end Go.Proofs.YtcelbkmnbjcjhaaGreat
namespace Go.Proofs.YtcelbkmnbjcjhaaGreat
open Go.RowKit Go.Sort

set_option maxRecDepth 20000 in
set_option maxHeartbeats 4000000 in
theorem spec_l03Made (e : EraD) (F : HapD) (t : Int) (w : World) (hf : e.format.size ≤ 8000) (hl : F.letter.size ≤ 8000) (h3 : -86400 ≤ e.offset) (h4 : e.offset ≤ 86400) (h5 : -7200 ≤ F.save) (h6 : F.save ≤ 7200) :
  Calls Tryz.prog 88 #[e.v, F.v, .int .i64 t] w fun r W' => r = .returned (madeE e F t).v ∧ Below w.heap.size w W' := by
 have hA : ∀ w, Calls Tryz.prog 99 #[.string e.format, .string F.letter, .int .i64 F.save] w fun r w' => r = .returned (.string (abbrD e.format F.letter F.save)) ∧ Below w.heap.size w w' := fun w => (spec_l03Abbr e.format F.letter F.save w hf hl).mono (by
  rintro r w' ⟨rfl, n, rfl⟩
  exact ⟨by rw [abbrD_yes ⟨hf, hl⟩], below_drewN (Below.refl _ _) _⟩)
 have HR : Hid ((madeE e F t).v = .agg #[.int .i64 t, .int .i64 (e.offset + F.save), .int .i64 F.save, .string (abbrD e.format F.letter F.save)]) := rfl
 generalize abbrD e.format F.letter F.save = ab at *
 generalize (madeE e F t).v = RV at *
 have hB0 := ((((Below.refl w.heap.size w).alloc (Nat.le_refl _) (.cells #[.int .i64 e.offset, .string e.rules, .int .i64 e.save, .string e.format, .int .i64 e.until_, .string e.of] 130)).alloc (by simp) (.cells #[.int .i64 F.at_, .int .i64 F.save, .string F.letter] 143)).alloc (by simp; omega) (.cells #[.int .i64 0, .int .i64 0, .int .i64 0, .string ⟨#[]⟩] 38))
 have k0 : (((w.alloc (.cells #[.int .i64 e.offset, .string e.rules, .int .i64 e.save, .string e.format, .int .i64 e.until_, .string e.of] 130)).alloc (.cells #[.int .i64 F.at_, .int .i64 F.save, .string F.letter] 143)).alloc (.cells #[.int .i64 0, .int .i64 0, .int .i64 0, .string ⟨#[]⟩] 38)).cell? ⟨w.heap.size, 0, none⟩ = some (.int .i64 e.offset) := by simp [go_sem]
 have k3 : (((w.alloc (.cells #[.int .i64 e.offset, .string e.rules, .int .i64 e.save, .string e.format, .int .i64 e.until_, .string e.of] 130)).alloc (.cells #[.int .i64 F.at_, .int .i64 F.save, .string F.letter] 143)).alloc (.cells #[.int .i64 0, .int .i64 0, .int .i64 0, .string ⟨#[]⟩] 38)).cell? ⟨w.heap.size, 3, none⟩ = some (.string e.format) := by simp [go_sem]
 have l1 : (((w.alloc (.cells #[.int .i64 e.offset, .string e.rules, .int .i64 e.save, .string e.format, .int .i64 e.until_, .string e.of] 130)).alloc (.cells #[.int .i64 F.at_, .int .i64 F.save, .string F.letter] 143)).alloc (.cells #[.int .i64 0, .int .i64 0, .int .i64 0, .string ⟨#[]⟩] 38)).cell? ⟨w.heap.size + 1, 1, none⟩ = some (.int .i64 F.save) := by simp [go_sem]
 have l2 : (((w.alloc (.cells #[.int .i64 e.offset, .string e.rules, .int .i64 e.save, .string e.format, .int .i64 e.until_, .string e.of] 130)).alloc (.cells #[.int .i64 F.at_, .int .i64 F.save, .string F.letter] 143)).alloc (.cells #[.int .i64 0, .int .i64 0, .int .i64 0, .string ⟨#[]⟩] 38)).cell? ⟨w.heap.size + 1, 2, none⟩ = some (.string F.letter) := by simp [go_sem]
 have r0 : (((w.alloc (.cells #[.int .i64 e.offset, .string e.rules, .int .i64 e.save, .string e.format, .int .i64 e.until_, .string e.of] 130)).alloc (.cells #[.int .i64 F.at_, .int .i64 F.save, .string F.letter] 143)).alloc (.cells #[.int .i64 0, .int .i64 0, .int .i64 0, .string ⟨#[]⟩] 38)).cell? ⟨w.heap.size + 1 + 1, 0, none⟩ = some (.int .i64 0) := by simp [go_sem]
 have r1 : (((w.alloc (.cells #[.int .i64 e.offset, .string e.rules, .int .i64 e.save, .string e.format, .int .i64 e.until_, .string e.of] 130)).alloc (.cells #[.int .i64 F.at_, .int .i64 F.save, .string F.letter] 143)).alloc (.cells #[.int .i64 0, .int .i64 0, .int .i64 0, .string ⟨#[]⟩] 38)).cell? ⟨w.heap.size + 1 + 1, 1, none⟩ = some (.int .i64 0) := by simp [go_sem]
 have r2 : (((w.alloc (.cells #[.int .i64 e.offset, .string e.rules, .int .i64 e.save, .string e.format, .int .i64 e.until_, .string e.of] 130)).alloc (.cells #[.int .i64 F.at_, .int .i64 F.save, .string F.letter] 143)).alloc (.cells #[.int .i64 0, .int .i64 0, .int .i64 0, .string ⟨#[]⟩] 38)).cell? ⟨w.heap.size + 1 + 1, 2, none⟩ = some (.int .i64 0) := by simp [go_sem]
 have r3 : (((w.alloc (.cells #[.int .i64 e.offset, .string e.rules, .int .i64 e.save, .string e.format, .int .i64 e.until_, .string e.of] 130)).alloc (.cells #[.int .i64 F.at_, .int .i64 F.save, .string F.letter] 143)).alloc (.cells #[.int .i64 0, .int .i64 0, .int .i64 0, .string ⟨#[]⟩] 38)).cell? ⟨w.heap.size + 1 + 1, 3, none⟩ = some (.string ⟨#[]⟩) := by simp [go_sem]
 have f0 : ∀ j, j < 4 → (((w.alloc (.cells #[.int .i64 e.offset, .string e.rules, .int .i64 e.save, .string e.format, .int .i64 e.until_, .string e.of] 130)).alloc (.cells #[.int .i64 F.at_, .int .i64 F.save, .string F.letter] 143)).alloc (.cells #[.int .i64 0, .int .i64 0, .int .i64 0, .string ⟨#[]⟩] 38)).frozen? ⟨w.heap.size + 1 + 1, j, none⟩ = false := fun j hj => by simp [go_sem]
 unfold EraD.v HapD.v
 go_enter Tryz.func88, Tryz.ntmps88
 go_wp2_with fail
 generalize (((w.alloc (.cells #[.int .i64 e.offset, .string e.rules, .int .i64 e.save, .string e.format, .int .i64 e.until_, .string e.of] 130)).alloc (.cells #[.int .i64 F.at_, .int .i64 F.save, .string F.letter] 143)).alloc (.cells #[.int .i64 0, .int .i64 0, .int .i64 0, .string ⟨#[]⟩] 38)) = W at *
 have hBD : Below w.heap.size w W.drew := hB0.trans ((below_drew W).mono hB0.size)
 have hn2 : ¬ w.heap.size + 1 + 1 = w.heap.size := by omega
 have hn3 : ¬ w.heap.size = w.heap.size + 1 + 1 := by omega
 have hwr : IntKind.i64.wrap (e.offset + F.save) = e.offset + F.save := by rw [IntKind.wrap_i64]; omega
 go_region_held3 (fun w' => w'.cell? ⟨w.heap.size, 0, none⟩ = some (.int .i64 e.offset) ∧ w'.cell? ⟨w.heap.size, 3, none⟩ = some (.string e.format) ∧ w'.cell? ⟨w.heap.size + 1, 1, none⟩ = some (.int .i64 F.save) ∧ w'.cell? ⟨w.heap.size + 1, 2, none⟩ = some (.string F.letter)) (go_keep) ((go_at_call 99; refine (hA _).mono ?_; rintro r w4 ⟨rfl, hb⟩; have q0 := keepC hb k0; have q3 := keepC hb k3; have p1 := keepC hb l1; have p2 := keepC hb l2; have s0 := keepC hb r0; have s1 := keepC hb r1; have s2 := keepC hb r2; have s3 := keepC hb r3; have z0 : w4.frozen? ⟨w.heap.size + 1 + 1, 0, none⟩ = false := ((bcell hb).2 _ _ (World.block_lt_of_cell? _ _ r0)).trans (f0 0 (by omega)); have z1 : w4.frozen? ⟨w.heap.size + 1 + 1, 1, none⟩ = false := ((bcell hb).2 _ _ (World.block_lt_of_cell? _ _ r0)).trans (f0 1 (by omega)); have z2 : w4.frozen? ⟨w.heap.size + 1 + 1, 2, none⟩ = false := ((bcell hb).2 _ _ (World.block_lt_of_cell? _ _ r0)).trans (f0 2 (by omega)); have z3 : w4.frozen? ⟨w.heap.size + 1 + 1, 3, none⟩ = false := ((bcell hb).2 _ _ (World.block_lt_of_cell? _ _ r0)).trans (f0 3 (by omega))))
 all_goals
  go_wp2
  have hB : Below w.heap.size w w4 := hBD.trans (hb.mono hBD.size)
  obtain ⟨u0, u1, u2, u3⟩ := set_fourB (v0 := .int .i64 t) (v1 := .int .i64 (e.offset + F.save)) (v2 := .int .i64 F.save) (v3 := .string ab) s0 s1 s2 s3
  exact bodyPost_ret (v := .agg #[.int .i64 t, .int .i64 (e.offset + F.save), .int .i64 F.save, .string ab]) (by simp [results, Tryz.results88, go_sem, u0, u1, u2, u3]) rfl ⟨by rw [HR.out], (((hB.setCell (show w.heap.size ≤ w.heap.size + 1 + 1 by omega) _).setCell (show w.heap.size ≤ w.heap.size + 1 + 1 by omega) _).setCell (show w.heap.size ≤ w.heap.size + 1 + 1 by omega) _).setCell (show w.heap.size ≤ w.heap.size + 1 + 1 by omega) _⟩
set_option maxRecDepth 20000 in
set_option maxHeartbeats 4000000 in
theorem spec_l03Turn (e : EraD) (H : List HapD) (a : Option Addr) (ca : Nat) (t : Int) (w : World) (hA : SeqAt w a 3 (H.map HapD.cs)) (hn : H.length ≤ 2000) (hf : e.format.size ≤ 8000) (hl : ∀ t, (forceE e H t).letter.size ≤ 8000) (h3 : -86400 ≤ e.offset) (h4 : e.offset ≤ 86400) (h5 : ∀ t, -7200 ≤ (forceE e H t).save ∧ (forceE e H t).save ≤ 7200) :
  Calls Tryz.prog 89 #[e.v, .slice a H.length ca, .int .i64 t] w fun r W' => r = .returned (turnE e H t).v ∧ Below w.heap.size w W' := by
 have hB0 := ((Below.refl w.heap.size w).alloc (Nat.le_refl _) (.cells #[.int .i64 e.offset, .string e.rules, .int .i64 e.save, .string e.format, .int .i64 e.until_, .string e.of] 130)).alloc (by simp) (.cells #[.int .i64 0, .int .i64 0, .int .i64 0, .string ⟨#[]⟩] 38)
 have k0 : ((w.alloc (.cells #[.int .i64 e.offset, .string e.rules, .int .i64 e.save, .string e.format, .int .i64 e.until_, .string e.of] 130)).alloc (.cells #[.int .i64 0, .int .i64 0, .int .i64 0, .string ⟨#[]⟩] 38)).cell? ⟨w.heap.size, 0, none⟩ = some (.int .i64 e.offset) := by simp [go_sem]
 have k1 : ((w.alloc (.cells #[.int .i64 e.offset, .string e.rules, .int .i64 e.save, .string e.format, .int .i64 e.until_, .string e.of] 130)).alloc (.cells #[.int .i64 0, .int .i64 0, .int .i64 0, .string ⟨#[]⟩] 38)).cell? ⟨w.heap.size, 1, none⟩ = some (.string e.rules) := by simp [go_sem]
 have k2 : ((w.alloc (.cells #[.int .i64 e.offset, .string e.rules, .int .i64 e.save, .string e.format, .int .i64 e.until_, .string e.of] 130)).alloc (.cells #[.int .i64 0, .int .i64 0, .int .i64 0, .string ⟨#[]⟩] 38)).cell? ⟨w.heap.size, 2, none⟩ = some (.int .i64 e.save) := by simp [go_sem]
 have k3 : ((w.alloc (.cells #[.int .i64 e.offset, .string e.rules, .int .i64 e.save, .string e.format, .int .i64 e.until_, .string e.of] 130)).alloc (.cells #[.int .i64 0, .int .i64 0, .int .i64 0, .string ⟨#[]⟩] 38)).cell? ⟨w.heap.size, 3, none⟩ = some (.string e.format) := by simp [go_sem]
 have k4 : ((w.alloc (.cells #[.int .i64 e.offset, .string e.rules, .int .i64 e.save, .string e.format, .int .i64 e.until_, .string e.of] 130)).alloc (.cells #[.int .i64 0, .int .i64 0, .int .i64 0, .string ⟨#[]⟩] 38)).cell? ⟨w.heap.size, 4, none⟩ = some (.int .i64 e.until_) := by simp [go_sem]
 have k5 : ((w.alloc (.cells #[.int .i64 e.offset, .string e.rules, .int .i64 e.save, .string e.format, .int .i64 e.until_, .string e.of] 130)).alloc (.cells #[.int .i64 0, .int .i64 0, .int .i64 0, .string ⟨#[]⟩] 38)).cell? ⟨w.heap.size, 5, none⟩ = some (.string e.of) := by simp [go_sem]
 have r0 : ((w.alloc (.cells #[.int .i64 e.offset, .string e.rules, .int .i64 e.save, .string e.format, .int .i64 e.until_, .string e.of] 130)).alloc (.cells #[.int .i64 0, .int .i64 0, .int .i64 0, .string ⟨#[]⟩] 38)).cell? ⟨w.heap.size + 1, 0, none⟩ = some (.int .i64 0) := by simp [go_sem]
 have r1 : ((w.alloc (.cells #[.int .i64 e.offset, .string e.rules, .int .i64 e.save, .string e.format, .int .i64 e.until_, .string e.of] 130)).alloc (.cells #[.int .i64 0, .int .i64 0, .int .i64 0, .string ⟨#[]⟩] 38)).cell? ⟨w.heap.size + 1, 1, none⟩ = some (.int .i64 0) := by simp [go_sem]
 have r2 : ((w.alloc (.cells #[.int .i64 e.offset, .string e.rules, .int .i64 e.save, .string e.format, .int .i64 e.until_, .string e.of] 130)).alloc (.cells #[.int .i64 0, .int .i64 0, .int .i64 0, .string ⟨#[]⟩] 38)).cell? ⟨w.heap.size + 1, 2, none⟩ = some (.int .i64 0) := by simp [go_sem]
 have r3 : ((w.alloc (.cells #[.int .i64 e.offset, .string e.rules, .int .i64 e.save, .string e.format, .int .i64 e.until_, .string e.of] 130)).alloc (.cells #[.int .i64 0, .int .i64 0, .int .i64 0, .string ⟨#[]⟩] 38)).cell? ⟨w.heap.size + 1, 3, none⟩ = some (.string ⟨#[]⟩) := by simp [go_sem]
 have f0 : ∀ j, j < 4 → ((w.alloc (.cells #[.int .i64 e.offset, .string e.rules, .int .i64 e.save, .string e.format, .int .i64 e.until_, .string e.of] 130)).alloc (.cells #[.int .i64 0, .int .i64 0, .int .i64 0, .string ⟨#[]⟩] 38)).frozen? ⟨w.heap.size + 1, j, none⟩ = false := fun j hj => by simp [go_sem]
 have hMd := fun w => spec_l03Made e (forceE e H t) t w hf (hl t) h3 h4 (h5 t).1 (h5 t).2
 have HR : Hid (turnE e H t = madeE e (forceE e H t) t) := rfl
 by_cases h0 : e.rules.size = 0
 ·
  have hr : e.rules = ⟨#[]⟩ := bytes_of (l := []) (by rw [← List.length_eq_zero_iff, size_data]; exact h0)
  rw [forceE_no h0] at hMd HR
  generalize madeE e ⟨0, e.save, ⟨#[]⟩⟩ t = X at *
  obtain ⟨xa, xo, xs, xb⟩ := X
  simp only [HapD.v, TurnD.v, EraD.v] at hMd
  rw [hr] at hMd hB0 k0 k1 k2 k3 k4 k5 r0 r1 r2 r3 f0
  unfold EraD.v
  go_enter Tryz.func89, Tryz.ntmps89
  go_wp2_with fail
  refine (hMd _).mono ?_
  rintro q w1 ⟨rfl, hb1⟩
  have s0 := keepC hb1 r0
  have s1 := keepC hb1 r1
  have s2 := keepC hb1 r2
  have s3 := keepC hb1 r3
  have z0 : w1.frozen? ⟨w.heap.size + 1, 0, none⟩ = false := ((bcell hb1).2 _ _ (World.block_lt_of_cell? _ _ r0)).trans (f0 0 (by omega))
  have z1 : w1.frozen? ⟨w.heap.size + 1, 1, none⟩ = false := ((bcell hb1).2 _ _ (World.block_lt_of_cell? _ _ r0)).trans (f0 1 (by omega))
  have z2 : w1.frozen? ⟨w.heap.size + 1, 2, none⟩ = false := ((bcell hb1).2 _ _ (World.block_lt_of_cell? _ _ r0)).trans (f0 2 (by omega))
  have z3 : w1.frozen? ⟨w.heap.size + 1, 3, none⟩ = false := ((bcell hb1).2 _ _ (World.block_lt_of_cell? _ _ r0)).trans (f0 3 (by omega))
  have hB1 := hB0.trans (hb1.mono (by simp; omega))
  obtain ⟨u0, u1, u2, u3⟩ := set_fourB (v0 := .int .i64 xa) (v1 := .int .i64 xo) (v2 := .int .i64 xs) (v3 := .string xb) s0 s1 s2 s3
  clear hb1
  go_wp2
  exact bodyPost_ret (v := .agg #[.int .i64 xa, .int .i64 xo, .int .i64 xs, .string xb]) (by simp [results, Tryz.results89, go_sem, u0, u1, u2, u3]) rfl ⟨by rw [HR.out]; rfl, (((hB1.setCell (show w.heap.size ≤ w.heap.size + 1 by omega) _).setCell (show w.heap.size ≤ w.heap.size + 1 by omega) _).setCell (show w.heap.size ≤ w.heap.size + 1 by omega) _).setCell (show w.heap.size ≤ w.heap.size + 1 by omega) _⟩
 ·
  have hne : e.rules.toList.isEmpty = false := by
   cases h : e.rules.toList with
   | nil => exact absurd (by rw [toList_dataA] at h; rw [← size_data, h]; rfl) h0
   | cons x l => rfl
  have hFo := fun w (h : SeqAt w a 3 (H.map HapD.cs)) => spec_l03Force H a ca t w h hn
  rw [← forceE_yes (e := e) h0] at hFo
  generalize forceE e H t = F at *
  obtain ⟨fa, fs, fl⟩ := F
  generalize madeE e ⟨fa, fs, fl⟩ t = X at *
  obtain ⟨xa, xo, xs, xb⟩ := X
  simp only [HapD.v, TurnD.v, EraD.v] at hMd hFo
  unfold EraD.v
  go_enter Tryz.func89, Tryz.ntmps89
  go_wp2_with fail
  generalize ((w.alloc (.cells #[.int .i64 e.offset, .string e.rules, .int .i64 e.save, .string e.format, .int .i64 e.until_, .string e.of] 130)).alloc (.cells #[.int .i64 0, .int .i64 0, .int .i64 0, .string ⟨#[]⟩] 38)) = W0 at *
  have hBD : Below w.heap.size w W0.drew := hB0.trans ((below_drew W0).mono hB0.size)
  have hAD := hA.below hBD
  have hn2 : ¬ w.heap.size + 1 = w.heap.size := by omega
  have hn3 : ¬ w.heap.size = w.heap.size + 1 := by omega
  go_region_held3 (fun w' => w'.cell? ⟨w.heap.size, 0, none⟩ = some (.int .i64 e.offset) ∧ w'.cell? ⟨w.heap.size, 1, none⟩ = some (.string e.rules) ∧ w'.cell? ⟨w.heap.size, 2, none⟩ = some (.int .i64 e.save) ∧ w'.cell? ⟨w.heap.size, 3, none⟩ = some (.string e.format) ∧ w'.cell? ⟨w.heap.size, 4, none⟩ = some (.int .i64 e.until_) ∧ w'.cell? ⟨w.heap.size, 5, none⟩ = some (.string e.of)) (go_keep) (first | (go_at_call 100; refine (hFo _ hAD).mono ?_; rintro q w4 ⟨rfl, hb⟩; have q0 := keepC hb k0; have q1 := keepC hb k1; have q2 := keepC hb k2; have q3 := keepC hb k3; have q4 := keepC hb k4; have q5 := keepC hb k5) | (go_at_call 88; refine (hMd _).mono ?_; rintro q w5 ⟨rfl, hb5⟩; have p0 := keepC hb5 q0; have p1 := keepC hb5 q1; have p2 := keepC hb5 q2; have p3 := keepC hb5 q3; have p4 := keepC hb5 q4; have p5 := keepC hb5 q5; have s0 := keepC hb5 (keepC hb r0); have s1 := keepC hb5 (keepC hb r1); have s2 := keepC hb5 (keepC hb r2); have s3 := keepC hb5 (keepC hb r3); have z0 : w5.frozen? ⟨w.heap.size + 1, 0, none⟩ = false := ((bcell hb5).2 _ _ (World.block_lt_of_cell? _ _ (keepC hb r0))).trans (((bcell hb).2 _ _ (World.block_lt_of_cell? _ _ r0)).trans (f0 0 (by omega))); have z1 : w5.frozen? ⟨w.heap.size + 1, 1, none⟩ = false := ((bcell hb5).2 _ _ (World.block_lt_of_cell? _ _ (keepC hb r0))).trans (((bcell hb).2 _ _ (World.block_lt_of_cell? _ _ r0)).trans (f0 1 (by omega))); have z2 : w5.frozen? ⟨w.heap.size + 1, 2, none⟩ = false := ((bcell hb5).2 _ _ (World.block_lt_of_cell? _ _ (keepC hb r0))).trans (((bcell hb).2 _ _ (World.block_lt_of_cell? _ _ r0)).trans (f0 2 (by omega))); have z3 : w5.frozen? ⟨w.heap.size + 1, 3, none⟩ = false := ((bcell hb5).2 _ _ (World.block_lt_of_cell? _ _ (keepC hb r0))).trans (((bcell hb).2 _ _ (World.block_lt_of_cell? _ _ r0)).trans (f0 3 (by omega)))))
  all_goals
   go_wp2
   have hB4 : Below w.heap.size w w4 := hBD.trans (hb.mono hBD.size)
   have hB1 : Below w.heap.size w w5 := hB4.trans (hb5.mono hB4.size)
   obtain ⟨u0, u1, u2, u3⟩ := set_fourB (v0 := .int .i64 xa) (v1 := .int .i64 xo) (v2 := .int .i64 xs) (v3 := .string xb) s0 s1 s2 s3
   exact bodyPost_ret (v := .agg #[.int .i64 xa, .int .i64 xo, .int .i64 xs, .string xb]) (by simp [results, Tryz.results89, go_sem, u0, u1, u2, u3]) rfl ⟨by rw [HR.out]; rfl, (((hB1.setCell (show w.heap.size ≤ w.heap.size + 1 by omega) _).setCell (show w.heap.size ≤ w.heap.size + 1 by omega) _).setCell (show w.heap.size ≤ w.heap.size + 1 by omega) _).setCell (show w.heap.size ≤ w.heap.size + 1 by omega) _⟩
end Go.Proofs.YtcelbkmnbjcjhaaGreat
