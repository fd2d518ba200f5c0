/- Packed: Split Spans Colons OffEq Offset. -/
import Derived.Test.YtcelbkmnbjcjhaaGreatBaseAd
import Derived.OwnWalk
import Derived.Test.YtcelbkmnbjcjhaaGreatShelf
import Derived.Laws.EntriesVeiled
import Derived.LoopN
import Derived.Laws.OwnMore
import Derived.Deep.AppendLies
namespace Go.Proofs.YtcelbkmnbjcjhaaGreat
open Go.RowKit

/-- the parts behind the first k bytes, and where the last one begins. -/
def scan (s : ByteArray) : Nat → List ByteArray × Nat
 | 0 => ([], 0)
 | k + 1 => if byteAt s k = 58 then ((scan s k).1 ++ [s.extract (scan s k).2 k], k + 1) else scan s k
def parts (s : ByteArray) : List ByteArray := (scan s s.size).1 ++ [s.extract (scan s s.size).2 s.size]
theorem scan_bd (s : ByteArray) (k : Nat) : (scan s k).1.length ≤ k ∧ (scan s k).2 ≤ k := by
 induction k with
 | zero => simp [scan]
 | succ k ih =>
  simp only [scan]
  split
  ·
   simp; omega
  ·
   omega
theorem scan_hit {s : ByteArray} {k : Nat} (h : byteAt s k = 58) : scan s (k + 1) = ((scan s k).1 ++ [s.extract (scan s k).2 k], k + 1) := by simp only [scan]; rw [if_pos h]
theorem scan_miss {s : ByteArray} {k : Nat} (h : byteAt s k ≠ 58) : scan s (k + 1) = scan s k := by simp only [scan]; rw [if_neg h]

set_option maxRecDepth 100000 in
theorem info9 : ∃ i : TypeInfo, Tryz.prog.info? 9 = some i ∧ i.zero = some (.string ⟨#[]⟩) ∧ i.size = 1 ∧ i.bytes = 16 := ⟨_, rfl, rfl, rfl, rfl⟩

theorem own_emptyS (w : World) (t : TypeId) : (w.alloc (.cells #[] t)).ownsRow w.heap.size t 1 (.slice (some ⟨w.heap.size, 0, none⟩) 0 0) 0 [] :=
 ⟨rfl, .inr ⟨w.heap.size, 0, #[], rfl, Nat.le_refl _, (MapKept.heap_alloc w _).1, Nat.le_refl _, by unfold maxLen; omega, rfl, rfl⟩⟩
theorem own_blk {w : World} {base : Nat} {e : TypeId} {size : Nat} {v : Value} {n : Nat} {xs : List Value} (h : w.ownsRow base e size v n xs) : ∀ k, v.ownBlock = some k → base ≤ k := by
 intro k hk
 rcases h.2 with ⟨rfl, _⟩ | ⟨g, cap, cur, rfl, hg, _⟩
 ·
  cases hk
 ·
  simp [Value.ownBlock] at hk; omega
set_option maxHeartbeats 1000000 in
theorem spec_l01Split (s : ByteArray) (w : World) (hs : s.size ≤ 8000) :
  Calls Tryz.prog 61 #[.string s, .int .u8 58] w fun e w' => ∃ v, e = .returned v ∧ w'.ownsRow w.heap.size 9 1 v (parts s).length ((parts s).map Value.string) ∧ Below w.heap.size w w' := by
 obtain ⟨i0, hi, hz0, hz1, hz2⟩ := info9
 go_enter Tryz.func61, Tryz.ntmps61
 go_wp2
 go_loopw [5, 6, 7] (fun v f i wr => ∃ k : Nat, k ≤ s.size ∧ i = .int .i64 k ∧ f = .int .i64 (scan s k).2 ∧ wr.ownsRow w.heap.size 9 1 v (scan s k).1.length ((scan s k).1.map Value.string) ∧ Below w.heap.size w wr) (fun _ _ i _ => s.size - (intOf i).toNat)
 case atStart => exact ⟨0, by omega, rfl, rfl, own_emptyS _ _, (Below.refl _ _).alloc (Nat.le_refl _) _⟩
 case round =>
  obtain ⟨k, hk, rfl, rfl, hown, hB⟩ := hrel
  have ⟨b1, b2⟩ := scan_bd s k
  have hsz := hB.size
  by_cases hlt : k < s.size
  ·
   have e := byteAt_eq s k hlt
   by_cases hc : byteAt s k = 58
   ·
    have HS : Hid (scan s (k + 1) = ((scan s k).1 ++ [s.extract (scan s k).2 k], k + 1)) := scan_hit hc
    rw [← e] at hc
    have hc' : ((s[k].toNat : Int) == 58) = true := by rw [hc]; rfl
    clear e hc
    generalize (scan s k).2 = f at *
    generalize (scan s k).1 = o at *
    go_wp2_with (first
     | (at_builtin; refine wpList_append_own _ rfl _ _ 96 rfl w.heap.size 9 i0 (.string ⟨#[]⟩) 1 16 Tryz.underlying96 hi hz0 hz1 hz2 rfl (by decide) _ _ _ rfl (hown.alloc _) ⟨wr.heap.size, 0, none⟩ 1 1 [.string (s.extract f k)] rfl rfl ?c1 ?c2 ?c3 ?c4 ?c5 ?_)
     | fail)
    case c1 => exact cell_one_new _ _ _
    case c2 => intro u hu; simp at hu; subst hu; rfl
    case c3 => unfold maxLen; omega
    case c4 => omega
    case c5 => simp; omega
    ·
     intro v' w1 hown' hgrow _
     have hB1 : Below w.heap.size w w1 := (hB.alloc hsz _).grown hgrow (by simp; omega) (own_blk hown)
     have HO : Hid (w1.ownsRow w.heap.size 9 1 v' (o ++ [s.extract f k]).length ((o ++ [s.extract f k]).map Value.string)) := by simpa [Hid] using hown'
     clear hgrow hown' hown
     go_wp2
     go_roundw
     case rel => exact ⟨k + 1, by omega, by go_num, by rw [HS.out]; go_num, by rw [HS.out]; exact HO.out, hB1⟩
     case measure => simp [intOf]; omega
   ·
    have HS : Hid (scan s (k + 1) = scan s k) := scan_miss hc
    rw [← e] at hc
    have hc' : ((s[k].toNat : Int) == 58) = false := by simpa using hc
    clear e hc
    go_wp2
    go_roundw
    case rel => exact ⟨k + 1, by omega, by go_num, by rw [HS.out], by rw [HS.out]; exact hown, hB⟩
    case measure => simp [intOf]; omega
  ·
   have e : k = s.size := by omega
   subst e
   have HP : Hid (parts s = (scan s s.size).1 ++ [s.extract (scan s s.size).2 s.size]) := rfl
   generalize (scan s s.size).2 = f at *
   generalize (scan s s.size).1 = o at *
   go_wp2_with (first
     | (at_builtin; refine wpList_append_own _ rfl _ _ 96 rfl w.heap.size 9 i0 (.string ⟨#[]⟩) 1 16 Tryz.underlying96 hi hz0 hz1 hz2 rfl (by decide) _ _ _ rfl (hown.alloc _) ⟨wr.heap.size, 0, none⟩ 1 1 [.string (s.extract f s.size)] rfl rfl ?c1 ?c2 ?c3 ?c4 ?c5 ?_)
     | fail)
   case c1 => exact cell_one_new _ _ _
   case c2 => intro u hu; simp at hu; subst hu; rfl
   case c3 => unfold maxLen; omega
   case c4 => omega
   case c5 => simp; omega
   ·
    intro v' w1 hown' hgrow _
    have hB1 : Below w.heap.size w w1 := (hB.alloc hsz _).grown hgrow (by simp; omega) (own_blk hown)
    have HO : Hid (w1.ownsRow w.heap.size 9 1 v' (parts s).length ((parts s).map Value.string)) := by rw [HP.out]; simpa [Hid] using hown'
    clear hgrow hown' hown
    go_wp2
    go_ret
    exact ⟨_, rfl, HO.out, hB1⟩
end Go.Proofs.YtcelbkmnbjcjhaaGreat
namespace Go.Proofs.YtcelbkmnbjcjhaaGreat
open Go.RowKit

/-- a colon and two digits below 60. -/
def sixH (s : ByteArray) : Bool := decide (s.size = 3 ∧ byteAt s 0 = 58)
def sixN (s : ByteArray) : Int := if sixH s = true then drN (s.extract 1 s.size) else 0
def sixB (s : ByteArray) : Bool := sixH s && (digs (s.extract 1 s.size) && decide (drN (s.extract 1 s.size) < 60))
theorem drN_bd (s : ByteArray) (h : s.size ≤ 9) : 0 ≤ drN s ∧ drN s ≤ 999999999 := by
 unfold drN; split
 ·
  rename_i hd
  exact numAt_bd9 h (digs_t hd).2
 ·
  omega
/-- hours. -/
def hrN (s : ByteArray) : Int := if s.size ≤ 3 then drN s * 3600 else 0
def hrB (s : ByteArray) : Bool := if s.size ≤ 3 then digs s else false
/-- what a colon and two digits would take, and what is ahead of it. -/
def frontS (s : ByteArray) : ByteArray := if s.size < 3 then s else s.extract 0 (s.size - 3)
def backS (s : ByteArray) : ByteArray := if s.size < 3 then ⟨#[]⟩ else s.extract (s.size - 3) s.size
/-- minutes. -/
def mnN (s : ByteArray) : Int := hrN (frontS s) + sixN (backS s) * 60
def mnB (s : ByteArray) : Bool := hrB (frontS s) && sixB (backS s)
/-- seconds. -/
def scN (s : ByteArray) : Int := mnN (frontS s) + sixN (backS s)
def scB (s : ByteArray) : Bool := mnB (frontS s) && sixB (backS s)
/-- what the program reads of an offset's text without its sign. -/
def rdB (s : ByteArray) : Bool := hrB s || (mnB s || scB s)
def rdN (s : ByteArray) : Int := if hrB s = true then hrN s else if mnB s = true then mnN s else if scB s = true then scN s else 0
/-- the text without its sign, and whether it has one. -/
def restS (s : ByteArray) : ByteArray := ⟨(Lib.trimPrefix s.data.toList [45]).toArray⟩
def negB (s : ByteArray) : Bool := Lib.hasPrefix s.data.toList [45]
def minusB (s : ByteArray) : Bool := s.toList == [45]
def orN (s : ByteArray) : Int := if minusB s = true then 0 else if rdB (restS s) = true ∧ rdN (restS s) ≤ 604800 then (if negB s = true then - rdN (restS s) else rdN (restS s)) else 0
end Go.Proofs.YtcelbkmnbjcjhaaGreat
namespace Go.Proofs.YtcelbkmnbjcjhaaGreat

theorem scan_run {s : ByteArray} {a b : Nat} (h : a ≤ b) (hn : ∀ i, a ≤ i → i < b → byteAt s i ≠ 58) : scan s b = scan s a := by
 obtain ⟨n, rfl⟩ : ∃ n, b = a + n := ⟨b - a, by omega⟩
 induction n with
 | zero => rfl
 | succ n ih =>
  have h1 := ih (by omega) (fun i h1 h2 => hn i h1 (by omega))
  have h2 := hn (a + n) (by omega) (by omega)
  rw [show a + (n + 1) = a + n + 1 by omega, scan_miss h2, h1]
theorem scan_len {s : ByteArray} {a b : Nat} (h : a ≤ b) : (scan s a).1.length ≤ (scan s b).1.length := by
 obtain ⟨n, rfl⟩ : ∃ n, b = a + n := ⟨b - a, by omega⟩
 induction n with
 | zero => exact Nat.le_refl _
 | succ n ih =>
  have h1 := ih (by omega)
  rw [show a + (n + 1) = a + n + 1 by omega]
  by_cases hc : byteAt s (a + n) = 58
  ·
   rw [scan_hit hc]; simp; omega
  ·
   rw [scan_miss hc]; exact h1
/-- the first colon from a place on, or none. -/
theorem first_colon (s : ByteArray) (a : Nat) : (∀ i, a ≤ i → i < s.size → byteAt s i ≠ 58) ∨ ∃ j, a ≤ j ∧ j < s.size ∧ byteAt s j = 58 ∧ ∀ i, a ≤ i → i < j → byteAt s i ≠ 58 := by
 by_cases h : ∃ j, a ≤ j ∧ j < s.size ∧ byteAt s j = 58
 ·
  right
  obtain ⟨j, h1, h2, h3⟩ := h
  induction j using Nat.strongRecOn with
  | _ j ih =>
   by_cases hl : ∃ i, a ≤ i ∧ i < j ∧ byteAt s i = 58
   ·
    obtain ⟨i, i1, i2, i3⟩ := hl
    exact ih i i2 i1 (by omega) i3
   ·
    exact ⟨j, h1, h2, h3, fun i i1 i2 i3 => hl ⟨i, i1, i2, i3⟩⟩
 ·
  left
  exact fun i i1 i2 i3 => h ⟨i, i1, i2, i3⟩
theorem parts_none {s : ByteArray} (h : ∀ i, i < s.size → byteAt s i ≠ 58) : parts s = [s.extract 0 s.size] := by
 have e : scan s s.size = ([], 0) := scan_run (a := 0) (by omega) (fun i _ hi => h i hi)
 unfold parts; rw [e]; rfl
theorem parts_one {s : ByteArray} {j : Nat} (hj : j < s.size) (hc : byteAt s j = 58) (h1 : ∀ i, i < j → byteAt s i ≠ 58) (h2 : ∀ i, j < i → i < s.size → byteAt s i ≠ 58) :
  parts s = [s.extract 0 j, s.extract (j + 1) s.size] := by
 have e1 : scan s j = ([], 0) := scan_run (a := 0) (by omega) (fun i _ hi => h1 i hi)
 have e2 := scan_hit hc
 rw [e1] at e2
 have e3 : scan s s.size = scan s (j + 1) := scan_run (by omega) (fun i i1 i2 => h2 i (by omega) i2)
 unfold parts; rw [e3, e2]; rfl
theorem parts_two {s : ByteArray} {j k : Nat} (hjk : j < k) (hk : k < s.size) (hc : byteAt s j = 58) (hd : byteAt s k = 58) (h1 : ∀ i, i < j → byteAt s i ≠ 58) (h2 : ∀ i, j < i → i < k → byteAt s i ≠ 58) (h3 : ∀ i, k < i → i < s.size → byteAt s i ≠ 58) :
  parts s = [s.extract 0 j, s.extract (j + 1) k, s.extract (k + 1) s.size] := by
 have e1 : scan s j = ([], 0) := scan_run (a := 0) (by omega) (fun i _ hi => h1 i hi)
 have e2 := scan_hit hc
 rw [e1] at e2
 have e3 : scan s k = scan s (j + 1) := scan_run (by omega) (fun i i1 i2 => h2 i (by omega) i2)
 have e4 := scan_hit hd
 rw [e3, e2] at e4
 have e5 : scan s s.size = scan s (k + 1) := scan_run (by omega) (fun i i1 i2 => h3 i (by omega) i2)
 unfold parts; rw [e5, e4]; rfl
theorem parts_many {s : ByteArray} {j k m : Nat} (hjk : j < k) (hkm : k < m) (hm : m < s.size) (hc : byteAt s j = 58) (hd : byteAt s k = 58) (he : byteAt s m = 58) : 4 ≤ (parts s).length := by
 have a1 : 1 ≤ (scan s (j + 1)).1.length := by rw [scan_hit hc]; simp
 have a2 := scan_len (s := s) (a := j + 1) (b := k) (by omega)
 have a3 : (scan s k).1.length + 1 = (scan s (k + 1)).1.length := by rw [scan_hit hd]; simp
 have a4 := scan_len (s := s) (a := k + 1) (b := m) (by omega)
 have a5 : (scan s m).1.length + 1 = (scan s (m + 1)).1.length := by rw [scan_hit he]; simp
 have a6 := scan_len (s := s) (a := m + 1) (b := s.size) (by omega)
 unfold parts; simp; omega
theorem byteAt_extract {s : ByteArray} {a b i : Nat} (hb : b ≤ s.size) (hi : i < b - a) : byteAt (s.extract a b) i = byteAt s (a + i) := by
 have h1 : i < (s.extract a b).size := by rw [ByteArray.size_extract]; omega
 have h2 : a + i < s.size := by omega
 rw [← byteAt_eq _ _ h1, ← byteAt_eq _ _ h2, ByteArray.getElem_extract]
/-- a text of digits has no colon. -/
theorem digs_extract {s : ByteArray} {a b : Nat} (hb : b ≤ s.size) (h : digs (s.extract a b) = true) : ∀ i, a ≤ i → i < b → byteAt s i ≠ 58 := by
 intro i i1 i2 hc
 have hd := (digs_t h).2 (i - a) (by rw [ByteArray.size_extract]; omega)
 rw [byteAt_extract hb (by omega), show a + (i - a) = i by omega, hc] at hd
 exact absurd hd (by decide)
theorem digs_none {s : ByteArray} (h : digs s = true) : ∀ i, i < s.size → byteAt s i ≠ 58 := by
 intro i hi hc
 have hd := (digs_t h).2 i hi
 rw [hc] at hd
 exact absurd hd (by decide)
end Go.Proofs.YtcelbkmnbjcjhaaGreat
namespace Go.Proofs.YtcelbkmnbjcjhaaGreat

/-- hours: at most three digits. -/
def hdB (p : ByteArray) : Bool := decide (p.size ≤ 3) && digs p
/-- two digits below 60. -/
def twB (p : ByteArray) : Bool := decide (p.size = 2) && (digs p && decide (drN p < 60))
def pB : List ByteArray → Bool
 | [a] => hdB a
 | [a, b] => hdB a && twB b
 | [a, b, c] => hdB a && (twB b && twB c)
 | _ => false
def pN : List ByteArray → Int
 | [a] => drN a * 3600
 | [a, b] => drN a * 3600 + drN b * 60
 | [a, b, c] => drN a * 3600 + drN b * 60 + drN c
 | _ => 0
theorem ext_all (s : ByteArray) : s.extract 0 s.size = s := by simp
theorem hrB_eq (s : ByteArray) : hrB s = hdB s := by
 unfold hrB hdB; split
 ·
  rename_i h; simp [h]
 ·
  rename_i h; simp [h]
theorem hdB_t {s : ByteArray} (h : hdB s = true) : s.size ≤ 3 ∧ digs s = true := by
 unfold hdB at h; simpa using h
theorem hrN_eq {s : ByteArray} (h : hdB s = true) : hrN s = drN s * 3600 := by unfold hrN; rw [if_pos (hdB_t h).1]
theorem ext_ext (s : ByteArray) (a b c d : Nat) (hb : b ≤ s.size) (hd : a + d ≤ b) : (s.extract a b).extract c d = s.extract (a + c) (a + d) := by
 apply ByteArray.ext_getElem
 ·
  simp only [ByteArray.size_extract]; omega
 ·
  intro i h1 h2
  simp only [ByteArray.getElem_extract]
  congr 1; omega
/-- what minutes asks of a text. -/
theorem mnB_eq {s : ByteArray} (h3 : 3 ≤ s.size) : mnB s = (decide (byteAt s (s.size - 3) = 58) && (hdB (s.extract 0 (s.size - 3)) && twB (s.extract (s.size - 2) s.size))) := by
 have ef : frontS s = s.extract 0 (s.size - 3) := by unfold frontS; rw [if_neg (by omega)]
 have eb : backS s = s.extract (s.size - 3) s.size := by unfold backS; rw [if_neg (by omega)]
 have sz : (s.extract (s.size - 3) s.size).size = 3 := by rw [ByteArray.size_extract]; omega
 have e0 : byteAt (s.extract (s.size - 3) s.size) 0 = byteAt s (s.size - 3) := byteAt_extract (by omega) (by omega)
 have e1 : (s.extract (s.size - 3) s.size).extract 1 3 = s.extract (s.size - 2) s.size := by
  rw [ext_ext _ _ _ _ _ (by omega) (by omega), show s.size - 3 + 1 = s.size - 2 by omega, show s.size - 3 + 3 = s.size by omega]
 have e2 : (s.extract (s.size - 2) s.size).size = 2 := by rw [ByteArray.size_extract]; omega
 unfold mnB sixB sixH twB
 rw [ef, eb, hrB_eq, sz, e0, e1, e2]
 cases hdB (s.extract 0 (s.size - 3)) <;> cases h : decide (byteAt s (s.size - 3) = 58) <;> simp_all
theorem mnB_lt {s : ByteArray} (h : s.size < 3) : mnB s = false := by
 have eb : backS s = ⟨#[]⟩ := by unfold backS; rw [if_pos h]
 unfold mnB sixB sixH
 rw [eb]; simp [ByteArray.size]
theorem six_back {s : ByteArray} (h3 : 3 ≤ s.size) (hc : byteAt s (s.size - 3) = 58) : sixN (backS s) = drN (s.extract (s.size - 2) s.size) ∧ sixB (backS s) = twB (s.extract (s.size - 2) s.size) := by
 have eb : backS s = s.extract (s.size - 3) s.size := by unfold backS; rw [if_neg (by omega)]
 have sz : (s.extract (s.size - 3) s.size).size = 3 := by rw [ByteArray.size_extract]; omega
 have e0 : byteAt (s.extract (s.size - 3) s.size) 0 = 58 := (byteAt_extract (by omega) (by omega)).trans hc
 have e1 : (s.extract (s.size - 3) s.size).extract 1 3 = s.extract (s.size - 2) s.size := by
  rw [ext_ext _ _ _ _ _ (by omega) (by omega), show s.size - 3 + 1 = s.size - 2 by omega, show s.size - 3 + 3 = s.size by omega]
 have e2 : (s.extract (s.size - 2) s.size).size = 2 := by rw [ByteArray.size_extract]; omega
 have hh : sixH (s.extract (s.size - 3) s.size) = true := decide_eq_true ⟨sz, e0⟩
 unfold sixN sixB twB
 rw [eb, if_pos hh, hh, sz, e1, e2]
 simp
theorem mnN_eq {s : ByteArray} (h3 : 3 ≤ s.size) (h : mnB s = true) : mnN s = drN (s.extract 0 (s.size - 3)) * 3600 + drN (s.extract (s.size - 2) s.size) * 60 := by
 rw [mnB_eq h3] at h
 simp only [Bool.and_eq_true, decide_eq_true_eq] at h
 have ef : frontS s = s.extract 0 (s.size - 3) := by unfold frontS; rw [if_neg (by omega)]
 unfold mnN
 rw [ef, hrN_eq h.2.1, (six_back h3 h.1).1]
/-- what seconds asks of a text. -/
theorem scB_t {s : ByteArray} (h : scB s = true) : 3 ≤ s.size ∧ byteAt s (s.size - 3) = 58 ∧ mnB (s.extract 0 (s.size - 3)) = true ∧ twB (s.extract (s.size - 2) s.size) = true := by
 unfold scB at h
 simp only [Bool.and_eq_true] at h
 have h3 : 3 ≤ s.size := by
  rcases Nat.lt_or_ge s.size 3 with hl | hl
  ·
   have eb : backS s = ⟨#[]⟩ := by unfold backS; rw [if_pos hl]
   have := h.2
   unfold sixB sixH at this
   rw [eb] at this; simp [ByteArray.size] at this
  ·
   exact hl
 have ef : frontS s = s.extract 0 (s.size - 3) := by unfold frontS; rw [if_neg (by omega)]
 have eb : backS s = s.extract (s.size - 3) s.size := by unfold backS; rw [if_neg (by omega)]
 have e0 : byteAt (s.extract (s.size - 3) s.size) 0 = byteAt s (s.size - 3) := byteAt_extract (by omega) (by omega)
 have hc : byteAt s (s.size - 3) = 58 := by
  have := h.2
  unfold sixB at this
  simp only [Bool.and_eq_true] at this
  have := (of_decide_eq_true this.1).2
  rw [eb, e0] at this
  exact this
 rw [ef] at h
 exact ⟨h3, hc, h.1, (six_back h3 hc).2 ▸ h.2⟩
theorem scB_mk {s : ByteArray} (h3 : 3 ≤ s.size) (hc : byteAt s (s.size - 3) = 58) (h1 : mnB (s.extract 0 (s.size - 3)) = true) (h2 : twB (s.extract (s.size - 2) s.size) = true) : scB s = true := by
 have ef : frontS s = s.extract 0 (s.size - 3) := by unfold frontS; rw [if_neg (by omega)]
 unfold scB
 rw [ef, h1, (six_back h3 hc).2, h2]; rfl
theorem scN_eq {s : ByteArray} (h3 : 3 ≤ s.size) (hc : byteAt s (s.size - 3) = 58) : scN s = mnN (s.extract 0 (s.size - 3)) + drN (s.extract (s.size - 2) s.size) := by
 have ef : frontS s = s.extract 0 (s.size - 3) := by unfold frontS; rw [if_neg (by omega)]
 unfold scN
 rw [ef, (six_back h3 hc).1]
theorem hd_none {s : ByteArray} {a b : Nat} (hb : b ≤ s.size) (h : hdB (s.extract a b) = true) : ∀ i, a ≤ i → i < b → byteAt s i ≠ 58 := digs_extract hb (hdB_t h).2
theorem twB_t {p : ByteArray} (h : twB p = true) : p.size = 2 ∧ digs p = true := by
 unfold twB at h
 simp only [Bool.and_eq_true, decide_eq_true_eq] at h
 exact ⟨h.1, h.2.1⟩
theorem tw_none {s : ByteArray} {a b : Nat} (hb : b ≤ s.size) (h : twB (s.extract a b) = true) : ∀ i, a ≤ i → i < b → byteAt s i ≠ 58 := digs_extract hb (twB_t h).2
theorem mnB_t {s : ByteArray} (h : mnB s = true) : 3 ≤ s.size ∧ byteAt s (s.size - 3) = 58 ∧ hdB (s.extract 0 (s.size - 3)) = true ∧ twB (s.extract (s.size - 2) s.size) = true := by
 rcases Nat.lt_or_ge s.size 3 with hl | hl
 ·
  rw [mnB_lt hl] at h; cases h
 ·
  rw [mnB_eq hl] at h
  simp only [Bool.and_eq_true, decide_eq_true_eq] at h
  exact ⟨hl, h.1, h.2.1, h.2.2⟩
/-- where the program reads an offset by minutes: one colon. -/
theorem mn_parts {s : ByteArray} (h : mnB s = true) : parts s = [s.extract 0 (s.size - 3), s.extract (s.size - 2) s.size] := by
 obtain ⟨h3, hc, h1, h2⟩ := mnB_t h
 have := parts_one (s := s) (j := s.size - 3) (by omega) hc (fun i hi => hd_none (by omega) h1 i (by omega) hi) (fun i i1 i2 => tw_none (by omega) h2 i (by omega) i2)
 rw [this, show s.size - 3 + 1 = s.size - 2 by omega]
/-- by seconds: two colons. -/
theorem sc_all {s : ByteArray} (h : scB s = true) : 6 ≤ s.size ∧ byteAt s (s.size - 6) = 58 ∧ byteAt s (s.size - 3) = 58 ∧ hdB (s.extract 0 (s.size - 6)) = true ∧ twB (s.extract (s.size - 5) (s.size - 3)) = true ∧ twB (s.extract (s.size - 2) s.size) = true := by
 obtain ⟨h3, hc, h1, h2⟩ := scB_t h
 obtain ⟨g3, gc, g1, g2⟩ := mnB_t h1
 have sz : (s.extract 0 (s.size - 3)).size = s.size - 3 := by rw [ByteArray.size_extract]; omega
 rw [sz] at g3 gc g1 g2
 rw [byteAt_extract (by omega) (by omega), show 0 + (s.size - 3 - 3) = s.size - 6 by omega] at gc
 rw [ext_ext _ _ _ _ _ (by omega) (by omega), show 0 + 0 = 0 by omega, show 0 + (s.size - 3 - 3) = s.size - 6 by omega] at g1
 rw [ext_ext _ _ _ _ _ (by omega) (by omega), show 0 + (s.size - 3 - 2) = s.size - 5 by omega, show 0 + (s.size - 3) = s.size - 3 by omega] at g2
 exact ⟨by omega, gc, hc, g1, g2, h2⟩
theorem sc_parts {s : ByteArray} (h : scB s = true) : parts s = [s.extract 0 (s.size - 6), s.extract (s.size - 5) (s.size - 3), s.extract (s.size - 2) s.size] := by
 obtain ⟨h6, gc, hc, g1, g2, h2⟩ := sc_all h
 have := parts_two (s := s) (j := s.size - 6) (k := s.size - 3) (by omega) (by omega) gc hc (fun i hi => hd_none (by omega) g1 i (by omega) hi) (fun i i1 i2 => tw_none (by omega) g2 i (by omega) i2) (fun i i1 i2 => tw_none (by omega) h2 i (by omega) i2)
 rw [this, show s.size - 6 + 1 = s.size - 5 by omega, show s.size - 3 + 1 = s.size - 2 by omega]
theorem hr_parts {s : ByteArray} (h : hdB s = true) : parts s = [s] := by
 rw [parts_none (digs_none (hdB_t h).2), ext_all]
/-- what the program accepts the parts accept, with the same number. -/
theorem rd_sound {s : ByteArray} (h : rdB s = true) : pB (parts s) = true ∧ rdN s = pN (parts s) := by
 unfold rdB at h
 unfold rdN
 cases h1 : hrB s
 ·
  cases h2 : mnB s
  ·
   have h3 : scB s = true := by rw [h1, h2] at h; simpa using h
   obtain ⟨h6, gc, hc, g1, g2, h5⟩ := sc_all h3
   have hm : mnB (s.extract 0 (s.size - 3)) = true := (scB_t h3).2.2.1
   have sz : (s.extract 0 (s.size - 3)).size = s.size - 3 := by rw [ByteArray.size_extract]; omega
   have e := mnN_eq (s := s.extract 0 (s.size - 3)) (by omega) hm
   rw [sz, ext_ext _ _ _ _ _ (by omega) (by omega), ext_ext _ _ _ _ _ (by omega) (by omega), show 0 + 0 = 0 by omega, show 0 + (s.size - 3 - 3) = s.size - 6 by omega, show 0 + (s.size - 3 - 2) = s.size - 5 by omega, show 0 + (s.size - 3) = s.size - 3 by omega] at e
   rw [sc_parts h3]
   refine ⟨by simp [pB, g1, g2, h5], ?_⟩
   rw [if_neg (by simp), if_neg (by simp), if_pos h3, scN_eq (by omega) hc, e]
   rfl
  ·
   obtain ⟨h3, hc, g1, g2⟩ := mnB_t h2
   rw [mn_parts h2]
   refine ⟨by simp [pB, g1, g2], ?_⟩
   rw [if_neg (by simp), if_pos rfl, mnN_eq h3 h2]
   rfl
 ·
  have h1' : hdB s = true := by rw [← hrB_eq]; exact h1
  rw [hr_parts h1']
  refine ⟨h1', ?_⟩
  rw [if_pos rfl, hrN_eq h1']
  rfl
/-- what the parts accept the program accepts. -/
theorem rd_complete {s : ByteArray} (h : pB (parts s) = true) : rdB s = true := by
 unfold rdB
 rcases first_colon s 0 with hn | ⟨j, _, j2, jc, jn⟩
 ·
  rw [parts_none (fun i hi => hn i (by omega) hi), ext_all] at h
  have : hrB s = true := by rw [hrB_eq]; exact h
  rw [this]; rfl
 rcases first_colon s (j + 1) with hn | ⟨k, k1, k2, kc, kn⟩
 ·
  rw [parts_one j2 jc (fun i hi => jn i (by omega) hi) (fun i i1 i2 => hn i (by omega) i2)] at h
  simp only [pB, Bool.and_eq_true] at h
  have sz := (twB_t h.2).1
  rw [ByteArray.size_extract] at sz
  have ej : j = s.size - 3 := by omega
  subst ej
  have hm : mnB s = true := by
   rw [mnB_eq (by omega)]
   rw [show s.size - 3 + 1 = s.size - 2 by omega] at h
   simp [jc, h.1, h.2]
  rw [hm]; simp
 rcases first_colon s (k + 1) with hn | ⟨m, m1, m2, mc, mn⟩
 ·
  rw [parts_two (by omega) k2 jc kc (fun i hi => jn i (by omega) hi) (fun i i1 i2 => kn i (by omega) i2) (fun i i1 i2 => hn i (by omega) i2)] at h
  simp only [pB, Bool.and_eq_true] at h
  have s1 := (twB_t h.2.1).1
  have s2 := (twB_t h.2.2).1
  rw [ByteArray.size_extract] at s1 s2
  have ek : k = s.size - 3 := by omega
  have ej : j = s.size - 6 := by omega
  subst ek ej
  have sz : (s.extract 0 (s.size - 3)).size = s.size - 3 := by rw [ByteArray.size_extract]; omega
  have hm : mnB (s.extract 0 (s.size - 3)) = true := by
   rw [mnB_eq (by omega), sz, ext_ext _ _ _ _ _ (by omega) (by omega), ext_ext _ _ _ _ _ (by omega) (by omega), byteAt_extract (by omega) (by omega), show 0 + 0 = 0 by omega, show 0 + (s.size - 3 - 3) = s.size - 6 by omega, show 0 + (s.size - 3 - 2) = s.size - 5 by omega, show 0 + (s.size - 3) = s.size - 3 by omega]
   have h2 := h.2.1
   rw [show s.size - 6 + 1 = s.size - 5 by omega] at h2
   simp [jc, h.1, h2]
  have h3 := h.2.2
  rw [show s.size - 3 + 1 = s.size - 2 by omega] at h3
  rw [scB_mk (by omega) kc hm h3]; simp
 ·
  have := parts_many (s := s) (j := j) (k := k) (m := m) (by omega) (by omega) m2 jc kc mc
  match hp : parts s with
  | [] => rw [hp] at this; simp at this
  | [a] => rw [hp] at this; simp at this
  | [a, b] => rw [hp] at this; simp at this
  | [a, b, c] => rw [hp] at this; simp at this
  | a :: b :: c :: d :: r => rw [hp] at h; simp [pB] at h
end Go.Proofs.YtcelbkmnbjcjhaaGreat
namespace Go.Proofs.YtcelbkmnbjcjhaaGreat
open Go.RowKit

def ldM (s : ByteArray) : Int := if s.size ≤ 9 then ldN s else -1
theorem spec_l01DigitsM (s : ByteArray) (w : World) (hs : s.size ≤ 8000) :
  Calls Tryz.prog 101 #[.string s] w fun e w' => e = .returned (.int .i64 (ldM s)) ∧ w' = w := by
 unfold ldM
 by_cases h : s.size ≤ 9
 ·
  rw [if_pos h]; exact spec_l01Digits s w h
 ·
  rw [if_neg h]
  go_enter Tryz.func101, Tryz.ntmps101
  go_wp2
  go_ret
  exact ⟨rfl, rfl⟩
theorem ldM_t {s : ByteArray} (h9 : s.size ≤ 9) (h : digs s = true) : ldM s = drN s ∧ 0 ≤ drN s := by
 refine ⟨?_, (drN_bd s h9).1⟩
 unfold ldM; rw [if_pos h9, ldN_t h, drN_t h]
theorem ldM_f {s : ByteArray} (h : digs s = false) : ldM s = -1 := by
 unfold ldM; rw [ldN_f h]; split <;> rfl
theorem ldM_bd (s : ByteArray) : -1 ≤ ldM s ∧ ldM s ≤ 999999999 := by
 by_cases h9 : s.size ≤ 9
 ·
  cases h : digs s
  ·
   rw [ldM_f h]; omega
  ·
   have := ldM_t h9 h; have := drN_bd s h9; omega
 ·
  unfold ldM; rw [if_neg h9]; omega
theorem tw_no {s : ByteArray} (h : twB s = false) : ldM s < 0 ∨ (0 ≤ ldM s ∧ s.size ≠ 2) ∨ (0 ≤ ldM s ∧ s.size = 2 ∧ 59 < ldM s) := by
 by_cases h0 : ldM s < 0
 ·
  exact .inl h0
 by_cases h2 : s.size = 2
 ·
  have hd : digs s = true := by
   cases h : digs s
   ·
    rw [ldM_f h] at h0; omega
   ·
    rfl
  have e := (ldM_t (by omega) hd).1
  have : ¬ drN s < 60 := fun hl => by unfold twB at h; simp [h2, hd, hl] at h
  exact .inr (.inr ⟨by omega, h2, by omega⟩)
 ·
  exact .inr (.inl ⟨by omega, h2⟩)
theorem tw_yes {s : ByteArray} (h : twB s = true) : ldM s = drN s ∧ 0 ≤ drN s ∧ drN s ≤ 59 ∧ s.size = 2 := by
 have h1 := twB_t h
 have h2 := ldM_t (by omega) h1.2
 unfold twB at h
 simp at h
 omega
theorem parts_ne (s : ByteArray) : 1 ≤ (parts s).length := by unfold parts; simp
theorem parts_le {s : ByteArray} : ∀ p ∈ parts s, p.size ≤ s.size := by
 have H : ∀ k, ∀ p ∈ (scan s k).1, p.size ≤ s.size := by
  intro k
  induction k with
  | zero => intro p hp; simp [scan] at hp
  | succ k ih =>
   by_cases hc : byteAt s k = 58
   ·
    rw [scan_hit hc]; intro p hp; simp at hp
    rcases hp with hp | rfl
    ·
     exact ih p hp
    ·
     rw [ByteArray.size_extract]; omega
   ·
    rw [scan_miss hc]; exact ih
 intro p hp
 unfold parts at hp; simp at hp
 rcases hp with hp | rfl
 ·
  exact H _ p hp
 ·
  rw [ByteArray.size_extract]; omega
theorem neg_rest {s : ByteArray} (h : negB s = true) : s.extract 1 s.size = restS s := by
 obtain ⟨⟨l⟩⟩ := s
 cases l with
 | nil => simp [negB, Lib.hasPrefix] at h
 | cons c l =>
  simp [negB, Lib.hasPrefix] at h
  apply ByteArray.ext
  simp [restS, Lib.trimPrefix, Lib.hasPrefix, h, ByteArray.size]
theorem pos_rest {s : ByteArray} (h : negB s = false) : restS s = s := by
 unfold negB at h; unfold restS Lib.trimPrefix; simp [h]
theorem byte_cons (c : UInt8) (l : List UInt8) : byteAt ⟨⟨c :: l⟩⟩ 0 = (c.toNat : Int) := by
 unfold byteAt; rw [dif_pos (by show 0 < (c :: l).length; simp)]; rfl
theorem neg_byte (s : ByteArray) : negB s = decide (0 < s.size ∧ byteAt s 0 = 45) := by
 obtain ⟨⟨l⟩⟩ := s
 cases l with
 | nil => rfl
 | cons c l =>
  have e1 : (0 < (⟨⟨c :: l⟩⟩ : ByteArray).size) := by show 0 < (c :: l).length; simp
  have e2 : negB ⟨⟨c :: l⟩⟩ = (45 == c) := by
   show ((45 == c) && List.isPrefixOf [] l) = _
   simp
  rw [byte_cons, e2]
  by_cases h : c = 45
  ·
   subst h; simp [e1]
  ·
   have h' : (c.toNat : Int) ≠ 45 := by
    intro hn
    apply h
    apply UInt8.toNat_inj.mp
    show c.toNat = 45
    omega
   have h2 : (45 == c) = false := by simpa using fun hn => h hn.symm
   rw [h2]; simp [h']
end Go.Proofs.YtcelbkmnbjcjhaaGreat
