/- Packed: RelTurn Abbr Abbr2. -/
import Derived.Test.YtbbhpfobcelbfaaGreatDoorRelPt
import Derived.Lib.QuietBelow
import Derived.Test.YtbbhpfobcelbfaaGreatDoorBasePt
import Derived.Test.YtbbhpfobcelbfaaGreatDoorShelf
import Derived.Lib.Replace
namespace Go.Proofs.YtbbhpfobcelbfaaGreatDoor
open Go.RowKit Go.Sort

structure TurnD where
  at_ : Int
  offset : Int
  save : Int
  abbr : ByteArray
def TurnD.cs (r : TurnD) : List Value := [.int .i64 r.at_, .int .i64 r.offset, .int .i64 r.save, .string r.abbr]
def TurnD.v (r : TurnD) : Value := .agg #[.int .i64 r.at_, .int .i64 r.offset, .int .i64 r.save, .string r.abbr]
def TurnD.sz (r : TurnD) : Nat := r.abbr.size
def TurnD.ok (r : TurnD) : Prop := r.abbr.size ≤ maxLen
def tsz (l : List TurnD) : Nat := (l.map TurnD.sz).sum
theorem tsz_take {l : List TurnD} {k : Nat} {r : TurnD} (h : l[k]? = some r) : tsz (l.take (k + 1)) = tsz (l.take k) + r.sz := by
  unfold tsz
  rw [List.take_add_one, h]
  simp
theorem tsz_le (l : List TurnD) (k : Nat) : tsz (l.take k) ≤ tsz l := by
  have := congrArg (fun l => (l.map TurnD.sz).sum) (List.take_append_drop k l)
  simp only [List.map_append, List.sum_append] at this
  unfold tsz
  omega
set_option maxRecDepth 100000 in
theorem infoTurn : ∃ i : TypeInfo, Tryz.prog.info? 53 = some i ∧ i.zero = some (.agg #[.int .i64 0, .int .i64 0, .int .i64 0, .string ⟨#[]⟩]) ∧ i.size = 4 ∧ i.bytes = 40 := ⟨_, rfl, rfl, rfl, rfl⟩
theorem TurnD.len (r : TurnD) : r.cs.length = 4 := rfl
set_option maxHeartbeats 1000000 in
theorem laws_eqTurn (r : TurnD) (w : World) :
    Calls Tryz.prog 171 #[r.v, r.v] w fun e w' => e = .returned (.bool true) ∧ Below w.heap.size w w' := by
  obtain ⟨at_, offset, save, abbr⟩ := r
  simp only [TurnD.v] at *
  go_enter Tryz.func171, Tryz.ntmps171
  go_wp2
  go_ret
  exact ⟨rfl, ((Below.refl _ _).alloc (Nat.le_refl _) _).alloc (by simp) _⟩
set_option maxHeartbeats 2000000 in
theorem laws_eqTurnS (l : List TurnD) (a a2 : Option Addr) (cap cap2 : Nat) (w : World) (hA : SeqAt w a 4 (l.map TurnD.cs)) (hA2 : SeqAt w a2 4 (l.map TurnD.cs)) (hl : l.length ≤ 1048576) :
    Calls Tryz.prog 113 #[.slice a l.length cap, .slice a2 l.length cap2] w fun e w' => e = .returned (.bool true) ∧ Below w.heap.size w w' := by
  go_enter Tryz.func113, Tryz.ntmps113
  go_wp2
  go_loopw [5] (fun i wr => ∃ k : Nat, k ≤ l.length ∧ i = .int .i64 k ∧ Below w.heap.size w wr) (fun i _ => l.length - (intOf i).toNat)
  case atStart => exact ⟨0, by omega, rfl, Below.refl _ _⟩
  case round =>
    obtain ⟨k, hk, rfl, hB⟩ := hrel
    by_cases hlt : k < l.length
    · obtain ⟨r, hr⟩ : ∃ r, l[k]? = some r := ⟨_, List.getElem?_eq_getElem hlt⟩
      have hrow : (l.map TurnD.cs)[k]? = some r.cs := by rw [List.getElem?_map, hr]; rfl
      obtain ⟨b, o, rfl, hc⟩ := (hA.below hB).at (i := k) hrow
      obtain ⟨b2, o2, rfl, hd⟩ := (hA2.below hB).at (i := k) hrow
      have hS := fun w => laws_eqTurn r w
      have c0 : wr.cell? ⟨b, o + k * 4, none⟩ = some (.int .i64 r.at_) := hc 0 _ rfl
      have d0 : wr.cell? ⟨b2, o2 + k * 4, none⟩ = some (.int .i64 r.at_) := hd 0 _ rfl
      have c1 := hc 1 _ rfl
      have d1 := hd 1 _ rfl
      have c2 := hc 2 _ rfl
      have d2 := hd 2 _ rfl
      have c3 := hc 3 _ rfl
      have d3 := hd 3 _ rfl
      clear hc hd
      unfold TurnD.v at hS
      have cE : ∀ dd os, Calls Tryz.prog _ _ (grow (redrawn wr dd) os) fun e w'' => e = .returned (.bool true) ∧ ∃ p : Regrown, w'' = grow (redrawn wr p.d) p.os := fun _ _ => Calls.regrown_of (hS _)
      have kc0 := cell_regrown c0
      have kd0 := cell_regrown d0
      have kc1 := cell_regrown c1
      have kd1 := cell_regrown d1
      have kc2 := cell_regrown c2
      have kd2 := cell_regrown d2
      have kc3 := cell_regrown c3
      have kd3 := cell_regrown d3
      go_wp2_with fail
      refine wp_region_quiet_below (by kernel_rfl) (by kernel_rfl) ?_
      repeat (quiet_step ((go_at_call 171; exact cE _ _)))
      refine wpQuiet_nil ?_
      intro _ hw'
      obtain ⟨⟨dq, osq⟩, hw''⟩ := hw'
      subst hw''
      have hb2 := below_regrown wr dq osq
      go_wp2
      go_roundw
      case rel => exact ⟨k + 1, by omega, by go_num, hB.trans (hb2.mono hB.size)⟩
      case measure => simp [intOf]; omega
    · have e : k = l.length := by omega
      subst e
      go_wp2
      go_ret
      exact ⟨rfl, hB⟩
end Go.Proofs.YtbbhpfobcelbfaaGreatDoor
namespace Go.Proofs.YtbbhpfobcelbfaaGreatDoor
open Go.RowKit

theorem ex_dataA (s : ByteArray) (a b : Nat) : (s.extract a b).data.toList = (s.data.toList.drop a).take (b - a) := by
  rw [ByteArray.data_extract]
  simp [List.take_drop]
theorem toList_dataA (s : ByteArray) : s.toList = s.data.toList := by rw [ByteArray.toList_eq]
theorem bytes_of {s : ByteArray} {l : List UInt8} (h : s.data.toList = l) : s = ⟨l.toArray⟩ := by
  subst h
  apply ByteArray.ext
  simp
theorem size_data (s : ByteArray) : s.data.toList.length = s.size := by rw [Array.length_toList]; rfl
/-- the format's part that a save takes. -/
def partL (d : List UInt8) (save : Int) : List UInt8 :=
  if 0 ≤ Lib.index d [47] then (if save = 0 then d.take (Lib.index d [47]).toNat else d.drop ((Lib.index d [47]).toNat + 1)) else d
/-- the letter in its place. -/
def abbrL (p l : List UInt8) : List UInt8 :=
  if 0 ≤ Lib.index p [37, 115] then p.take (Lib.index p [37, 115]).toNat ++ l ++ p.drop ((Lib.index p [37, 115]).toNat + 2) else p
theorem part_no {d : List UInt8} {save : Int} (h : Lib.index d [47] = -1) : partL d save = d := by unfold partL; rw [if_neg (by omega)]
theorem part_0 {d : List UInt8} {i : Nat} (h : Lib.index d [47] = i) : partL d 0 = d.take i := by unfold partL; rw [if_pos (by omega), if_pos rfl, h]; simp
theorem part_1 {d : List UInt8} {save : Int} {i : Nat} (h : Lib.index d [47] = i) (hs : save ≠ 0) : partL d save = d.drop (i + 1) := by unfold partL; rw [if_pos (by omega), if_neg hs, h]; simp
theorem abbr_no {p l : List UInt8} (h : Lib.index p [37, 115] = -1) : abbrL p l = p := by unfold abbrL; rw [if_neg (by omega)]
theorem abbr_at {p l : List UInt8} {i : Nat} (h : Lib.index p [37, 115] = i) : abbrL p l = p.take i ++ l ++ p.drop (i + 2) := by unfold abbrL; rw [if_pos (by omega), h]; simp
theorem part_len (d : List UInt8) (save : Int) : (partL d save).length ≤ d.length := by
  unfold partL
  split
  · split
    · rw [List.length_take]; omega
    · rw [List.length_drop]; omega
  · exact Nat.le_refl _
theorem occ_split {p : List UInt8} {i : Nat} (h : Lib.occAt p [37, 115] i = true) : p.take i ++ [37, 115] ++ p.drop (i + 2) = p := by
  unfold Lib.occAt at h
  obtain ⟨r, hr⟩ := List.isPrefixOf_iff_prefix.1 h
  have e : p.drop (i + 2) = r := by rw [← List.drop_drop, ← hr]; rfl
  rw [e, List.append_assoc, hr, List.take_append_drop]
/-- what the library's replacing gives. -/
theorem replace_one (p l : List UInt8) : Lib.replace p [37, 115] l 1 = abbrL p l := by
  rcases Lib.index_spec p [37, 115] with ⟨h1, _⟩ | ⟨i, h1, _, h3, _⟩
  · rw [abbr_no h1]
    unfold Lib.replace Lib.replaceNum
    rw [Lib.count_miss h1]
    split
    · rfl
    · rw [if_pos (Or.inr (by omega))]; rfl
  · rw [abbr_at h1]
    unfold Lib.replace
    split
    · rename_i hl
      rw [← (beq_iff_eq.mp hl)]
      exact (occ_split h3).symm
    · have hc : 0 < Lib.count p [37, 115] := by
        unfold Lib.count Lib.countFrom
        rw [if_neg (by simp; omega)]
        omega
      unfold Lib.replaceNum
      rw [if_neg (by omega)]
      exact Lib.replaceK_hit _ _ 0 p i h1
/-- where the library cuts. -/
theorem cut_no {d : List UInt8} (h : Lib.index d [47] = -1) : Lib.cut d [47] = (d, [], false) := by unfold Lib.cut; rw [if_neg (by omega)]
theorem cut_at {d : List UInt8} {i : Nat} (h : Lib.index d [47] = i) : Lib.cut d [47] = (d.take i, d.drop (i + 1), true) := by unfold Lib.cut; rw [if_pos (by omega), h]; simp
set_option maxHeartbeats 1000000 in
theorem spec_l03Index (s sub : ByteArray) (w : World) (hs : s.size ≤ 8000) (h1 : 1 ≤ sub.size) (h2 : sub.size ≤ 2) :
    Calls Tryz.prog 94 #[.string s, .string sub] w fun e w' => e = .returned (.int .i64 (Lib.index s.data.toList sub.data.toList)) ∧ w' = w := by
  have HH : Hid (∀ k : Nat, Lib.NoOcc s.data.toList sub.data.toList k → k + sub.size ≤ s.size → (s.extract k (k + sub.size)).toList == sub.toList → Lib.index s.data.toList sub.data.toList = k) := fun k hn hk he => by
    refine Lib.index_hit hn (by rw [size_data]; omega) ?_
    rw [Lib.occAt_iff_take _ _ _ (by rw [size_data, size_data]; exact hk), size_data]
    rw [toList_dataA, toList_dataA, ex_dataA, show k + sub.size - k = sub.size by omega] at he
    exact he
  have HM : Hid (∀ k : Nat, Lib.NoOcc s.data.toList sub.data.toList k → k + sub.size ≤ s.size → ((s.extract k (k + sub.size)).toList == sub.toList) = false → Lib.NoOcc s.data.toList sub.data.toList (k + 1)) := fun k hn hk he => by
    refine hn.succ ?_
    rw [Lib.occAt_iff_take _ _ _ (by rw [size_data, size_data]; exact hk), size_data]
    rw [toList_dataA, toList_dataA, ex_dataA, show k + sub.size - k = sub.size by omega] at he
    exact he
  have HP : Hid (∀ k : Nat, Lib.NoOcc s.data.toList sub.data.toList k → s.size < k + sub.size → Lib.index s.data.toList sub.data.toList = -1) := fun k hn hk => by
    refine Lib.index_past (fun e => ?_) hn (by rw [size_data, size_data]; exact hk)
    have := size_data sub
    rw [e] at this
    simp at this
    omega
  have H0 : Hid (Lib.NoOcc s.data.toList sub.data.toList 0) := Lib.NoOcc.zero _ _
  generalize Lib.index s.data.toList sub.data.toList = ix at *
  go_enter Tryz.func94, Tryz.ntmps94
  go_wp2
  go_loop [5] (fun i => ∃ k : Nat, k ≤ s.size + 1 ∧ i = .int .i64 k ∧ Hid (Lib.NoOcc s.data.toList sub.data.toList k)) (fun i => s.size + 1 - (intOf i).toNat)
  case atStart => exact ⟨0, by omega, rfl, H0⟩
  case round =>
    obtain ⟨k, hk, rfl, hn⟩ := hrel
    by_cases hlt : k + sub.size ≤ s.size
    · cases hb : ((s.extract k (k + sub.size)).toList == sub.toList)
      · have HR : Hid (Lib.NoOcc s.data.toList sub.data.toList (k + 1)) := HM.out k hn.out hlt hb
        go_wp2
        go_round
        case rel => exact ⟨k + 1, by omega, by go_num, HR⟩
        case measure => simp [intOf]; omega
      · have HR : Hid (ix = k) := HH.out k hn.out hlt hb
        go_wp2
        go_ret
        exact ⟨ret_int HR.out.symm, rfl⟩
    · have HR : Hid (ix = -1) := HP.out k hn.out (by omega)
      go_wp2
      go_ret
      exact ⟨ret_int HR.out.symm, rfl⟩
end Go.Proofs.YtbbhpfobcelbfaaGreatDoor
namespace Go.Proofs.YtbbhpfobcelbfaaGreatDoor
open Go.RowKit

theorem ret_str {a b : ByteArray} (h : a = b) : Ending.returned (.string a) = .returned (.string b) := by rw [h]
/-- the abbreviation. -/
def abbrD (f l : ByteArray) (save : Int) : ByteArray := if f.size ≤ 8000 ∧ l.size ≤ 8000 then ⟨(abbrL (partL f.data.toList save) l.data.toList).toArray⟩ else ⟨#[]⟩
theorem abbrD_no {f l : ByteArray} {save : Int} (h : ¬ (f.size ≤ 8000 ∧ l.size ≤ 8000)) : abbrD f l save = ⟨#[]⟩ := if_neg h
theorem abbrD_yes {f l : ByteArray} {save : Int} (h : f.size ≤ 8000 ∧ l.size ≤ 8000) : abbrD f l save = ⟨(abbrL (partL f.data.toList save) l.data.toList).toArray⟩ := if_pos h
def MxA (w : World) : Prop := ∃ m : Int, w.cell? ⟨0, 0, none⟩ = some (.int .i64 m)
theorem MxA.of_below {w w' : World} (h : MxA w) (hb : Below w.heap.size w w') : MxA w' := by
  obtain ⟨m, hm⟩ := h
  exact ⟨m, ((bcell hb).1 _ _ (World.block_lt_of_cell? _ _ hm)).trans hm⟩
theorem countB_le (s sub : ByteArray) (h : 1 ≤ sub.size) : Lib.countB s sub ≤ s.size := by
  have := Lib.countB_mul_le sub h s.size s (Nat.le_refl _)
  exact Nat.le_trans (Nat.le_mul_of_pos_right _ h) this
set_option maxHeartbeats 2000000 in
theorem spec_l03Abbr (f l : ByteArray) (save : Int) (w : World) (hf : f.size ≤ 8000) (hl : l.size ≤ 8000) :
    Calls Tryz.prog 42 #[.string f, .string l, .int .i64 save] w fun e w' => e = .returned (.string ⟨(abbrL (partL f.data.toList save) l.data.toList).toArray⟩) ∧ ∃ n, w' = w.drewN n := by
  have hI := fun w => spec_l03Index f ⟨#[47]⟩ w hf (by decide) (by decide)
  have hplen := part_len f.data.toList save
  rw [size_data] at hplen
  rcases Lib.index_spec f.data.toList [47] with ⟨e1, _⟩ | ⟨i, e1, hi, ho1, _⟩
  · have hq : f.data.toList = partL f.data.toList save := (part_no e1).symm
    rw [show (ByteArray.mk #[47]).data.toList = [47] from rfl, e1] at hI
    have hJ := fun w => spec_l03Index f ⟨#[37, 115]⟩ w hf (by decide) (by decide)
    rw [show (ByteArray.mk #[37, 115]).data.toList = [37, 115] from rfl] at hJ
    generalize hqq : partL f.data.toList save = q at *
    clear hqq hplen e1
    obtain ⟨p, rfl⟩ : ∃ p : ByteArray, p = f := ⟨f, rfl⟩
    go_enter Tryz.func42, Tryz.ntmps42
    go_wp2_with fail
    refine (hI _).mono ?_
    rintro e w' ⟨rfl, rfl⟩
    go_wp2_with fail
    rcases Lib.index_spec p.data.toList [37, 115] with ⟨e2, _⟩ | ⟨j, e2, hj, ho, _⟩
    · rw [e2] at hJ
      have HR : Hid (({ data := (abbrL q l.data.toList).toArray } : ByteArray) = p) := by simp only [Hid]; rw [← hq, abbr_no e2]
      refine (hJ _).mono ?_
      rintro e w' ⟨rfl, rfl⟩
      go_wp2
      go_ret
      exact ⟨ret_str HR.out.symm, 0, rfl⟩
    · rw [e2] at hJ
      have hroom : j + 2 ≤ p.size := by
        rcases Lib.occAt_room ho with h | h
        · rw [size_data] at h; simpa using h
        · cases h
      have i0 : (0 : Int) ≤ (j : Int) := by omega
      have i1 : (j : Int) ≤ (p.size : Int) := by omega
      have i2 : (j : Int) + 2 ≤ (p.size : Int) := by omega
      have HR : Hid (({ data := (abbrL q l.data.toList).toArray } : ByteArray) = p.extract 0 j ++ l ++ p.extract (j + 2) p.size) := by
        simp only [Hid]
        rw [← hq, abbr_at e2]
        symm
        apply bytes_of
        simp only [ByteArray.data_append, Array.toList_append, ex_dataA, List.drop_zero, Nat.sub_zero]
        rw [List.take_of_length_le (l := p.data.toList.drop (j + 2)) (by rw [List.length_drop, size_data]; omega)]
      clear hj ho e2
      refine (hJ _).mono ?_
      rintro e w' ⟨rfl, rfl⟩
      go_wp2_with fail
      go_quiet (fail)
      go_wp2
      go_ret
      exact ⟨ret_str HR.out.symm, _, rfl⟩
  · rw [size_data] at hi
    rw [show (ByteArray.mk #[47]).data.toList = [47] from rfl, e1] at hI
    have hroom : i + 1 ≤ f.size := by
      rcases Lib.occAt_room ho1 with h | h
      · rw [size_data] at h; simpa using h
      · cases h
    have j0 : (0 : Int) ≤ (i : Int) := by omega
    have j1 : (i : Int) + 1 ≤ (f.size : Int) := by omega
    by_cases hs : save = 0
    · subst hs
      have hq : (f.extract 0 i).data.toList = partL f.data.toList 0 := by rw [part_0 e1, ex_dataA]; simp
      have hz : (f.extract 0 i).size ≤ 8000 := by rw [ByteArray.size_extract]; omega
      have hJ := fun w => spec_l03Index (f.extract 0 i) ⟨#[37, 115]⟩ w hz (by decide) (by decide)
      rw [show (ByteArray.mk #[37, 115]).data.toList = [37, 115] from rfl] at hJ
      generalize hqq : partL f.data.toList 0 = q at *
      clear hqq hplen e1 ho1
      go_enter Tryz.func42, Tryz.ntmps42
      go_wp2_with fail
      refine (hI _).mono ?_
      rintro e w' ⟨rfl, rfl⟩
      go_wp2_with fail
      generalize f.extract 0 i = p at *
      clear hI j0 j1 hroom hi
      rcases Lib.index_spec p.data.toList [37, 115] with ⟨e2, _⟩ | ⟨j, e2, hj, ho, _⟩
      · rw [e2] at hJ
        have HR : Hid (({ data := (abbrL q l.data.toList).toArray } : ByteArray) = p) := by simp only [Hid]; rw [← hq, abbr_no e2]
        refine (hJ _).mono ?_
        rintro e w' ⟨rfl, rfl⟩
        go_wp2
        go_ret
        exact ⟨ret_str HR.out.symm, 0, rfl⟩
      · rw [e2] at hJ
        have hroom : j + 2 ≤ p.size := by
          rcases Lib.occAt_room ho with h | h
          · rw [size_data] at h; simpa using h
          · cases h
        have i0 : (0 : Int) ≤ (j : Int) := by omega
        have i1 : (j : Int) ≤ (p.size : Int) := by omega
        have i2 : (j : Int) + 2 ≤ (p.size : Int) := by omega
        have HR : Hid (({ data := (abbrL q l.data.toList).toArray } : ByteArray) = p.extract 0 j ++ l ++ p.extract (j + 2) p.size) := by
          simp only [Hid]
          rw [← hq, abbr_at e2]
          symm
          apply bytes_of
          simp only [ByteArray.data_append, Array.toList_append, ex_dataA, List.drop_zero, Nat.sub_zero]
          rw [List.take_of_length_le (l := p.data.toList.drop (j + 2)) (by rw [List.length_drop, size_data]; omega)]
        clear hj ho e2
        refine (hJ _).mono ?_
        rintro e w' ⟨rfl, rfl⟩
        go_wp2_with fail
        go_quiet (fail)
        go_wp2
        go_ret
        exact ⟨ret_str HR.out.symm, _, rfl⟩
    · have hq : (f.extract (i + 1) f.size).data.toList = partL f.data.toList save := by rw [part_1 e1 hs, ex_dataA, List.take_of_length_le (by rw [List.length_drop, size_data]; omega)]
      have hz : (f.extract (i + 1) f.size).size ≤ 8000 := by rw [ByteArray.size_extract]; omega
      have hJ := fun w => spec_l03Index (f.extract (i + 1) f.size) ⟨#[37, 115]⟩ w hz (by decide) (by decide)
      rw [show (ByteArray.mk #[37, 115]).data.toList = [37, 115] from rfl] at hJ
      generalize hqq : partL f.data.toList save = q at *
      have hs' : (save == 0) = false := by simpa using hs
      clear hqq hplen e1 ho1 hs
      go_enter Tryz.func42, Tryz.ntmps42
      go_wp2_with fail
      refine (hI _).mono ?_
      rintro e w' ⟨rfl, rfl⟩
      go_wp2_with fail
      generalize f.extract (i + 1) f.size = p at *
      clear hI j0 j1 hroom hi
      rcases Lib.index_spec p.data.toList [37, 115] with ⟨e2, _⟩ | ⟨j, e2, hj, ho, _⟩
      · rw [e2] at hJ
        have HR : Hid (({ data := (abbrL q l.data.toList).toArray } : ByteArray) = p) := by simp only [Hid]; rw [← hq, abbr_no e2]
        refine (hJ _).mono ?_
        rintro e w' ⟨rfl, rfl⟩
        go_wp2
        go_ret
        exact ⟨ret_str HR.out.symm, 0, rfl⟩
      · rw [e2] at hJ
        have hroom : j + 2 ≤ p.size := by
          rcases Lib.occAt_room ho with h | h
          · rw [size_data] at h; simpa using h
          · cases h
        have i0 : (0 : Int) ≤ (j : Int) := by omega
        have i1 : (j : Int) ≤ (p.size : Int) := by omega
        have i2 : (j : Int) + 2 ≤ (p.size : Int) := by omega
        have HR : Hid (({ data := (abbrL q l.data.toList).toArray } : ByteArray) = p.extract 0 j ++ l ++ p.extract (j + 2) p.size) := by
          simp only [Hid]
          rw [← hq, abbr_at e2]
          symm
          apply bytes_of
          simp only [ByteArray.data_append, Array.toList_append, ex_dataA, List.drop_zero, Nat.sub_zero]
          rw [List.take_of_length_le (l := p.data.toList.drop (j + 2)) (by rw [List.length_drop, size_data]; omega)]
        clear hj ho e2
        refine (hJ _).mono ?_
        rintro e w' ⟨rfl, rfl⟩
        go_wp2_with fail
        go_quiet (fail)
        go_wp2
        go_ret
        exact ⟨ret_str HR.out.symm, _, rfl⟩
set_option maxHeartbeats 1000000 in
theorem spec_AbbrOf (f l : ByteArray) (save : Int) (w : World) (hf : f.size ≤ 1048576) (hl : l.size ≤ 1048576) :
    Calls Tryz.prog 12 #[.string f, .string l, .int .i64 save] w fun e w' => e = .returned (.string (abbrD f l save)) ∧ Below w.heap.size w w' := by
  by_cases h1 : f.size ≤ 8000
  · by_cases h2 : l.size ≤ 8000
    · have hA := fun w => spec_l03Abbr f l save w h1 h2
      rw [abbrD_yes ⟨h1, h2⟩]
      generalize (abbrL (partL f.data.toList save) l.data.toList).toArray = x at *
      go_enter Tryz.func12, Tryz.ntmps12
      go_wp2_with fail
      refine (hA _).mono ?_
      rintro e w' ⟨rfl, n, rfl⟩
      go_wp2
      go_ret
      exact ⟨rfl, below_drewN (Below.refl _ _) _⟩
    · rw [abbrD_no (by omega)]
      go_enter Tryz.func12, Tryz.ntmps12
      go_wp2
      go_ret
      exact ⟨rfl, Below.refl _ _⟩
  · rw [abbrD_no (by omega)]
    go_enter Tryz.func12, Tryz.ntmps12
    go_wp2
    go_ret
    exact ⟨rfl, Below.refl _ _⟩
set_option maxHeartbeats 2000000 in
theorem impl_AbbrOf (f l : ByteArray) (save : Int) (w : World) (hM : MxA w) (hf : f.size ≤ 1048576) (hl : l.size ≤ 1048576) :
    Calls Tryz.prog 11 #[.string f, .string l, .int .i64 save] w fun e w' => e = .returned (.string (abbrD f l save)) ∧ Below w.heap.size w w' := by
  by_cases h1 : f.size ≤ 8000
  · by_cases h2 : l.size ≤ 8000
    · obtain ⟨m, hm⟩ := hM
      have hC := Tryz.strings_Cut f ⟨#[47]⟩ m w (by omega) hm
      have hRp : ∀ (p : ByteArray) w', p.data.toList.length ≤ 8000 → Below w.heap.size w w' → Calls Tryz.prog 41 #[.string p, .string ⟨#[37, 115]⟩, .string l, .int .i64 1] w' fun e w'' => e = .returned (.string ⟨(abbrL p.data.toList l.data.toList).toArray⟩) ∧ Below w'.heap.size w' w'' := fun p w' hp hb => by
        rw [size_data] at hp
        have hcb := countB_le p ⟨#[37, 115]⟩ (by decide)
        have := Tryz.strings_Replace p ⟨#[37, 115]⟩ l 1 m w' (by omega) (((bcell hb).1 _ _ (World.block_lt_of_cell? _ _ hm)).trans hm) (by decide) (by
          have := Nat.mul_le_mul (Nat.le_trans hcb hp) h2
          omega)
        rw [show (ByteArray.mk #[37, 115]).data.toList = [37, 115] from rfl, replace_one] at this
        exact this
      rw [abbrD_yes ⟨h1, h2⟩]
      rw [show (ByteArray.mk #[47]).data.toList = [47] from rfl] at hC
      have hplen := part_len f.data.toList save
      rw [size_data] at hplen
      have hd := size_data f
      rcases Lib.index_spec f.data.toList [47] with ⟨e1, _⟩ | ⟨i, e1, hi, ho1, _⟩
      · rw [cut_no e1] at hC
        rw [part_no e1]
        have hR2 := fun w' hb => hRp ⟨f.data.toList.toArray⟩ w' (by simp; omega) hb
        simp only at hR2
        generalize (abbrL f.data.toList l.data.toList).toArray = x at *
        generalize f.data.toList.toArray = d at *
        clear hRp e1 hplen hd
        go_enter Tryz.func11, Tryz.ntmps11
        go_wp2_with fail
        refine hC.mono ?_
        rintro e w' ⟨rfl, n, rfl⟩
        go_wp2_with fail
        refine (hR2 _ (below_drewN (Below.refl _ _) _)).mono ?_
        rintro e w' ⟨rfl, hb⟩
        go_wp2
        go_ret
        exact ⟨rfl, (below_drewN (Below.refl _ _) n).trans hb⟩
      · rw [cut_at e1] at hC
        by_cases hs : save = 0
        · subst hs
          rw [part_0 e1]
          have hR2 := fun w' hb => hRp ⟨(f.data.toList.take i).toArray⟩ w' (by simp; omega) hb
          simp only at hR2
          generalize (abbrL (f.data.toList.take i) l.data.toList).toArray = x at *
          generalize (f.data.toList.take i).toArray = d at *
          generalize (f.data.toList.drop (i + 1)).toArray = d2 at *
          clear hRp e1 hplen hd
          go_enter Tryz.func11, Tryz.ntmps11
          go_wp2_with fail
          refine hC.mono ?_
          rintro e w' ⟨rfl, n, rfl⟩
          go_wp2_with fail
          refine (hR2 _ (below_drewN (Below.refl _ _) _)).mono ?_
          rintro e w' ⟨rfl, hb⟩
          go_wp2
          go_ret
          exact ⟨rfl, (below_drewN (Below.refl _ _) n).trans hb⟩
        · rw [part_1 e1 hs]
          have hR2 := fun w' hb => hRp ⟨(f.data.toList.drop (i + 1)).toArray⟩ w' (by simp; omega) hb
          simp only at hR2
          generalize (abbrL (f.data.toList.drop (i + 1)) l.data.toList).toArray = x at *
          generalize (f.data.toList.take i).toArray = d at *
          generalize (f.data.toList.drop (i + 1)).toArray = d2 at *
          clear hRp e1 hplen hd
          go_enter Tryz.func11, Tryz.ntmps11
          go_wp2_with fail
          refine hC.mono ?_
          rintro e w' ⟨rfl, n, rfl⟩
          go_wp2_with fail
          refine (hR2 _ (below_drewN (Below.refl _ _) _)).mono ?_
          rintro e w' ⟨rfl, hb⟩
          go_wp2
          go_ret
          exact ⟨rfl, (below_drewN (Below.refl _ _) n).trans hb⟩
    · rw [abbrD_no (by omega)]
      go_enter Tryz.func11, Tryz.ntmps11
      go_wp2
      go_ret
      exact ⟨rfl, Below.refl _ _⟩
  · rw [abbrD_no (by omega)]
    go_enter Tryz.func11, Tryz.ntmps11
    go_wp2
    go_ret
    exact ⟨rfl, Below.refl _ _⟩
end Go.Proofs.YtbbhpfobcelbfaaGreatDoor
