/- An era's abbreviation: both sides, whole. -/
import Derived.Test.YtibhbpgnjikjnaaDoorAbbr
namespace Go.Proofs.YtibhbpgnjikjnaaDoor
open Go.RowKit

theorem ret_strA {a b : ByteArray} (h : a = b) : Ending.returned (.string a) = .returned (.string b) := by rw [h]
/-- the abbreviation. -/
def abbrD (f l : ByteArray) (save : Int) : ByteArray := if f.size ≤ 8000 ∧ l.size ≤ 8000 then ⟨(abbrL (partL f.data.toList save) l.data.toList).toArray⟩ else ⟨#[]⟩
theorem abbrD_no {f l : ByteArray} {save : Int} (h : ¬ (f.size ≤ 8000 ∧ l.size ≤ 8000)) : abbrD f l save = ⟨#[]⟩ := if_neg h
theorem abbrD_yes {f l : ByteArray} {save : Int} (h : f.size ≤ 8000 ∧ l.size ≤ 8000) : abbrD f l save = ⟨(abbrL (partL f.data.toList save) l.data.toList).toArray⟩ := if_pos h
def MxA (w : World) : Prop := ∃ m : Int, w.cell? ⟨1, 0, none⟩ = some (.int .i64 m)
theorem MxA.of_below {w w' : World} (h : MxA w) (hb : Below w.heap.size w w') : MxA w' := by
  obtain ⟨m, hm⟩ := h
  exact ⟨m, ((bcell hb).1 _ _ (World.block_lt_of_cell? _ _ hm)).trans hm⟩
theorem countB_le (s sub : ByteArray) (h : 1 ≤ sub.size) : Lib.countB s sub ≤ s.size := by
  have := Lib.countB_mul_le sub h s.size s (Nat.le_refl _)
  exact Nat.le_trans (Nat.le_mul_of_pos_right _ h) this
set_option maxHeartbeats 2000000 in
theorem spec_l03Abbr (f l : ByteArray) (save : Int) (w : World) (hf : f.size ≤ 8000) (hl : l.size ≤ 8000) :
    Calls Tryd.prog 83 #[.string f, .string l, .int .i64 save] w fun e w' => e = .returned (.string ⟨(abbrL (partL f.data.toList save) l.data.toList).toArray⟩) ∧ ∃ n, w' = w.drewN n := by
  have hI := fun w => spec_l03Index f ⟨#[47]⟩ w hf (by decide) (by decide)
  have hplen := part_len f.data.toList save
  rw [size_data] at hplen
  rcases Lib.index_spec f.data.toList [47] with ⟨e1, _⟩ | ⟨i, e1, hi, ho1, _⟩
  · have hq : f.data.toList = partL f.data.toList save := (part_no e1).symm
    rw [show (ByteArray.mk #[47]).data.toList = [47] from rfl, e1] at hI
    have hJ := fun w => spec_l03Index f ⟨#[37, 115]⟩ w hf (by decide) (by decide)
    rw [show (ByteArray.mk #[37, 115]).data.toList = [37, 115] from rfl] at hJ
    generalize hqq : partL f.data.toList save = q at *
    clear hqq hplen e1
    obtain ⟨p, rfl⟩ : ∃ p : ByteArray, p = f := ⟨f, rfl⟩
    go_enter Tryd.func83, Tryd.ntmps83
    go_wp2_with fail
    refine (hI _).mono ?_
    rintro e w' ⟨rfl, rfl⟩
    go_wp2_with fail
    rcases Lib.index_spec p.data.toList [37, 115] with ⟨e2, _⟩ | ⟨j, e2, hj, ho, _⟩
    · rw [e2] at hJ
      have HR : Hid (({ data := (abbrL q l.data.toList).toArray } : ByteArray) = p) := by simp only [Hid]; rw [← hq, abbr_no e2]
      refine (hJ _).mono ?_
      rintro e w' ⟨rfl, rfl⟩
      go_wp2
      go_ret
      exact ⟨ret_strA HR.out.symm, 0, rfl⟩
    · rw [e2] at hJ
      have hroom : j + 2 ≤ p.size := by
        rcases Lib.occAt_room ho with h | h
        · rw [size_data] at h; simpa using h
        · cases h
      have i0 : (0 : Int) ≤ (j : Int) := by omega
      have i1 : (j : Int) ≤ (p.size : Int) := by omega
      have i2 : (j : Int) + 2 ≤ (p.size : Int) := by omega
      have HR : Hid (({ data := (abbrL q l.data.toList).toArray } : ByteArray) = p.extract 0 j ++ l ++ p.extract (j + 2) p.size) := by
        simp only [Hid]
        rw [← hq, abbr_at e2]
        symm
        apply bytes_of
        simp only [ByteArray.data_append, Array.toList_append, ex_dataA, List.drop_zero, Nat.sub_zero]
        rw [List.take_of_length_le (l := p.data.toList.drop (j + 2)) (by rw [List.length_drop, size_data]; omega)]
      clear hj ho e2
      refine (hJ _).mono ?_
      rintro e w' ⟨rfl, rfl⟩
      go_wp2_with fail
      go_quiet (fail)
      go_wp2
      go_ret
      exact ⟨ret_strA HR.out.symm, _, rfl⟩
  · rw [size_data] at hi
    rw [show (ByteArray.mk #[47]).data.toList = [47] from rfl, e1] at hI
    have hroom : i + 1 ≤ f.size := by
      rcases Lib.occAt_room ho1 with h | h
      · rw [size_data] at h; simpa using h
      · cases h
    have j0 : (0 : Int) ≤ (i : Int) := by omega
    have j1 : (i : Int) + 1 ≤ (f.size : Int) := by omega
    by_cases hs : save = 0
    · subst hs
      have hq : (f.extract 0 i).data.toList = partL f.data.toList 0 := by rw [part_0 e1, ex_dataA]; simp
      have hz : (f.extract 0 i).size ≤ 8000 := by rw [ByteArray.size_extract]; omega
      have hJ := fun w => spec_l03Index (f.extract 0 i) ⟨#[37, 115]⟩ w hz (by decide) (by decide)
      rw [show (ByteArray.mk #[37, 115]).data.toList = [37, 115] from rfl] at hJ
      generalize hqq : partL f.data.toList 0 = q at *
      clear hqq hplen e1 ho1
      go_enter Tryd.func83, Tryd.ntmps83
      go_wp2_with fail
      refine (hI _).mono ?_
      rintro e w' ⟨rfl, rfl⟩
      go_wp2_with fail
      generalize f.extract 0 i = p at *
      clear hI j0 j1 hroom hi
      rcases Lib.index_spec p.data.toList [37, 115] with ⟨e2, _⟩ | ⟨j, e2, hj, ho, _⟩
      · rw [e2] at hJ
        have HR : Hid (({ data := (abbrL q l.data.toList).toArray } : ByteArray) = p) := by simp only [Hid]; rw [← hq, abbr_no e2]
        refine (hJ _).mono ?_
        rintro e w' ⟨rfl, rfl⟩
        go_wp2
        go_ret
        exact ⟨ret_strA HR.out.symm, 0, rfl⟩
      · rw [e2] at hJ
        have hroom : j + 2 ≤ p.size := by
          rcases Lib.occAt_room ho with h | h
          · rw [size_data] at h; simpa using h
          · cases h
        have i0 : (0 : Int) ≤ (j : Int) := by omega
        have i1 : (j : Int) ≤ (p.size : Int) := by omega
        have i2 : (j : Int) + 2 ≤ (p.size : Int) := by omega
        have HR : Hid (({ data := (abbrL q l.data.toList).toArray } : ByteArray) = p.extract 0 j ++ l ++ p.extract (j + 2) p.size) := by
          simp only [Hid]
          rw [← hq, abbr_at e2]
          symm
          apply bytes_of
          simp only [ByteArray.data_append, Array.toList_append, ex_dataA, List.drop_zero, Nat.sub_zero]
          rw [List.take_of_length_le (l := p.data.toList.drop (j + 2)) (by rw [List.length_drop, size_data]; omega)]
        clear hj ho e2
        refine (hJ _).mono ?_
        rintro e w' ⟨rfl, rfl⟩
        go_wp2_with fail
        go_quiet (fail)
        go_wp2
        go_ret
        exact ⟨ret_strA HR.out.symm, _, rfl⟩
    · have hq : (f.extract (i + 1) f.size).data.toList = partL f.data.toList save := by rw [part_1 e1 hs, ex_dataA, List.take_of_length_le (by rw [List.length_drop, size_data]; omega)]
      have hz : (f.extract (i + 1) f.size).size ≤ 8000 := by rw [ByteArray.size_extract]; omega
      have hJ := fun w => spec_l03Index (f.extract (i + 1) f.size) ⟨#[37, 115]⟩ w hz (by decide) (by decide)
      rw [show (ByteArray.mk #[37, 115]).data.toList = [37, 115] from rfl] at hJ
      generalize hqq : partL f.data.toList save = q at *
      have hs' : (save == 0) = false := by simpa using hs
      clear hqq hplen e1 ho1 hs
      go_enter Tryd.func83, Tryd.ntmps83
      go_wp2_with fail
      refine (hI _).mono ?_
      rintro e w' ⟨rfl, rfl⟩
      go_wp2_with fail
      generalize f.extract (i + 1) f.size = p at *
      clear hI j0 j1 hroom hi
      rcases Lib.index_spec p.data.toList [37, 115] with ⟨e2, _⟩ | ⟨j, e2, hj, ho, _⟩
      · rw [e2] at hJ
        have HR : Hid (({ data := (abbrL q l.data.toList).toArray } : ByteArray) = p) := by simp only [Hid]; rw [← hq, abbr_no e2]
        refine (hJ _).mono ?_
        rintro e w' ⟨rfl, rfl⟩
        go_wp2
        go_ret
        exact ⟨ret_strA HR.out.symm, 0, rfl⟩
      · rw [e2] at hJ
        have hroom : j + 2 ≤ p.size := by
          rcases Lib.occAt_room ho with h | h
          · rw [size_data] at h; simpa using h
          · cases h
        have i0 : (0 : Int) ≤ (j : Int) := by omega
        have i1 : (j : Int) ≤ (p.size : Int) := by omega
        have i2 : (j : Int) + 2 ≤ (p.size : Int) := by omega
        have HR : Hid (({ data := (abbrL q l.data.toList).toArray } : ByteArray) = p.extract 0 j ++ l ++ p.extract (j + 2) p.size) := by
          simp only [Hid]
          rw [← hq, abbr_at e2]
          symm
          apply bytes_of
          simp only [ByteArray.data_append, Array.toList_append, ex_dataA, List.drop_zero, Nat.sub_zero]
          rw [List.take_of_length_le (l := p.data.toList.drop (j + 2)) (by rw [List.length_drop, size_data]; omega)]
        clear hj ho e2
        refine (hJ _).mono ?_
        rintro e w' ⟨rfl, rfl⟩
        go_wp2_with fail
        go_quiet (fail)
        go_wp2
        go_ret
        exact ⟨ret_strA HR.out.symm, _, rfl⟩
set_option maxHeartbeats 1000000 in
theorem spec_AbbrOf (f l : ByteArray) (save : Int) (w : World) (hf : f.size ≤ 1048576) (hl : l.size ≤ 1048576) :
    Calls Tryd.prog 44 #[.string f, .string l, .int .i64 save] w fun e w' => e = .returned (.string (abbrD f l save)) ∧ Below w.heap.size w w' := by
  by_cases h1 : f.size ≤ 8000
  · by_cases h2 : l.size ≤ 8000
    · have hA := fun w => spec_l03Abbr f l save w h1 h2
      rw [abbrD_yes ⟨h1, h2⟩]
      generalize (abbrL (partL f.data.toList save) l.data.toList).toArray = x at *
      go_enter Tryd.func44, Tryd.ntmps44
      go_wp2_with fail
      refine (hA _).mono ?_
      rintro e w' ⟨rfl, n, rfl⟩
      go_wp2
      go_ret
      exact ⟨rfl, below_drewN (Below.refl _ _) _⟩
    · rw [abbrD_no (by omega)]
      go_enter Tryd.func44, Tryd.ntmps44
      go_wp2
      go_ret
      exact ⟨rfl, Below.refl _ _⟩
  · rw [abbrD_no (by omega)]
    go_enter Tryd.func44, Tryd.ntmps44
    go_wp2
    go_ret
    exact ⟨rfl, Below.refl _ _⟩
set_option maxHeartbeats 2000000 in
theorem impl_AbbrOf (f l : ByteArray) (save : Int) (w : World) (hM : MxA w) (hf : f.size ≤ 1048576) (hl : l.size ≤ 1048576) :
    Calls Tryd.prog 45 #[.string f, .string l, .int .i64 save] w fun e w' => e = .returned (.string (abbrD f l save)) ∧ Below w.heap.size w w' := by
  by_cases h1 : f.size ≤ 8000
  · by_cases h2 : l.size ≤ 8000
    · obtain ⟨m, hm⟩ := hM
      have hC := Tryd.strings_Cut f ⟨#[47]⟩ m w (by omega) hm
      have hRp : ∀ (p : ByteArray) w', p.data.toList.length ≤ 8000 → Below w.heap.size w w' → Calls Tryd.prog 85 #[.string p, .string ⟨#[37, 115]⟩, .string l, .int .i64 1] w' fun e w'' => e = .returned (.string ⟨(abbrL p.data.toList l.data.toList).toArray⟩) ∧ Below w'.heap.size w' w'' := fun p w' hp hb => by
        rw [size_data] at hp
        have hcb := countB_le p ⟨#[37, 115]⟩ (by decide)
        have := Tryd.strings_Replace p ⟨#[37, 115]⟩ l 1 m w' (by omega) (((bcell hb).1 _ _ (World.block_lt_of_cell? _ _ hm)).trans hm) (by decide) (by
          have := Nat.mul_le_mul (Nat.le_trans hcb hp) h2
          omega)
        rw [show (ByteArray.mk #[37, 115]).data.toList = [37, 115] from rfl, replace_one] at this
        exact this
      rw [abbrD_yes ⟨h1, h2⟩]
      rw [show (ByteArray.mk #[47]).data.toList = [47] from rfl] at hC
      have hplen := part_len f.data.toList save
      rw [size_data] at hplen
      have hd := size_data f
      rcases Lib.index_spec f.data.toList [47] with ⟨e1, _⟩ | ⟨i, e1, hi, ho1, _⟩
      · rw [cut_no e1] at hC
        rw [part_no e1]
        have hR2 := fun w' hb => hRp ⟨f.data.toList.toArray⟩ w' (by simp; omega) hb
        simp only at hR2
        generalize (abbrL f.data.toList l.data.toList).toArray = x at *
        generalize f.data.toList.toArray = d at *
        clear hRp e1 hplen hd
        go_enter Tryd.func45, Tryd.ntmps45
        go_wp2_with fail
        refine hC.mono ?_
        rintro e w' ⟨rfl, n, rfl⟩
        go_wp2_with fail
        refine (hR2 _ (below_drewN (Below.refl _ _) _)).mono ?_
        rintro e w' ⟨rfl, hb⟩
        go_wp2
        go_ret
        exact ⟨rfl, (below_drewN (Below.refl _ _) n).trans hb⟩
      · rw [cut_at e1] at hC
        by_cases hs : save = 0
        · subst hs
          rw [part_0 e1]
          have hR2 := fun w' hb => hRp ⟨(f.data.toList.take i).toArray⟩ w' (by simp; omega) hb
          simp only at hR2
          generalize (abbrL (f.data.toList.take i) l.data.toList).toArray = x at *
          generalize (f.data.toList.take i).toArray = d at *
          generalize (f.data.toList.drop (i + 1)).toArray = d2 at *
          clear hRp e1 hplen hd
          go_enter Tryd.func45, Tryd.ntmps45
          go_wp2_with fail
          refine hC.mono ?_
          rintro e w' ⟨rfl, n, rfl⟩
          go_wp2_with fail
          refine (hR2 _ (below_drewN (Below.refl _ _) _)).mono ?_
          rintro e w' ⟨rfl, hb⟩
          go_wp2
          go_ret
          exact ⟨rfl, (below_drewN (Below.refl _ _) n).trans hb⟩
        · rw [part_1 e1 hs]
          have hR2 := fun w' hb => hRp ⟨(f.data.toList.drop (i + 1)).toArray⟩ w' (by simp; omega) hb
          simp only at hR2
          generalize (abbrL (f.data.toList.drop (i + 1)) l.data.toList).toArray = x at *
          generalize (f.data.toList.take i).toArray = d at *
          generalize (f.data.toList.drop (i + 1)).toArray = d2 at *
          clear hRp e1 hplen hd
          go_enter Tryd.func45, Tryd.ntmps45
          go_wp2_with fail
          refine hC.mono ?_
          rintro e w' ⟨rfl, n, rfl⟩
          go_wp2_with fail
          refine (hR2 _ (below_drewN (Below.refl _ _) _)).mono ?_
          rintro e w' ⟨rfl, hb⟩
          go_wp2
          go_ret
          exact ⟨rfl, (below_drewN (Below.refl _ _) n).trans hb⟩
    · rw [abbrD_no (by omega)]
      go_enter Tryd.func45, Tryd.ntmps45
      go_wp2
      go_ret
      exact ⟨rfl, Below.refl _ _⟩
  · rw [abbrD_no (by omega)]
    go_enter Tryd.func45, Tryd.ntmps45
    go_wp2
    go_ret
    exact ⟨rfl, Below.refl _ _⟩
end Go.Proofs.YtibhbpgnjikjnaaDoor
