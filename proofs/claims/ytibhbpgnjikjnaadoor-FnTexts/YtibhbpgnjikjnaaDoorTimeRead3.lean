/- The contracts of TimeRead, the program's and the model's: they tell the same. -/
import Derived.Test.YtibhbpgnjikjnaaDoorTimeRead2
namespace Go.Proofs.YtibhbpgnjikjnaaDoor
open Go.RowKit

theorem ex_ex (s : ByteArray) (a b c d : Nat) (hb : b ≤ s.size) (hd : a + d ≤ b) : (s.extract a b).extract c d = s.extract (a + c) (a + d) := by
  apply ByteArray.ext_getElem
  · simp only [ByteArray.size_extract]; omega
  · intro i h1 h2
    simp only [ByteArray.getElem_extract]
    congr 1; omega
/-- what the program asks of a time's text. -/
def trB (s : ByteArray) : Bool := decide (s.size = 19) && (decide (byteAt s 10 = 32) && (dtB (s.extract 0 10) && ckB (s.extract 11 19)))
theorem six_ex {s : ByteArray} {a b : Nat} (hb : b ≤ s.size) (hab : b = a + 3) : (sixB (s.extract a b) = true ↔ byteAt s a = 58 ∧ digs (s.extract (a + 1) b) = true ∧ drN (s.extract (a + 1) b) < 60) ∧ (byteAt s a = 58 → sixN (s.extract a b) = drN (s.extract (a + 1) b)) := by
  have sz : (s.extract a b).size = 3 := by rw [ByteArray.size_extract]; omega
  have e0 : byteAt (s.extract a b) 0 = byteAt s a := byteAt_ex hb (by omega)
  have e1 : (s.extract a b).extract 1 3 = s.extract (a + 1) b := by rw [ex_ex _ _ _ _ _ hb (by omega)]; congr 1; omega
  constructor
  · unfold sixB sixH
    rw [sz, e0, e1]
    simp
  · intro h
    unfold sixN sixH
    rw [sz, e0, e1, if_pos (by simp [h])]
theorem tr_iff (s : ByteArray) : trB s = true ↔ okT s := by
  unfold trB okT timeForm
  by_cases hz : s.size = 19
  · have x1 : (s.extract 0 10).extract 0 4 = s.extract 0 4 := ex_ex s 0 10 0 4 (by omega) (by omega)
    have x2 : (s.extract 0 10).extract 5 7 = s.extract 5 7 := ex_ex s 0 10 5 7 (by omega) (by omega)
    have x3 : (s.extract 0 10).extract 8 10 = s.extract 8 10 := ex_ex s 0 10 8 10 (by omega) (by omega)
    have x4 : (s.extract 11 19).extract 0 2 = s.extract 11 13 := ex_ex s 11 19 0 2 (by omega) (by omega)
    have x5 : (s.extract 11 19).extract 2 5 = s.extract 13 16 := ex_ex s 11 19 2 5 (by omega) (by omega)
    have x6 : (s.extract 11 19).extract 5 8 = s.extract 16 19 := ex_ex s 11 19 5 8 (by omega) (by omega)
    have y4 : byteAt (s.extract 0 10) 4 = byteAt s 4 := byteAt_ex (by omega) (by omega)
    have y7 : byteAt (s.extract 0 10) 7 = byteAt s 7 := byteAt_ex (by omega) (by omega)
    have s1 := (six_ex (s := s) (a := 13) (b := 16) (by omega) rfl).1
    have s2 := (six_ex (s := s) (a := 16) (b := 19) (by omega) rfl).1
    simp only [Nat.reduceAdd] at s1 s2
    unfold dtB ckB ptB
    rw [x1, x2, x3, x4, x5, x6, y4, y7]
    simp only [Bool.and_eq_true, decide_eq_true_eq, s1, s2]
    constructor
    · rintro ⟨_, h10, ⟨a, b, c, ⟨d, e⟩, f⟩, g, ⟨h, i, j⟩, ⟨k, l, m⟩, n⟩
      exact ⟨⟨hz, a, d, b, e, c, h10, g, h, i, k, l⟩, f, n, j, m⟩
    · rintro ⟨⟨_, a, d, b, e, c, h10, g, h, i, k, l⟩, f, n, j, m⟩
      exact ⟨hz, h10, ⟨a, b, c, ⟨d, e⟩, f⟩, g, ⟨h, i, j⟩, ⟨k, l, m⟩, n⟩
  · simp [hz]
/-- the number of what may be read. -/
theorem tr_num {s : ByteArray} (h : okT s) : num (drN (s.extract 0 4)) (drN (s.extract 5 7)) (drN (s.extract 8 10)) * 86400 + ckN (s.extract 11 19) = rdT s := by
  obtain ⟨⟨hz, a, d, b, e, c, h10, g, h13, i, h16, l⟩, f, n, j, m⟩ := h
  have x4 : (s.extract 11 19).extract 0 2 = s.extract 11 13 := ex_ex s 11 19 0 2 (by omega) (by omega)
  have x5 : (s.extract 11 19).extract 2 5 = s.extract 13 16 := ex_ex s 11 19 2 5 (by omega) (by omega)
  have x6 : (s.extract 11 19).extract 5 8 = s.extract 16 19 := ex_ex s 11 19 5 8 (by omega) (by omega)
  have s1 := (six_ex (s := s) (a := 13) (b := 16) (by omega) rfl).2 h13
  have s2 := (six_ex (s := s) (a := 16) (b := 19) (by omega) rfl).2 h16
  simp only [Nat.reduceAdd] at s1 s2
  unfold ckN rdT
  rw [x4, x5, x6, s1, s2]
  omega
theorem ld_dr {s : ByteArray} (h : digs s = true) : ldN s = drN s := by rw [ldN_t h, drN_t h]
/-- what the model asks of a text of 19 bytes. -/
theorem ok_model {s : ByteArray} (h : okT s) : vldB (ldN (s.extract 0 4)) (ldN (s.extract 5 7)) (ldN (s.extract 8 10)) = true ∧ mrH s = true ∧ mrN s = rdT s ∧ (timeV (mrN s) == s.toList) = true := by
  have h0 := h
  obtain ⟨⟨hz, a, d, b, e, c, h10, g, h13, i, h16, l⟩, f, n, j, m⟩ := h
  have p1 := (drN_bd (s.extract 11 13) (ex_size (by omega) (by omega))).1
  have p2 := (drN_bd (s.extract 14 16) (ex_size (by omega) (by omega))).1
  have p3 := (drN_bd (s.extract 17 19) (ex_size (by omega) (by omega))).1
  have en : mrN s = rdT s := by
    unfold mrN rdT
    rw [ld_dr a, ld_dr b, ld_dr c, ld_dr g, ld_dr i, ld_dr l]
    omega
  refine ⟨?_, ?_, en, ?_⟩
  · rw [ld_dr a, ld_dr b, ld_dr c]; exact f
  · unfold mrH
    rw [ld_dr g, ld_dr i, ld_dr l]
    exact decide_eq_true ⟨p1, n, p2, p3⟩
  · rw [en, beq_iff_eq]
    have := congrArg ByteArray.toList (ok_told h0).1
    rw [this]; simp [S]
theorem model_ok {s : ByteArray} (hz : s.size = 19) (h : (timeV (mrN s) == s.toList) = true) : okT s ∧ mrN s = rdT s := by
  rw [beq_iff_eq] at h
  have hs : s = S (timeV (mrN s)) := by
    rw [h]
    apply ByteArray.ext
    simp [ByteArray.toList_eq]
  cases hb : isB (mrN s) (-62135596800) 253402300799
  · rw [timeV_no hb] at hs
    rw [hs] at hz
    simp [ByteArray.size] at hz
  · have ⟨h1, h2⟩ := isB_of_t hb
    rw [timeV_ok h1 h2] at hs
    have := told_ok h1 h2 hs
    exact ⟨this.1, this.2.symm⟩
set_option maxHeartbeats 400000 in
theorem l01Read_size (s : ByteArray) (w : World) (hz : s.size ≠ 19) (_hs : s.size ≤ 8000) :
    Calls Tryd.prog 81 #[.string s] w fun e w' => e = .returned (.tuple #[.int .i64 0, .bool false]) ∧ Below w.heap.size w w' := by
  have hs' : ((s.size : Int) != 19) = true := by simp; omega
  go_enter Tryd.func81, Tryd.ntmps81
  go_wp2
  go_ret2
  exact ⟨rfl, Below.refl _ _⟩
/-- the model's l01Read, whole. -/
theorem spec_l01Read (s : ByteArray) (w : World) (hs : s.size ≤ 8000) :
    Calls Tryd.prog 81 #[.string s] w fun e w' => (∃ n, e = .returned (.tuple #[.int .i64 n, .bool (trB s)]) ∧ (trB s = true → n = rdT s)) ∧ Below w.heap.size w w' := by
  have NO : ¬ okT s → trB s = false := fun h => by
    cases hb : trB s
    · rfl
    · exact absurd ((tr_iff s).mp hb) h
  by_cases hz : s.size = 19
  · cases hv : vldB (ldN (s.extract 0 4)) (ldN (s.extract 5 7)) (ldN (s.extract 8 10))
    · have := NO fun h => by rw [(ok_model h).1] at hv; cases hv
      rw [this]
      exact (l01Read_no s w hz hv).mono fun e w' ⟨he, hb⟩ => ⟨⟨0, he, fun h => by cases h⟩, hb⟩
    · cases hh : mrH s
      · have := NO fun h => by rw [(ok_model h).2.1] at hh; cases hh
        rw [this]
        exact (l01Read_hno s w hz hv hh).mono fun e w' ⟨⟨n, he⟩, hb⟩ => ⟨⟨n, he, fun h => by cases h⟩, hb⟩
      · refine (l01Read_yes s w hz hv hh).mono fun e w' ⟨he, hb⟩ => ⟨⟨mrN s, ?_, fun h => ((ok_model ((tr_iff s).mp h)).2.2.1)⟩, hb⟩
        have : (timeV (mrN s) == s.toList) = trB s := by
          cases hq : (timeV (mrN s) == s.toList)
          · exact (NO fun h => by rw [(ok_model h).2.2.2] at hq; cases hq).symm
          · exact ((tr_iff s).mpr (model_ok hz hq).1).symm
        rw [he, this]
  · have := NO fun h => hz h.1.1
    rw [this]
    exact (l01Read_size s w hz hs).mono fun e w' ⟨he, hb⟩ => ⟨⟨0, he, fun h => by cases h⟩, hb⟩
/-- what both tell. -/
def trN (s : ByteArray) : Int := if trB s = true then rdT s else 0
def trC (s : ByteArray) : Int := if trB s = true then 0 else if 8000 < s.size then 2 else 3
set_option maxHeartbeats 400000 in
theorem spec_TimeRead (s : ByteArray) (w : World) (hm : s.size ≤ maxLen) :
    Calls Tryd.prog 39 #[.string s] w fun e w' => e = .returned (.agg #[.int .i64 (trN s), .int .i64 (trC s)]) ∧ Below w.heap.size w w' := by
  unfold maxLen at hm
  by_cases h8 : 8000 < s.size
  · have : trB s = false := by
      cases hb : trB s
      · rfl
      · have := ((tr_iff s).mp hb).1.1; omega
    unfold trN trC
    rw [this, if_pos h8]
    clear this
    go_enter Tryd.func39, Tryd.ntmps39
    go_wp2
    exact bodyPost_ret (v := .agg #[.int .i64 0, .int .i64 2]) (by simp [results, Tryd.results39, go_sem]) rfl ⟨rfl, (Below.refl _ _).alloc (Nat.le_refl _) _⟩
  have hO := fun w => spec_l01Read s w (by omega)
  unfold trN trC
  rw [if_neg h8]
  cases h : trB s
  · rw [h] at hO
    clear h
    simp only [Bool.false_eq_true, if_false]
    go_enter Tryd.func39, Tryd.ntmps39
    go_wp2_with fail
    refine (hO _).mono ?_
    rintro e w1 ⟨⟨n, rfl, _⟩, hb⟩
    obtain ⟨hc, hf⟩ := bcell hb
    have hz : w.heap.size < w1.heap.size := by have := hb.size; simp at this; omega
    have hB : Below w.heap.size w w1 := ((Below.refl _ _).alloc (Nat.le_refl _) _).trans (hb.mono (by simp))
    go_wp2
    exact bodyPost_ret (v := .agg #[.int .i64 0, .int .i64 3]) (by simp [results, Tryd.results39, go_sem, hc]) rfl ⟨rfl, (hB.setCell (Nat.le_refl _) _).setCell (Nat.le_refl _) _⟩
  · rw [h] at hO
    generalize rdT s = k at *
    clear h
    simp only [if_true]
    go_enter Tryd.func39, Tryd.ntmps39
    go_wp2_with fail
    refine (hO _).mono ?_
    rintro e w1 ⟨⟨n, rfl, hn⟩, hb⟩
    obtain rfl : n = k := by simpa using hn
    obtain ⟨hc, hf⟩ := bcell hb
    have hz : w.heap.size < w1.heap.size := by have := hb.size; simp at this; omega
    have hB : Below w.heap.size w w1 := ((Below.refl _ _).alloc (Nat.le_refl _) _).trans (hb.mono (by simp))
    go_wp2
    exact bodyPost_ret (v := .agg #[.int .i64 n, .int .i64 0]) (by simp [results, Tryd.results39, go_sem, hc]) rfl ⟨rfl, (hB.setCell (Nat.le_refl _) _).setCell (Nat.le_refl _) _⟩
set_option maxHeartbeats 400000 in
theorem laws_eqNumOutT (n c : Int) (w : World) :
    Calls Tryd.prog 43 #[.agg #[.int .i64 n, .int .i64 c], .agg #[.int .i64 n, .int .i64 c]] w fun e w' => e = .returned (.bool true) ∧ Below w.heap.size w w' := by
  go_enter Tryd.func43, Tryd.ntmps43
  go_wp2
  go_ret
  exact ⟨rfl, ((Below.refl _ _).alloc (Nat.le_refl _) _).alloc (by simp) _⟩
end Go.Proofs.YtibhbpgnjikjnaaDoor
