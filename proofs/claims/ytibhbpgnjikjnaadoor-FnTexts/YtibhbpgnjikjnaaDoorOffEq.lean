/- What the program reads of an offset's text is what its parts tell. -/
import Derived.Test.YtibhbpgnjikjnaaDoorColons
namespace Go.Proofs.YtibhbpgnjikjnaaDoor

/-- hours: at most three digits. -/
def hdB (p : ByteArray) : Bool := decide (p.size ≤ 3) && digs p
/-- two digits below 60. -/
def twB (p : ByteArray) : Bool := decide (p.size = 2) && (digs p && decide (drN p < 60))
def pB : List ByteArray → Bool
  | [a] => hdB a
  | [a, b] => hdB a && twB b
  | [a, b, c] => hdB a && (twB b && twB c)
  | _ => false
def pN : List ByteArray → Int
  | [a] => drN a * 3600
  | [a, b] => drN a * 3600 + drN b * 60
  | [a, b, c] => drN a * 3600 + drN b * 60 + drN c
  | _ => 0
theorem ext_all (s : ByteArray) : s.extract 0 s.size = s := by simp
theorem hrB_eq (s : ByteArray) : hrB s = hdB s := by
  unfold hrB hdB; split
  · rename_i h; simp [h]
  · rename_i h; simp [h]
theorem hdB_t {s : ByteArray} (h : hdB s = true) : s.size ≤ 3 ∧ digs s = true := by
  unfold hdB at h; simpa using h
theorem hrN_eq {s : ByteArray} (h : hdB s = true) : hrN s = drN s * 3600 := by unfold hrN; rw [if_pos (hdB_t h).1]
theorem ext_ext (s : ByteArray) (a b c d : Nat) (hb : b ≤ s.size) (hd : a + d ≤ b) : (s.extract a b).extract c d = s.extract (a + c) (a + d) := by
  apply ByteArray.ext_getElem
  · simp only [ByteArray.size_extract]; omega
  · intro i h1 h2
    simp only [ByteArray.getElem_extract]
    congr 1; omega
/-- what minutes asks of a text. -/
theorem mnB_eq {s : ByteArray} (h3 : 3 ≤ s.size) : mnB s = (decide (byteAt s (s.size - 3) = 58) && (hdB (s.extract 0 (s.size - 3)) && twB (s.extract (s.size - 2) s.size))) := by
  have ef : frontS s = s.extract 0 (s.size - 3) := by unfold frontS; rw [if_neg (by omega)]
  have eb : backS s = s.extract (s.size - 3) s.size := by unfold backS; rw [if_neg (by omega)]
  have sz : (s.extract (s.size - 3) s.size).size = 3 := by rw [ByteArray.size_extract]; omega
  have e0 : byteAt (s.extract (s.size - 3) s.size) 0 = byteAt s (s.size - 3) := byteAt_extract (by omega) (by omega)
  have e1 : (s.extract (s.size - 3) s.size).extract 1 3 = s.extract (s.size - 2) s.size := by
    rw [ext_ext _ _ _ _ _ (by omega) (by omega), show s.size - 3 + 1 = s.size - 2 by omega, show s.size - 3 + 3 = s.size by omega]
  have e2 : (s.extract (s.size - 2) s.size).size = 2 := by rw [ByteArray.size_extract]; omega
  unfold mnB sixB sixH twB
  rw [ef, eb, hrB_eq, sz, e0, e1, e2]
  cases hdB (s.extract 0 (s.size - 3)) <;> cases h : decide (byteAt s (s.size - 3) = 58) <;> simp_all
theorem mnB_lt {s : ByteArray} (h : s.size < 3) : mnB s = false := by
  have eb : backS s = ⟨#[]⟩ := by unfold backS; rw [if_pos h]
  unfold mnB sixB sixH
  rw [eb]; simp [ByteArray.size]
theorem six_back {s : ByteArray} (h3 : 3 ≤ s.size) (hc : byteAt s (s.size - 3) = 58) : sixN (backS s) = drN (s.extract (s.size - 2) s.size) ∧ sixB (backS s) = twB (s.extract (s.size - 2) s.size) := by
  have eb : backS s = s.extract (s.size - 3) s.size := by unfold backS; rw [if_neg (by omega)]
  have sz : (s.extract (s.size - 3) s.size).size = 3 := by rw [ByteArray.size_extract]; omega
  have e0 : byteAt (s.extract (s.size - 3) s.size) 0 = 58 := (byteAt_extract (by omega) (by omega)).trans hc
  have e1 : (s.extract (s.size - 3) s.size).extract 1 3 = s.extract (s.size - 2) s.size := by
    rw [ext_ext _ _ _ _ _ (by omega) (by omega), show s.size - 3 + 1 = s.size - 2 by omega, show s.size - 3 + 3 = s.size by omega]
  have e2 : (s.extract (s.size - 2) s.size).size = 2 := by rw [ByteArray.size_extract]; omega
  have hh : sixH (s.extract (s.size - 3) s.size) = true := decide_eq_true ⟨sz, e0⟩
  unfold sixN sixB twB
  rw [eb, if_pos hh, hh, sz, e1, e2]
  simp
theorem mnN_eq {s : ByteArray} (h3 : 3 ≤ s.size) (h : mnB s = true) : mnN s = drN (s.extract 0 (s.size - 3)) * 3600 + drN (s.extract (s.size - 2) s.size) * 60 := by
  rw [mnB_eq h3] at h
  simp only [Bool.and_eq_true, decide_eq_true_eq] at h
  have ef : frontS s = s.extract 0 (s.size - 3) := by unfold frontS; rw [if_neg (by omega)]
  unfold mnN
  rw [ef, hrN_eq h.2.1, (six_back h3 h.1).1]
/-- what seconds asks of a text. -/
theorem scB_t {s : ByteArray} (h : scB s = true) : 3 ≤ s.size ∧ byteAt s (s.size - 3) = 58 ∧ mnB (s.extract 0 (s.size - 3)) = true ∧ twB (s.extract (s.size - 2) s.size) = true := by
  unfold scB at h
  simp only [Bool.and_eq_true] at h
  have h3 : 3 ≤ s.size := by
    rcases Nat.lt_or_ge s.size 3 with hl | hl
    · have eb : backS s = ⟨#[]⟩ := by unfold backS; rw [if_pos hl]
      have := h.2
      unfold sixB sixH at this
      rw [eb] at this; simp [ByteArray.size] at this
    · exact hl
  have ef : frontS s = s.extract 0 (s.size - 3) := by unfold frontS; rw [if_neg (by omega)]
  have eb : backS s = s.extract (s.size - 3) s.size := by unfold backS; rw [if_neg (by omega)]
  have e0 : byteAt (s.extract (s.size - 3) s.size) 0 = byteAt s (s.size - 3) := byteAt_extract (by omega) (by omega)
  have hc : byteAt s (s.size - 3) = 58 := by
    have := h.2
    unfold sixB at this
    simp only [Bool.and_eq_true] at this
    have := (of_decide_eq_true this.1).2
    rw [eb, e0] at this
    exact this
  rw [ef] at h
  exact ⟨h3, hc, h.1, (six_back h3 hc).2 ▸ h.2⟩
theorem scB_mk {s : ByteArray} (h3 : 3 ≤ s.size) (hc : byteAt s (s.size - 3) = 58) (h1 : mnB (s.extract 0 (s.size - 3)) = true) (h2 : twB (s.extract (s.size - 2) s.size) = true) : scB s = true := by
  have ef : frontS s = s.extract 0 (s.size - 3) := by unfold frontS; rw [if_neg (by omega)]
  unfold scB
  rw [ef, h1, (six_back h3 hc).2, h2]; rfl
theorem scN_eq {s : ByteArray} (h3 : 3 ≤ s.size) (hc : byteAt s (s.size - 3) = 58) : scN s = mnN (s.extract 0 (s.size - 3)) + drN (s.extract (s.size - 2) s.size) := by
  have ef : frontS s = s.extract 0 (s.size - 3) := by unfold frontS; rw [if_neg (by omega)]
  unfold scN
  rw [ef, (six_back h3 hc).1]
theorem hd_none {s : ByteArray} {a b : Nat} (hb : b ≤ s.size) (h : hdB (s.extract a b) = true) : ∀ i, a ≤ i → i < b → byteAt s i ≠ 58 := digs_extract hb (hdB_t h).2
theorem twB_t {p : ByteArray} (h : twB p = true) : p.size = 2 ∧ digs p = true := by
  unfold twB at h
  simp only [Bool.and_eq_true, decide_eq_true_eq] at h
  exact ⟨h.1, h.2.1⟩
theorem tw_none {s : ByteArray} {a b : Nat} (hb : b ≤ s.size) (h : twB (s.extract a b) = true) : ∀ i, a ≤ i → i < b → byteAt s i ≠ 58 := digs_extract hb (twB_t h).2
theorem mnB_t {s : ByteArray} (h : mnB s = true) : 3 ≤ s.size ∧ byteAt s (s.size - 3) = 58 ∧ hdB (s.extract 0 (s.size - 3)) = true ∧ twB (s.extract (s.size - 2) s.size) = true := by
  rcases Nat.lt_or_ge s.size 3 with hl | hl
  · rw [mnB_lt hl] at h; cases h
  · rw [mnB_eq hl] at h
    simp only [Bool.and_eq_true, decide_eq_true_eq] at h
    exact ⟨hl, h.1, h.2.1, h.2.2⟩
/-- where the program reads an offset by minutes: one colon. -/
theorem mn_parts {s : ByteArray} (h : mnB s = true) : parts s = [s.extract 0 (s.size - 3), s.extract (s.size - 2) s.size] := by
  obtain ⟨h3, hc, h1, h2⟩ := mnB_t h
  have := parts_one (s := s) (j := s.size - 3) (by omega) hc (fun i hi => hd_none (by omega) h1 i (by omega) hi) (fun i i1 i2 => tw_none (by omega) h2 i (by omega) i2)
  rw [this, show s.size - 3 + 1 = s.size - 2 by omega]
/-- by seconds: two colons. -/
theorem sc_all {s : ByteArray} (h : scB s = true) : 6 ≤ s.size ∧ byteAt s (s.size - 6) = 58 ∧ byteAt s (s.size - 3) = 58 ∧ hdB (s.extract 0 (s.size - 6)) = true ∧ twB (s.extract (s.size - 5) (s.size - 3)) = true ∧ twB (s.extract (s.size - 2) s.size) = true := by
  obtain ⟨h3, hc, h1, h2⟩ := scB_t h
  obtain ⟨g3, gc, g1, g2⟩ := mnB_t h1
  have sz : (s.extract 0 (s.size - 3)).size = s.size - 3 := by rw [ByteArray.size_extract]; omega
  rw [sz] at g3 gc g1 g2
  rw [byteAt_extract (by omega) (by omega), show 0 + (s.size - 3 - 3) = s.size - 6 by omega] at gc
  rw [ext_ext _ _ _ _ _ (by omega) (by omega), show 0 + 0 = 0 by omega, show 0 + (s.size - 3 - 3) = s.size - 6 by omega] at g1
  rw [ext_ext _ _ _ _ _ (by omega) (by omega), show 0 + (s.size - 3 - 2) = s.size - 5 by omega, show 0 + (s.size - 3) = s.size - 3 by omega] at g2
  exact ⟨by omega, gc, hc, g1, g2, h2⟩
theorem sc_parts {s : ByteArray} (h : scB s = true) : parts s = [s.extract 0 (s.size - 6), s.extract (s.size - 5) (s.size - 3), s.extract (s.size - 2) s.size] := by
  obtain ⟨h6, gc, hc, g1, g2, h2⟩ := sc_all h
  have := parts_two (s := s) (j := s.size - 6) (k := s.size - 3) (by omega) (by omega) gc hc (fun i hi => hd_none (by omega) g1 i (by omega) hi) (fun i i1 i2 => tw_none (by omega) g2 i (by omega) i2) (fun i i1 i2 => tw_none (by omega) h2 i (by omega) i2)
  rw [this, show s.size - 6 + 1 = s.size - 5 by omega, show s.size - 3 + 1 = s.size - 2 by omega]
theorem hr_parts {s : ByteArray} (h : hdB s = true) : parts s = [s] := by
  rw [parts_none (digs_none (hdB_t h).2), ext_all]
/-- what the program accepts the parts accept, with the same number. -/
theorem rd_sound {s : ByteArray} (h : rdB s = true) : pB (parts s) = true ∧ rdN s = pN (parts s) := by
  unfold rdB at h
  unfold rdN
  cases h1 : hrB s
  · cases h2 : mnB s
    · have h3 : scB s = true := by rw [h1, h2] at h; simpa using h
      obtain ⟨h6, gc, hc, g1, g2, h5⟩ := sc_all h3
      have hm : mnB (s.extract 0 (s.size - 3)) = true := (scB_t h3).2.2.1
      have sz : (s.extract 0 (s.size - 3)).size = s.size - 3 := by rw [ByteArray.size_extract]; omega
      have e := mnN_eq (s := s.extract 0 (s.size - 3)) (by omega) hm
      rw [sz, ext_ext _ _ _ _ _ (by omega) (by omega), ext_ext _ _ _ _ _ (by omega) (by omega), show 0 + 0 = 0 by omega, show 0 + (s.size - 3 - 3) = s.size - 6 by omega, show 0 + (s.size - 3 - 2) = s.size - 5 by omega, show 0 + (s.size - 3) = s.size - 3 by omega] at e
      rw [sc_parts h3]
      refine ⟨by simp [pB, g1, g2, h5], ?_⟩
      rw [if_neg (by simp), if_neg (by simp), if_pos h3, scN_eq (by omega) hc, e]
      rfl
    · obtain ⟨h3, hc, g1, g2⟩ := mnB_t h2
      rw [mn_parts h2]
      refine ⟨by simp [pB, g1, g2], ?_⟩
      rw [if_neg (by simp), if_pos rfl, mnN_eq h3 h2]
      rfl
  · have h1' : hdB s = true := by rw [← hrB_eq]; exact h1
    rw [hr_parts h1']
    refine ⟨h1', ?_⟩
    rw [if_pos rfl, hrN_eq h1']
    rfl
/-- what the parts accept the program accepts. -/
theorem rd_complete {s : ByteArray} (h : pB (parts s) = true) : rdB s = true := by
  unfold rdB
  rcases first_colon s 0 with hn | ⟨j, _, j2, jc, jn⟩
  · rw [parts_none (fun i hi => hn i (by omega) hi), ext_all] at h
    have : hrB s = true := by rw [hrB_eq]; exact h
    rw [this]; rfl
  rcases first_colon s (j + 1) with hn | ⟨k, k1, k2, kc, kn⟩
  · rw [parts_one j2 jc (fun i hi => jn i (by omega) hi) (fun i i1 i2 => hn i (by omega) i2)] at h
    simp only [pB, Bool.and_eq_true] at h
    have sz := (twB_t h.2).1
    rw [ByteArray.size_extract] at sz
    have ej : j = s.size - 3 := by omega
    subst ej
    have hm : mnB s = true := by
      rw [mnB_eq (by omega)]
      rw [show s.size - 3 + 1 = s.size - 2 by omega] at h
      simp [jc, h.1, h.2]
    rw [hm]; simp
  rcases first_colon s (k + 1) with hn | ⟨m, m1, m2, mc, mn⟩
  · rw [parts_two (by omega) k2 jc kc (fun i hi => jn i (by omega) hi) (fun i i1 i2 => kn i (by omega) i2) (fun i i1 i2 => hn i (by omega) i2)] at h
    simp only [pB, Bool.and_eq_true] at h
    have s1 := (twB_t h.2.1).1
    have s2 := (twB_t h.2.2).1
    rw [ByteArray.size_extract] at s1 s2
    have ek : k = s.size - 3 := by omega
    have ej : j = s.size - 6 := by omega
    subst ek ej
    have sz : (s.extract 0 (s.size - 3)).size = s.size - 3 := by rw [ByteArray.size_extract]; omega
    have hm : mnB (s.extract 0 (s.size - 3)) = true := by
      rw [mnB_eq (by omega), sz, ext_ext _ _ _ _ _ (by omega) (by omega), ext_ext _ _ _ _ _ (by omega) (by omega), byteAt_extract (by omega) (by omega), show 0 + 0 = 0 by omega, show 0 + (s.size - 3 - 3) = s.size - 6 by omega, show 0 + (s.size - 3 - 2) = s.size - 5 by omega, show 0 + (s.size - 3) = s.size - 3 by omega]
      have h2 := h.2.1
      rw [show s.size - 6 + 1 = s.size - 5 by omega] at h2
      simp [jc, h.1, h2]
    have h3 := h.2.2
    rw [show s.size - 3 + 1 = s.size - 2 by omega] at h3
    rw [scB_mk (by omega) kc hm h3]; simp
  · have := parts_many (s := s) (j := j) (k := k) (m := m) (by omega) (by omega) m2 jc kc mc
    match hp : parts s with
    | [] => rw [hp] at this; simp at this
    | [a] => rw [hp] at this; simp at this
    | [a, b] => rw [hp] at this; simp at this
    | [a, b, c] => rw [hp] at this; simp at this
    | a :: b :: c :: d :: r => rw [hp] at h; simp [pB] at h
end Go.Proofs.YtibhbpgnjikjnaaDoor
