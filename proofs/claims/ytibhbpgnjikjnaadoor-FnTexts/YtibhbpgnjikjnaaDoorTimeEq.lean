/- The texts of times: what stands in them, byte by byte; the program and the model read the same. -/
import Derived.Test.YtibhbpgnjikjnaaDoorTimeText
import Derived.Test.YtibhbpgnjikjnaaDoorDigs
import Derived.Test.YtibhbpgnjikjnaaDoorRounds
namespace Go.Proofs.YtibhbpgnjikjnaaDoor

theorem two_digs {s : ByteArray} {a b : Nat} (h : b ≤ s.size) (hab : b = a + 2) : digs (s.extract a b) = true ↔ (48 ≤ byteAt s a ∧ byteAt s a ≤ 57 ∧ 48 ≤ byteAt s (a + 1) ∧ byteAt s (a + 1) ≤ 57) := by
  have hz : (s.extract a b).size = 2 := by rw [ByteArray.size_extract]; omega
  have e0 : byteAt (s.extract a b) 0 = byteAt s a := byteAt_ex h (by omega)
  have e1 : byteAt (s.extract a b) 1 = byteAt s (a + 1) := byteAt_ex h (by omega)
  constructor
  · intro hd
    have := digs_t hd
    have d0 := digB_t (this.2 0 (by omega))
    have d1 := digB_t (this.2 1 (by omega))
    rw [e0] at d0; rw [e1] at d1
    omega
  · intro hd
    refine digs_yes (by omega) fun i hi => ?_
    rcases (show i = 0 ∨ i = 1 by omega) with rfl | rfl
    · rw [e0]; exact decide_eq_true (by omega)
    · rw [e1]; exact decide_eq_true (by omega)
theorem two_num {s : ByteArray} {a b : Nat} (h : b ≤ s.size) (hab : b = a + 2) : numAt (s.extract a b) (s.extract a b).size = 10 * (byteAt s a - 48) + (byteAt s (a + 1) - 48) := by
  have hz : (s.extract a b).size = 2 := by rw [ByteArray.size_extract]; omega
  have e0 : byteAt (s.extract a b) 0 = byteAt s a := byteAt_ex h (by omega)
  have e1 : byteAt (s.extract a b) 1 = byteAt s (a + 1) := byteAt_ex h (by omega)
  rw [hz]
  simp only [numAt, e0, e1]
  omega
theorem four_digs {s : ByteArray} (h : 4 ≤ s.size) : digs (s.extract 0 4) = true ↔ (48 ≤ byteAt s 0 ∧ byteAt s 0 ≤ 57 ∧ 48 ≤ byteAt s 1 ∧ byteAt s 1 ≤ 57 ∧ 48 ≤ byteAt s 2 ∧ byteAt s 2 ≤ 57 ∧ 48 ≤ byteAt s 3 ∧ byteAt s 3 ≤ 57) := by
  have hz : (s.extract 0 4).size = 4 := by rw [ByteArray.size_extract]; omega
  have e : ∀ i, i < 4 → byteAt (s.extract 0 4) i = byteAt s i := fun i hi => by rw [byteAt_ex h (by omega)]; congr 1; omega
  constructor
  · intro hd
    have := digs_t hd
    have d0 := digB_t (this.2 0 (by omega))
    have d1 := digB_t (this.2 1 (by omega))
    have d2 := digB_t (this.2 2 (by omega))
    have d3 := digB_t (this.2 3 (by omega))
    rw [e _ (by omega)] at d0 d1 d2 d3
    omega
  · intro hd
    refine digs_yes (by omega) fun i hi => ?_
    rw [e i (by omega)]
    rcases (show i = 0 ∨ i = 1 ∨ i = 2 ∨ i = 3 by omega) with rfl | rfl | rfl | rfl <;> exact decide_eq_true (by omega)
theorem four_num {s : ByteArray} (h : 4 ≤ s.size) : numAt (s.extract 0 4) (s.extract 0 4).size = 1000 * (byteAt s 0 - 48) + 100 * (byteAt s 1 - 48) + 10 * (byteAt s 2 - 48) + (byteAt s 3 - 48) := by
  have hz : (s.extract 0 4).size = 4 := by rw [ByteArray.size_extract]; omega
  have e : ∀ i, i < 4 → byteAt (s.extract 0 4) i = byteAt s i := fun i hi => by rw [byteAt_ex h (by omega)]; congr 1; omega
  rw [hz]
  simp only [numAt, e _ (show 0 < 4 by omega), e _ (show 1 < 4 by omega), e _ (show 2 < 4 by omega), e _ (show 3 < 4 by omega)]
  omega
/-- what stands in a text of a time: digits at their places, signs between. -/
def timeForm (s : ByteArray) : Prop := s.size = 19 ∧ digs (s.extract 0 4) = true ∧ byteAt s 4 = 45 ∧ digs (s.extract 5 7) = true ∧ byteAt s 7 = 45 ∧ digs (s.extract 8 10) = true ∧ byteAt s 10 = 32 ∧ digs (s.extract 11 13) = true ∧ byteAt s 13 = 58 ∧ digs (s.extract 14 16) = true ∧ byteAt s 16 = 58 ∧ digs (s.extract 17 19) = true
/-- the number that is read. -/
def rdT (s : ByteArray) : Int := num (drN (s.extract 0 4)) (drN (s.extract 5 7)) (drN (s.extract 8 10)) * 86400 + drN (s.extract 11 13) * 3600 + drN (s.extract 14 16) * 60 + drN (s.extract 17 19)
/-- may it be read. -/
def okT (s : ByteArray) : Prop := timeForm s ∧ vldB (drN (s.extract 0 4)) (drN (s.extract 5 7)) (drN (s.extract 8 10)) = true ∧ drN (s.extract 11 13) < 24 ∧ drN (s.extract 14 16) < 60 ∧ drN (s.extract 17 19) < 60

theorem pad2_eq {u : Nat} (h : u < 100) : padL u 2 = [UInt8.ofNat (48 + u / 10), UInt8.ofNat (48 + u % 10)] := by
  unfold padL
  by_cases h1 : u < 10
  · rw [Lib.decDigits_one h1, show u / 10 = 0 by omega, show u % 10 = u by omega]; rfl
  · rw [Lib.decDigits_two h1 h]; rfl
theorem pad4_eq {u : Nat} (h : u < 10000) : padL u 4 = [UInt8.ofNat (48 + u / 1000), UInt8.ofNat (48 + u / 100 % 10), UInt8.ofNat (48 + u / 10 % 10), UInt8.ofNat (48 + u % 10)] := by
  unfold padL
  by_cases h1 : u < 10
  · rw [Lib.decDigits_one h1, show u / 1000 = 0 by omega, show u / 100 % 10 = 0 by omega, show u / 10 % 10 = 0 by omega, show u % 10 = u by omega]; rfl
  by_cases h2 : u < 100
  · rw [Lib.decDigits_two h1 h2, show u / 1000 = 0 by omega, show u / 100 % 10 = 0 by omega, show u / 10 % 10 = u / 10 by omega]; rfl
  by_cases h3 : u < 1000
  · rw [Lib.decDigits, dif_neg h1, Lib.decDigits_two (by omega) (by omega), show u / 1000 = 0 by omega, show u / 100 % 10 = u / 10 / 10 by omega]; rfl
  · rw [Lib.decDigits, dif_neg h1, Lib.decDigits, dif_neg (by omega), Lib.decDigits_two (by omega) (by omega), show u / 1000 = u / 10 / 10 / 10 by omega, show u / 100 % 10 = u / 10 / 10 % 10 by omega]; rfl
theorem ofN {k : Nat} (h : k < 256) : ((UInt8.ofNat k).toNat : Int) = k := by
  rw [UInt8.toNat_ofNat_of_lt' h]
/-- a time's text, byte by byte. -/
theorem time_bytes {y m d c : Nat} (hy : y < 10000) (hm : m < 100) (hd : d < 100) (hc : c < 86400) {s : ByteArray} (hs : s = S (dateL y m d ++ 32 :: clockL c)) :
    s.size = 19 ∧ (byteAt s 0 = 48 + (y : Int) / 1000 ∧ byteAt s 1 = 48 + (y : Int) / 100 % 10 ∧ byteAt s 2 = 48 + (y : Int) / 10 % 10 ∧ byteAt s 3 = 48 + (y : Int) % 10) ∧ byteAt s 4 = 45 ∧ (byteAt s 5 = 48 + (m : Int) / 10 ∧ byteAt s 6 = 48 + (m : Int) % 10) ∧ byteAt s 7 = 45 ∧ (byteAt s 8 = 48 + (d : Int) / 10 ∧ byteAt s 9 = 48 + (d : Int) % 10) ∧ byteAt s 10 = 32 ∧
    (byteAt s 11 = 48 + (c : Int) / 3600 / 10 ∧ byteAt s 12 = 48 + (c : Int) / 3600 % 10) ∧ byteAt s 13 = 58 ∧ (byteAt s 14 = 48 + (c : Int) / 60 % 60 / 10 ∧ byteAt s 15 = 48 + (c : Int) / 60 % 60 % 10) ∧ byteAt s 16 = 58 ∧ (byteAt s 17 = 48 + (c : Int) % 60 / 10 ∧ byteAt s 18 = 48 + (c : Int) % 60 % 10) := by
  have e : dateL y m d ++ 32 :: clockL c = [UInt8.ofNat (48 + y / 1000), UInt8.ofNat (48 + y / 100 % 10), UInt8.ofNat (48 + y / 10 % 10), UInt8.ofNat (48 + y % 10), 45, UInt8.ofNat (48 + m / 10), UInt8.ofNat (48 + m % 10), 45, UInt8.ofNat (48 + d / 10), UInt8.ofNat (48 + d % 10), 32, UInt8.ofNat (48 + c / 3600 / 10), UInt8.ofNat (48 + c / 3600 % 10), 58, UInt8.ofNat (48 + c / 60 % 60 / 10), UInt8.ofNat (48 + c / 60 % 60 % 10), 58, UInt8.ofNat (48 + c % 60 / 10), UInt8.ofNat (48 + c % 60 % 10)] := by
    unfold dateL clockL
    rw [pad4_eq hy, pad2_eq hm, pad2_eq hd, pad2_eq (u := c / 3600) (by omega), pad2_eq (u := c / 60 % 60) (by omega), pad2_eq (u := c % 60) (by omega)]
    rfl
  rw [hs, e]
  refine ⟨by rw [S_size]; rfl, ⟨?_, ?_, ?_, ?_⟩, ?_, ⟨?_, ?_⟩, ?_, ⟨?_, ?_⟩, ?_, ⟨?_, ?_⟩, ?_, ⟨?_, ?_⟩, ?_, ⟨?_, ?_⟩⟩
  all_goals (rw [byteAt_S rfl]; first | rfl | (rw [ofN (by omega)]; omega))
/-- two digits of a time's text. -/
theorem drn2 {s : ByteArray} {a b : Nat} (h : b ≤ s.size) (hab : b = a + 2) (hd : digs (s.extract a b) = true) : drN (s.extract a b) = 10 * (byteAt s a - 48) + (byteAt s (a + 1) - 48) := by
  rw [drN_t hd, two_num h hab]
/-- what is told as a time's text is read, as the same. -/
theorem told_read {y m d c : Nat} (hy : y < 10000) (hm : m < 100) (hd : d < 100) (hc : c < 86400) {s : ByteArray} (hs : s = S (dateL y m d ++ 32 :: clockL c)) :
    timeForm s ∧ drN (s.extract 0 4) = y ∧ drN (s.extract 5 7) = m ∧ drN (s.extract 8 10) = d ∧ drN (s.extract 11 13) = (c : Int) / 3600 ∧ drN (s.extract 14 16) = (c : Int) / 60 % 60 ∧ drN (s.extract 17 19) = (c : Int) % 60 := by
  obtain ⟨hz, ⟨b0, b1, b2, b3⟩, b4, ⟨b5, b6⟩, b7, ⟨b8, b9⟩, b10, ⟨b11, b12⟩, b13, ⟨b14, b15⟩, b16, ⟨b17, b18⟩⟩ := time_bytes hy hm hd hc hs
  have f0 : digs (s.extract 0 4) = true := (four_digs (by omega)).mpr (by omega)
  have f5 : digs (s.extract 5 7) = true := (two_digs (by omega) rfl).mpr (by simp only [Nat.reduceAdd]; omega)
  have f8 : digs (s.extract 8 10) = true := (two_digs (by omega) rfl).mpr (by simp only [Nat.reduceAdd]; omega)
  have f11 : digs (s.extract 11 13) = true := (two_digs (by omega) rfl).mpr (by simp only [Nat.reduceAdd]; omega)
  have f14 : digs (s.extract 14 16) = true := (two_digs (by omega) rfl).mpr (by simp only [Nat.reduceAdd]; omega)
  have f17 : digs (s.extract 17 19) = true := (two_digs (by omega) rfl).mpr (by simp only [Nat.reduceAdd]; omega)
  refine ⟨⟨hz, f0, b4, f5, b7, f8, b10, f11, b13, f14, b16, f17⟩, ?_, ?_, ?_, ?_, ?_, ?_⟩
  · rw [drN_t f0, four_num (by omega)]; omega
  · rw [drn2 (by omega) rfl f5]; simp only [Nat.reduceAdd]; omega
  · rw [drn2 (by omega) rfl f8]; simp only [Nat.reduceAdd]; omega
  · rw [drn2 (by omega) rfl f11]; simp only [Nat.reduceAdd]; omega
  · rw [drn2 (by omega) rfl f14]; simp only [Nat.reduceAdd]; omega
  · rw [drn2 (by omega) rfl f17]; simp only [Nat.reduceAdd]; omega
/-- a text of that form is the one that is told of what is read of it. -/
theorem read_told {s : ByteArray} (h : timeForm s) {y m d c : Nat} (ey : drN (s.extract 0 4) = y) (em : drN (s.extract 5 7) = m) (ed : drN (s.extract 8 10) = d) (hc : c < 86400) (eh : drN (s.extract 11 13) = (c : Int) / 3600) (ei : drN (s.extract 14 16) = (c : Int) / 60 % 60) (es : drN (s.extract 17 19) = (c : Int) % 60) : s = S (dateL y m d ++ 32 :: clockL c) := by
  obtain ⟨hz, f0, b4, f5, b7, f8, b10, f11, b13, f14, b16, f17⟩ := h
  have g0 := (four_digs (s := s) (by omega)).mp f0
  have g5 := (two_digs (s := s) (a := 5) (by omega) rfl).mp f5
  have g8 := (two_digs (s := s) (a := 8) (by omega) rfl).mp f8
  have g11 := (two_digs (s := s) (a := 11) (by omega) rfl).mp f11
  have g14 := (two_digs (s := s) (a := 14) (by omega) rfl).mp f14
  have g17 := (two_digs (s := s) (a := 17) (by omega) rfl).mp f17
  rw [drN_t f0, four_num (by omega)] at ey
  rw [drn2 (by omega) rfl f5] at em
  rw [drn2 (by omega) rfl f8] at ed
  rw [drn2 (by omega) rfl f11] at eh
  rw [drn2 (by omega) rfl f14] at ei
  rw [drn2 (by omega) rfl f17] at es
  simp only [Nat.reduceAdd] at *
  obtain ⟨tz, ⟨t0, t1, t2, t3⟩, t4, ⟨t5, t6⟩, t7, ⟨t8, t9⟩, t10, ⟨t11, t12⟩, t13, ⟨t14, t15⟩, t16, ⟨t17, t18⟩⟩ := time_bytes (y := y) (m := m) (d := d) (c := c) (by omega) (by omega) (by omega) hc rfl
  apply bytes_ext (by omega)
  intro i hi
  rcases (show i = 0 ∨ i = 1 ∨ i = 2 ∨ i = 3 ∨ i = 4 ∨ i = 5 ∨ i = 6 ∨ i = 7 ∨ i = 8 ∨ i = 9 ∨ i = 10 ∨ i = 11 ∨ i = 12 ∨ i = 13 ∨ i = 14 ∨ i = 15 ∨ i = 16 ∨ i = 17 ∨ i = 18 by omega) with rfl | rfl | rfl | rfl | rfl | rfl | rfl | rfl | rfl | rfl | rfl | rfl | rfl | rfl | rfl | rfl | rfl | rfl | rfl
  · rw [t0]; omega
  · rw [t1]; omega
  · rw [t2]; omega
  · rw [t3]; omega
  · rw [t4]; omega
  · rw [t5]; omega
  · rw [t6]; omega
  · rw [t7]; omega
  · rw [t8]; omega
  · rw [t9]; omega
  · rw [t10]; omega
  · rw [t11]; omega
  · rw [t12]; omega
  · rw [t13]; omega
  · rw [t14]; omega
  · rw [t15]; omega
  · rw [t16]; omega
  · rw [t17]; omega
  · rw [t18]; omega
/-- what may be read is told by the text of its number. -/
theorem ok_told {s : ByteArray} (h : okT s) : s = S (timeV (rdT s)) ∧ -62135596800 ≤ rdT s ∧ rdT s ≤ 253402300799 := by
  obtain ⟨hf, hv, h24, h60, h61⟩ := h
  have hf' := hf
  obtain ⟨hz, f0, b4, f5, b7, f8, b10, f11, b13, f14, b16, f17⟩ := hf'
  have g11 := (two_digs (s := s) (a := 11) (by omega) rfl).mp f11
  have g14 := (two_digs (s := s) (a := 14) (by omega) rfl).mp f14
  have g17 := (two_digs (s := s) (a := 17) (by omega) rfl).mp f17
  have e11 := drn2 (by omega) rfl f11
  have e14 := drn2 (by omega) rfl f14
  have e17 := drn2 (by omega) rfl f17
  simp only [Nat.reduceAdd] at *
  have ⟨r1, r2, r3⟩ := date_round hv
  have ⟨n1, n2⟩ := num_bd hv
  have hv' := vld_t hv
  have hdim := Cal.dim_bd (drN (s.extract 0 4)) (drN (s.extract 5 7))
  obtain ⟨c, hc⟩ : ∃ c : Nat, (c : Int) = drN (s.extract 11 13) * 3600 + drN (s.extract 14 16) * 60 + drN (s.extract 17 19) := ⟨(drN (s.extract 11 13) * 3600 + drN (s.extract 14 16) * 60 + drN (s.extract 17 19)).toNat, by omega⟩
  have hq : rdT s / 86400 = num (drN (s.extract 0 4)) (drN (s.extract 5 7)) (drN (s.extract 8 10)) := by unfold rdT; omega
  have hr : rdT s % 86400 = c := by unfold rdT; omega
  have hb : -62135596800 ≤ rdT s ∧ rdT s ≤ 253402300799 := by unfold rdT; omega
  refine ⟨?_, hb⟩
  rw [timeV_ok hb.1 hb.2]
  unfold timeL
  rw [hq, hr, r1, r2, r3]
  exact read_told hf (by omega) (by omega) (by omega) (by omega) (by simp; omega) (by simp; omega) (by simp; omega)
/-- what is told may be read, as the same number. -/
theorem told_ok {n : Int} {s : ByteArray} (h1 : -62135596800 ≤ n) (h2 : n ≤ 253402300799) (hs : s = S (timeL n)) : okT s ∧ rdT s = n := by
  obtain ⟨y, m, d, ey, em, ed, y1, y2, m1, m2, d1, d2⟩ := date_nat (n := n / 86400) (by omega) (by omega)
  obtain ⟨c, hc⟩ : ∃ c : Nat, n % 86400 = c := ⟨(n % 86400).toNat, by omega⟩
  have hs' : s = S (dateL y m d ++ 32 :: clockL c) := by
    rw [hs]; unfold timeL; rw [ey, em, ed, hc]; rfl
  obtain ⟨hf, r0, r5, r8, r11, r14, r17⟩ := told_read (y := y) (m := m) (d := d) (c := c) (by omega) (by omega) (by omega) (by omega) hs'
  have hv := vld_of (n := n / 86400) (by omega) (by omega)
  have hn := num_of (n := n / 86400)
  rw [ey, em, ed] at hv hn
  refine ⟨⟨hf, by rw [r0, r5, r8]; exact hv, by omega, by omega, by omega⟩, ?_⟩
  unfold rdT
  rw [r0, r5, r8, r11, r14, r17, hn]
  omega
end Go.Proofs.YtibhbpgnjikjnaaDoor
