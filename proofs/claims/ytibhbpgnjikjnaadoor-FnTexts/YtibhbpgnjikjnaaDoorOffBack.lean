/- Offsets come back from their texts. -/
import Derived.Test.YtibhbpgnjikjnaaDoorOffset5
import Derived.Test.YtibhbpgnjikjnaaDoorOffText
import Derived.Test.YtibhbpgnjikjnaaDoorTimeEq
namespace Go.Proofs.YtibhbpgnjikjnaaDoor

theorem S_extract (l : List UInt8) (a b : Nat) : (S l).extract a b = S ((l.drop a).take (b - a)) := by
  apply ByteArray.ext
  apply Array.ext'
  simp [S, List.take_drop, ByteArray.data_extract]
theorem digs_list {l : List UInt8} (h1 : 1 ≤ l.length) (h : ∀ c ∈ l, 48 ≤ c.toNat ∧ c.toNat ≤ 57) : digs (S l) = true := by
  refine digs_yes (by rw [S_size]; exact h1) fun i hi => ?_
  rw [S_size] at hi
  rw [byteAt_S (List.getElem?_eq_getElem hi)]
  have := h _ (List.getElem_mem hi)
  exact decide_eq_true (by omega)
theorem dig_nat {k : Nat} (h : k < 10) : 48 ≤ (UInt8.ofNat (48 + k)).toNat ∧ (UInt8.ofNat (48 + k)).toNat ≤ 57 ∧ (UInt8.ofNat (48 + k)).toNat = 48 + k := by
  have : (UInt8.ofNat (48 + k)).toNat = 48 + k := UInt8.toNat_ofNat_of_lt' (by have : UInt8.size = 256 := rfl; omega)
  omega
theorem val1 {a : Nat} (ha : a < 10) : digs (S [UInt8.ofNat (48 + a)]) = true ∧ drN (S [UInt8.ofNat (48 + a)]) = a := by
  have hd : digs (S [UInt8.ofNat (48 + a)]) = true := digs_list (by simp) (by simp; have := dig_nat ha; omega)
  refine ⟨hd, ?_⟩
  rw [drN_t hd, S_size]
  simp only [List.length_cons, List.length_nil, numAt, byteAt_S (l := [UInt8.ofNat (48 + a)]) (i := 0) rfl]
  have := dig_nat ha; omega
theorem val2 {a b : Nat} (ha : a < 10) (hb : b < 10) : digs (S [UInt8.ofNat (48 + a), UInt8.ofNat (48 + b)]) = true ∧ drN (S [UInt8.ofNat (48 + a), UInt8.ofNat (48 + b)]) = 10 * a + b := by
  have hd : digs (S [UInt8.ofNat (48 + a), UInt8.ofNat (48 + b)]) = true := digs_list (by simp) (by simp; have := dig_nat ha; have := dig_nat hb; omega)
  refine ⟨hd, ?_⟩
  rw [drN_t hd, S_size]
  simp only [List.length_cons, List.length_nil, numAt, byteAt_S (l := [UInt8.ofNat (48 + a), UInt8.ofNat (48 + b)]) (i := 0) rfl, byteAt_S (l := [UInt8.ofNat (48 + a), UInt8.ofNat (48 + b)]) (i := 1) rfl]
  have := dig_nat ha; have := dig_nat hb; omega
theorem val3 {a b c : Nat} (ha : a < 10) (hb : b < 10) (hc : c < 10) : digs (S [UInt8.ofNat (48 + a), UInt8.ofNat (48 + b), UInt8.ofNat (48 + c)]) = true ∧ drN (S [UInt8.ofNat (48 + a), UInt8.ofNat (48 + b), UInt8.ofNat (48 + c)]) = 100 * a + 10 * b + c := by
  have hd : digs (S [UInt8.ofNat (48 + a), UInt8.ofNat (48 + b), UInt8.ofNat (48 + c)]) = true := digs_list (by simp) (by simp; have := dig_nat ha; have := dig_nat hb; have := dig_nat hc; omega)
  refine ⟨hd, ?_⟩
  rw [drN_t hd, S_size]
  simp only [List.length_cons, List.length_nil, numAt, byteAt_S (l := [UInt8.ofNat (48 + a), UInt8.ofNat (48 + b), UInt8.ofNat (48 + c)]) (i := 0) rfl, byteAt_S (l := [UInt8.ofNat (48 + a), UInt8.ofNat (48 + b), UInt8.ofNat (48 + c)]) (i := 1) rfl, byteAt_S (l := [UInt8.ofNat (48 + a), UInt8.ofNat (48 + b), UInt8.ofNat (48 + c)]) (i := 2) rfl]
  have := dig_nat ha; have := dig_nat hb; have := dig_nat hc; omega
/-- the hours' digits. -/
theorem hours_val {u : Nat} (h : u < 1000) : hdB (S (Lib.decDigits u)) = true ∧ drN (S (Lib.decDigits u)) = u ∧ 1 ≤ (Lib.decDigits u).length ∧ ∃ c l, Lib.decDigits u = c :: l ∧ 48 ≤ c.toNat := by
  by_cases h1 : u < 10
  · rw [Lib.decDigits_one h1]
    have ⟨a, b⟩ := val1 h1
    exact ⟨by unfold hdB; rw [a, S_size]; rfl, b, by simp, _, _, rfl, (dig_nat h1).1⟩
  by_cases h2 : u < 100
  · rw [Lib.decDigits_two h1 h2]
    have ⟨a, b⟩ := val2 (a := u / 10) (b := u % 10) (by omega) (by omega)
    exact ⟨by unfold hdB; rw [a, S_size]; rfl, by rw [b]; omega, by simp, _, _, rfl, (dig_nat (by omega)).1⟩
  · rw [Lib.decDigits, dif_neg h1, Lib.decDigits_two (by omega) (by omega)]
    have ⟨a, b⟩ := val3 (a := u / 10 / 10) (b := u / 10 % 10) (c := u % 10) (by omega) (by omega) (by omega)
    exact ⟨by show hdB (S [_, _, _]) = true; unfold hdB; rw [a, S_size]; rfl, by refine Eq.trans b ?_; omega, by simp, _, _, rfl, (dig_nat (by omega)).1⟩
theorem sixty_val {u : Nat} (h : u < 60) : twB (S (padL u 2)) = true ∧ drN (S (padL u 2)) = u := by
  rw [pad2_eq (by omega)]
  have ⟨a, b⟩ := val2 (a := u / 10) (b := u % 10) (by omega) (by omega)
  refine ⟨?_, by rw [b]; omega⟩
  unfold twB
  rw [a, b, S_size]
  simp; omega
/-- the parts of an offset's text. -/
theorem off_parts1 {u v : Nat} (hu : u < 1000) (hv : v < 60) : parts (S (Lib.decDigits u ++ 58 :: padL v 2)) = [S (Lib.decDigits u), S (padL v 2)] := by
  have ⟨a1, a2, a3, _⟩ := hours_val hu
  have ⟨b1, b2⟩ := sixty_val hv
  have bl := pad2 (u := v) (by omega)
  generalize Lib.decDigits u = l at *
  generalize padL v 2 = m at *
  have hz : (S (l ++ 58 :: m)).size = l.length + 3 := by rw [S_size]; simp; omega
  have e0 : (S (l ++ 58 :: m)).extract 0 l.length = S l := by rw [S_extract]; simp
  have e1 : (S (l ++ 58 :: m)).extract (l.length + 1) (l.length + 3) = S m := by
    rw [S_extract, show l ++ 58 :: m = (l ++ [58]) ++ m by simp, List.drop_left' (by simp), List.take_of_length_le (by omega)]
  have hc : byteAt (S (l ++ 58 :: m)) l.length = 58 := byteAt_S (c := 58) (by simp)
  have := parts_one (s := S (l ++ 58 :: m)) (j := l.length) (by omega) hc (fun i hi => hd_none (by omega) (by rw [e0]; exact a1) i (by omega) hi) (fun i i1 i2 => tw_none (a := l.length + 1) (b := l.length + 3) (by omega) (by rw [e1]; exact b1) i (by omega) (by omega))
  rw [this, hz, e0, e1]
theorem off_parts2 {u v x : Nat} (hu : u < 1000) (hv : v < 60) (hx : x < 60) : parts (S (Lib.decDigits u ++ 58 :: padL v 2 ++ 58 :: padL x 2)) = [S (Lib.decDigits u), S (padL v 2), S (padL x 2)] := by
  have ⟨a1, a2, a3, _⟩ := hours_val hu
  have ⟨b1, b2⟩ := sixty_val hv
  have ⟨c1, c2⟩ := sixty_val hx
  have bl := pad2 (u := v) (by omega)
  have cl := pad2 (u := x) (by omega)
  generalize Lib.decDigits u = l at *
  generalize padL v 2 = m at *
  generalize padL x 2 = n at *
  have hz : (S (l ++ 58 :: m ++ 58 :: n)).size = l.length + 6 := by rw [S_size]; simp; omega
  have e0 : (S (l ++ 58 :: m ++ 58 :: n)).extract 0 l.length = S l := by rw [S_extract]; simp
  have e1 : (S (l ++ 58 :: m ++ 58 :: n)).extract (l.length + 1) (l.length + 3) = S m := by
    rw [S_extract, show l ++ 58 :: m ++ 58 :: n = (l ++ [58]) ++ (m ++ 58 :: n) by simp, List.drop_left' (by simp), List.take_left' (by omega)]
  have e2 : (S (l ++ 58 :: m ++ 58 :: n)).extract (l.length + 4) (l.length + 6) = S n := by
    rw [S_extract, show l ++ 58 :: m ++ 58 :: n = (l ++ 58 :: m ++ [58]) ++ n by simp, List.drop_left' (by simp [bl]), List.take_of_length_le (by omega)]
  have hc : byteAt (S (l ++ 58 :: m ++ 58 :: n)) l.length = 58 := byteAt_S (c := 58) (by simp)
  have hd : byteAt (S (l ++ 58 :: m ++ 58 :: n)) (l.length + 3) = 58 := byteAt_S (c := 58) (by
    rw [List.getElem?_append_right (by simp; omega)]; simp [bl])
  have := parts_two (s := S (l ++ 58 :: m ++ 58 :: n)) (j := l.length) (k := l.length + 3) (by omega) (by omega) hc hd (fun i hi => hd_none (by omega) (by rw [e0]; exact a1) i (by omega) hi) (fun i i1 i2 => tw_none (a := l.length + 1) (b := l.length + 3) (by omega) (by rw [e1]; exact b1) i (by omega) (by omega)) (fun i i1 i2 => tw_none (a := l.length + 4) (b := l.length + 6) (by omega) (by rw [e2]; exact c1) i (by omega) (by omega))
  rw [this, hz, e0, e1, e2]
theorem off_read {s : Nat} (h : s ≤ 604800) : pB (parts (S (offL s))) = true ∧ pN (parts (S (offL s))) = s := by
  have ⟨a1, a2, _, _⟩ := hours_val (u := s / 3600) (by omega)
  have ⟨b1, b2⟩ := sixty_val (u := s / 60 % 60) (by omega)
  have ⟨c1, c2⟩ := sixty_val (u := s % 60) (by omega)
  unfold offL
  split
  · rw [List.append_nil, off_parts1 (by omega) (by omega)]
    exact ⟨by simp [pB, a1, b1], by simp only [pN, a2, b2]; omega⟩
  · rw [off_parts2 (by omega) (by omega) (by omega)]
    exact ⟨by simp [pB, a1, b1, c1], by simp only [pN, a2, b2, c2]; omega⟩
theorem offL_head {s : Nat} (h : s ≤ 604800) : ∃ c l, offL s = c :: l ∧ 48 ≤ c.toNat := by
  obtain ⟨_, _, _, c, l, e, hc⟩ := hours_val (u := s / 3600) (by omega)
  unfold offL
  rw [e]
  exact ⟨c, _, rfl, hc⟩
/-- an offset comes back from its text. -/
theorem off_back {n : Int} (h1 : -604800 ≤ n) (h2 : n ≤ 604800) : orN (S (offV n)) = n ∧ orC (S (offV n)) = 0 := by
  rcases Int.lt_or_le n 0 with hn | hn
  · obtain ⟨s, rfl⟩ : ∃ s : Nat, n = -(s : Int) := ⟨n.natAbs, by omega⟩
    rw [offV_neg (by omega) (by omega)]
    obtain ⟨c, l, e, hc⟩ := offL_head (s := s) (by omega)
    have ⟨p1, p2⟩ := off_read (s := s) (by omega)
    have hm : minusB (S (45 :: offL s)) = false := by
      unfold minusB; rw [e]; simp [S, ByteArray.toList_eq]
    have hr : restS (S (45 :: offL s)) = S (offL s) := by
      unfold restS Lib.trimPrefix Lib.hasPrefix; simp [S]
    have hg : negB (S (45 :: offL s)) = true := by
      unfold negB Lib.hasPrefix; simp
    have hk : okO (S (45 :: offL s)) = true := by
      rw [okO_parts hm, hr, p1, p2]; simp; omega
    refine ⟨?_, by rw [orC_okO, hk]; rfl⟩
    rw [orN_parts hm hk, hr, p2, hg]; rfl
  · obtain ⟨s, rfl⟩ : ∃ s : Nat, n = (s : Int) := ⟨n.toNat, by omega⟩
    rw [offV_pos (by omega)]
    obtain ⟨c, l, e, hc⟩ := offL_head (s := s) (by omega)
    have ⟨p1, p2⟩ := off_read (s := s) (by omega)
    have hne : c ≠ 45 := fun h => by subst h; exact absurd hc (by decide)
    have hm : minusB (S (offL s)) = false := by
      unfold minusB; rw [e]; simp [S, ByteArray.toList_eq]; intro h; exact absurd h hne
    have hg : negB (S (offL s)) = false := by
      have h2 : (45 == c) = false := by simpa using fun hn => hne hn.symm
      rw [e]
      show ((45 == c) && List.isPrefixOf [] l) = false
      rw [h2]; rfl
    have hr : restS (S (offL s)) = S (offL s) := pos_rest hg
    have hk : okO (S (offL s)) = true := by
      rw [okO_parts hm, hr, p1, p2]; simp; omega
    refine ⟨?_, by rw [orC_okO, hk]; rfl⟩
    rw [orN_parts hm hk, hr, p2, hg]; rfl
end Go.Proofs.YtibhbpgnjikjnaaDoor
