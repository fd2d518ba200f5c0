/- Packed: On1 On2 On3 On4 On5 On6 On7 On8 On9 OnBd. -/
import Derived.Test.YtbbhpfobcelbfaaGreatDoorBasePt
import Derived.Test.YtbbhpfobcelbfaaGreatDoorShelf
import Derived.Lib.QuietBelow
import Derived.Deep.RegionHeld3
import Derived.Deep.Cut
import Derived.Deep.CutRange
import Derived.LoopN
import Derived.Laws.EntriesVeiled
import Derived.Lib.CutLaws
namespace Go.Proofs.YtbbhpfobcelbfaaGreatDoor
open Go.RowKit

/-- the names, three bytes each. -/
def wdNames : ByteArray := ⟨#[83, 117, 110, 77, 111, 110, 84, 117, 101, 87, 101, 100, 84, 104, 117, 70, 114, 105, 83, 97, 116]⟩
/-- is the k-th name this text. -/
def spB (s t : ByteArray) (k : Nat) : Bool := (s.extract (k * 3) ((k + 1) * 3)).toList == t.toList
/-- the first place, from k on, of at most n, or -1. -/
def spG (s t : ByteArray) : Nat → Nat → Int
  | _, 0 => -1
  | k, n + 1 => if spB s t k = true then k else spG s t (k + 1) n
theorem spG_hit {s t : ByteArray} {k n : Nat} (h : spB s t k = true) (hn : 0 < n) : spG s t k n = k := by
  obtain ⟨n, rfl⟩ : ∃ m, n = m + 1 := ⟨n - 1, by omega⟩
  simp only [spG]; rw [if_pos h]
theorem spG_miss {s t : ByteArray} {k n : Nat} (h : spB s t k = false) (hn : 0 < n) : spG s t k n = spG s t (k + 1) (n - 1) := by
  obtain ⟨n, rfl⟩ : ∃ m, n = m + 1 := ⟨n - 1, by omega⟩
  simp only [spG]; rw [h]; rfl
theorem spG_bd (s t : ByteArray) (k n : Nat) : spG s t k n = -1 ∨ (k ≤ spG s t k n ∧ spG s t k n < k + n) := by
  induction n generalizing k with
  | zero => exact .inl rfl
  | succ n ih =>
    simp only [spG]
    split
    · right; omega
    · rcases ih (k + 1) with h | h
      · exact .inl h
      · right; omega
def spN (s t : ByteArray) (m : Nat) : Int := if spG s t 0 m < 0 then 0 else spG s t 0 m
def spO (s t : ByteArray) (m : Nat) : Bool := decide (0 ≤ spG s t 0 m)
theorem sp_hit {s t : ByteArray} {m : Nat} {k : Int} (h : spG s t 0 m = k) (hk : 0 ≤ k) : spN s t m = k ∧ spO s t m = true := by
  unfold spN spO; rw [h, if_neg (by omega)]; exact ⟨rfl, decide_eq_true hk⟩
theorem sp_miss {s t : ByteArray} {m : Nat} (h : spG s t 0 m = -1) : spN s t m = 0 ∧ spO s t m = false := by
  unfold spN spO; rw [h]; exact ⟨rfl, rfl⟩
set_option maxHeartbeats 400000 in
theorem impl_shortName (s : ByteArray) (k : Nat) (w : World) (h : (k + 1) * 3 ≤ s.size) (hs : s.size ≤ 1000) :
    Calls Tryz.prog 269 #[.string s, .int .i64 k] w fun e w' => e = .returned (.string (s.extract (k * 3) ((k + 1) * 3))) ∧ w' = w := by
  go_enter Tryz.func269, Tryz.ntmps269
  go_wp2
  go_ret
  exact ⟨rfl, rfl⟩
set_option maxHeartbeats 1000000 in
theorem impl_shortPlace (s t : ByteArray) (m : Nat) (w : World) (hm : s.size = 3 * m) (hs : m ≤ 300) :
    Calls Tryz.prog 264 #[.string s, .string t] w fun e w' => e = .returned (.tuple #[.int .i64 (spN s t m), .bool (spO s t m)]) ∧ w' = w := by
  have hd : (s.size : Int) / 3 = m := by omega
  go_enter Tryz.func264, Tryz.ntmps264
  go_wp2
  go_loop [10] (fun i => ∃ k : Nat, k ≤ m ∧ i = .int .i64 k ∧ Hid (spG s t 0 m = spG s t k (m - k))) (fun i => m - (intOf i).toNat)
  case atStart => exact ⟨0, by omega, rfl, rfl⟩
  case round =>
    obtain ⟨k, hk, rfl, hg⟩ := hrel
    by_cases hlt : k < m
    · have hN := fun w => impl_shortName s k w (by omega) (by omega)
      cases hb : spB s t k
      · have HG : Hid (spG s t 0 m = spG s t (k + 1) (m - (k + 1))) := by
          have := spG_miss hb (show 0 < m - k by omega)
          simp only [Hid]; rw [hg.out, this]; congr 1
        unfold spB at hb
        generalize s.extract (k * 3) ((k + 1) * 3) = x at *
        go_wp2_with (go_at_call 269; refine (hN _).mono ?_; rintro e w' ⟨rfl, rfl⟩)
        go_round
        case rel => exact ⟨k + 1, by omega, by go_num, HG.out⟩
        case measure => simp [intOf]; omega
      · have HG : Hid (spG s t 0 m = k) := by
          have := spG_hit hb (show 0 < m - k by omega)
          simp only [Hid]; rw [hg.out, this]
        unfold spB at hb
        generalize s.extract (k * 3) ((k + 1) * 3) = x at *
        go_wp2_with (go_at_call 269; refine (hN _).mono ?_; rintro e w' ⟨rfl, rfl⟩)
        go_ret2
        exact ⟨ret_pair (sp_hit HG.out (by omega)).1.symm (sp_hit HG.out (by omega)).2.symm, rfl⟩
    · have e : k = m := by omega
      subst e
      have HG : Hid (spG s t 0 k = -1) := by have := hg.out; simp only [Hid]; rw [this]; simp [spG]
      go_wp2
      go_ret2
      exact ⟨ret_pair (sp_miss HG.out).1.symm (sp_miss HG.out).2.symm, rfl⟩
/-- the weekday of a name, or -1. -/
def wdN (t : ByteArray) : Int := spG wdNames t 0 7
theorem wdN_bd (t : ByteArray) : wdN t = -1 ∨ (0 ≤ wdN t ∧ wdN t < 7) := by
  have := spG_bd wdNames t 0 7
  unfold wdN; omega
set_option maxHeartbeats 400000 in
theorem impl_weekdayNamed (t : ByteArray) (w : World) :
    Calls Tryz.prog 247 #[.string t] w fun e w' => e = .returned (.int .i64 (wdN t)) ∧ w' = w := by
  have hP := fun w => impl_shortPlace wdNames t 7 w (by decide) (by omega)
  rcases wdN_bd t with bd | bd
  · have e := sp_miss (s := wdNames) (t := t) (m := 7) bd
    rw [e.1, e.2] at hP
    rw [bd]
    unfold wdNames at hP
    clear bd e
    go_enter Tryz.func247, Tryz.ntmps247
    go_wp2_with (go_at_call 264; refine (hP _).mono ?_; rintro e w' ⟨rfl, rfl⟩)
    go_ret
    exact ⟨rfl, rfl⟩
  · have e := sp_hit (s := wdNames) (t := t) (m := 7) (k := wdN t) rfl bd.1
    rw [e.1, e.2] at hP
    unfold wdNames at hP
    generalize wdN t = r at *
    clear bd e
    go_enter Tryz.func247, Tryz.ntmps247
    go_wp2_with (go_at_call 264; refine (hP _).mono ?_; rintro e w' ⟨rfl, rfl⟩)
    go_ret
    exact ⟨rfl, rfl⟩
/-- the model's list of names. -/
def wdList : List ByteArray := [⟨#[83, 117, 110]⟩, ⟨#[77, 111, 110]⟩, ⟨#[84, 117, 101]⟩, ⟨#[87, 101, 100]⟩, ⟨#[84, 104, 117]⟩, ⟨#[70, 114, 105]⟩, ⟨#[83, 97, 116]⟩]
theorem wdList_eq {k : Nat} (h : k < 7) : (wdList.getD k ⟨#[]⟩).toList = (wdNames.extract (k * 3) ((k + 1) * 3)).toList := by
  rcases (show k = 0 ∨ k = 1 ∨ k = 2 ∨ k = 3 ∨ k = 4 ∨ k = 5 ∨ k = 6 by omega) with rfl | rfl | rfl | rfl | rfl | rfl | rfl <;> (rw [ByteArray.toList_eq, ByteArray.toList_eq]; rfl)
theorem pick_str (w : World) (T : TypeId) (l : List ByteArray) (i : Nat) (hi : i < l.length) : (w.alloc (.cells (l.map Value.string).toArray T)).cell? ⟨w.heap.size, i, none⟩ = some (.string (l.getD i ⟨#[]⟩)) := by
  simp [List.getD, hi]
set_option maxHeartbeats 1000000 in
theorem spec_l01Named (t : ByteArray) (w : World) :
    Calls Tryz.prog 191 #[.string t] w fun e w' => e = .returned (.int .i64 (wdN t)) ∧ Below w.heap.size w w' := by
  have hc := fun i hi => pick_str w 9 wdList i hi
  have hl : wdList.length = 7 := rfl
  unfold wdN
  go_enter Tryz.func191, Tryz.ntmps191
  go_wp2
  go_loop [4] (fun i => ∃ k : Nat, k ≤ 7 ∧ i = .int .i64 k ∧ Hid (spG wdNames t 0 7 = spG wdNames t k (7 - k))) (fun i => 7 - (intOf i).toNat)
  case atStart => exact ⟨0, by omega, rfl, rfl⟩
  case round =>
    obtain ⟨k, hk, rfl, hg⟩ := hrel
    by_cases hlt : k < 7
    · obtain ⟨x, hx, hbx⟩ : ∃ x : ByteArray, (w.alloc (.cells (wdList.map Value.string).toArray 9)).cell? ⟨w.heap.size, k, none⟩ = some (.string x) ∧ (x.toList == t.toList) = spB wdNames t k :=
        ⟨_, hc k (by omega), by unfold spB; rw [wdList_eq hlt]⟩
      unfold wdList at hx
      simp only [List.map_cons, List.map_nil] at hx
      clear hc
      cases hb : spB wdNames t k
      · have HG : Hid (spG wdNames t 0 7 = spG wdNames t (k + 1) (7 - (k + 1))) := by
          have := spG_miss hb (show 0 < 7 - k by omega)
          simp only [Hid]; rw [hg.out, this]; congr 1
        rw [hb] at hbx
        clear hb hg
        go_wp2
        go_round
        case rel => exact ⟨k + 1, by omega, by go_num, HG.out⟩
        case measure => simp [intOf]; omega
      · have HG : Hid (spG wdNames t 0 7 = k) := by
          have := spG_hit hb (show 0 < 7 - k by omega)
          simp only [Hid]; rw [hg.out, this]
        rw [hb] at hbx
        clear hb hg
        go_wp2
        go_ret
        exact ⟨ret_int HG.out.symm, (Below.refl _ _).alloc (Nat.le_refl _) _⟩
    · have e : k = 7 := by omega
      subst e
      have HG : Hid (spG wdNames t 0 7 = -1) := by have := hg.out; simp only [Hid]; rw [this]; rfl
      go_wp2
      go_ret
      exact ⟨ret_int HG.out.symm, (Below.refl _ _).alloc (Nat.le_refl _) _⟩
end Go.Proofs.YtbbhpfobcelbfaaGreatDoor
namespace Go.Proofs.YtbbhpfobcelbfaaGreatDoor
open Go.RowKit

/-- the first day of a weekday from a day on; -1000000 where there is none. -/
def fromV (v d : Int) : Int := if v = -1 ∨ d = -1000000 then -1000000 else d + (v - (d + 719163) % 7 + 7) % 7
def uptoV (v d : Int) : Int := if v = -1 ∨ d = -1000000 then -1000000 else d - ((d + 719163) % 7 - v + 7) % 7
set_option maxHeartbeats 400000 in
theorem impl_weekdayFrom (v d : Int) (w : World) (hv : v = -1 ∨ (0 ≤ v ∧ v < 7)) (hd : d = -1000000 ∨ (-719162 ≤ d ∧ d ≤ 2932896)) :
    Calls Tryz.prog 249 #[.int .i64 v, .int .i64 d] w fun e w' => e = .returned (.int .i64 (fromV v d)) ∧ w' = w := by
  unfold fromV
  by_cases h1 : v = -1
  · subst h1
    rw [if_pos (.inl rfl)]
    go_enter Tryz.func249, Tryz.ntmps249
    go_wp2
    go_ret
    exact ⟨rfl, rfl⟩
  by_cases h2 : d = -1000000
  · subst h2
    have g1 : (v == -1) = false := by simpa using h1
    rw [if_pos (.inr rfl)]
    go_enter Tryz.func249, Tryz.ntmps249
    go_wp2
    go_ret
    exact ⟨rfl, rfl⟩
  · rw [if_neg (by omega)]
    have g1 : (v == -1) = false := by simpa using h1
    have g2 : (d == -1000000) = false := by simpa using h2
    have hW := fun w => impl_Weekday d w
    rw [wdv_ok (by omega) (by omega)] at hW
    have hr : 0 ≤ (d + 719163) % 7 ∧ (d + 719163) % 7 < 7 := by omega
    have hv' : 0 ≤ v ∧ v < 7 := by omega
    have hd' : -719162 ≤ d ∧ d ≤ 2932896 := by omega
    clear hv hd h1 h2
    generalize (d + 719163) % 7 = r at *
    go_enter Tryz.func249, Tryz.ntmps249
    go_wp2_with (go_at_call 263; refine (hW _).mono ?_; rintro e w' ⟨rfl, rfl⟩)
    go_ret
    exact ⟨ret_int (by omega), rfl⟩
set_option maxHeartbeats 400000 in
theorem impl_weekdayUpTo (v d : Int) (w : World) (hv : v = -1 ∨ (0 ≤ v ∧ v < 7)) (hd : d = -1000000 ∨ (-719162 ≤ d ∧ d ≤ 2932896)) :
    Calls Tryz.prog 246 #[.int .i64 v, .int .i64 d] w fun e w' => e = .returned (.int .i64 (uptoV v d)) ∧ w' = w := by
  unfold uptoV
  by_cases h1 : v = -1
  · subst h1
    rw [if_pos (.inl rfl)]
    go_enter Tryz.func246, Tryz.ntmps246
    go_wp2
    go_ret
    exact ⟨rfl, rfl⟩
  by_cases h2 : d = -1000000
  · subst h2
    have g1 : (v == -1) = false := by simpa using h1
    rw [if_pos (.inr rfl)]
    go_enter Tryz.func246, Tryz.ntmps246
    go_wp2
    go_ret
    exact ⟨rfl, rfl⟩
  · rw [if_neg (by omega)]
    have g1 : (v == -1) = false := by simpa using h1
    have g2 : (d == -1000000) = false := by simpa using h2
    have hW := fun w => impl_Weekday d w
    rw [wdv_ok (by omega) (by omega)] at hW
    have hr : 0 ≤ (d + 719163) % 7 ∧ (d + 719163) % 7 < 7 := by omega
    have hv' : 0 ≤ v ∧ v < 7 := by omega
    have hd' : -719162 ≤ d ∧ d ≤ 2932896 := by omega
    clear hv hd h1 h2
    generalize (d + 719163) % 7 = r at *
    go_enter Tryz.func246, Tryz.ntmps246
    go_wp2_with (go_at_call 263; refine (hW _).mono ?_; rintro e w' ⟨rfl, rfl⟩)
    go_ret
    exact ⟨ret_int (by omega), rfl⟩
/-- the day of the month of that number, or -1000000. -/
def nbB (y m : Int) (t : ByteArray) : Bool := decide (t.size ≤ 2) && (digs t && vldB y m (drN t))
def nbV (y m : Int) (t : ByteArray) : Int := if nbB y m t = true then num y m (drN t) else -1000000
theorem nbV_bd (y m : Int) (t : ByteArray) : nbV y m t = -1000000 ∨ (-719162 ≤ nbV y m t ∧ nbV y m t ≤ 2932896) := by
  unfold nbV
  split
  · rename_i h
    unfold nbB at h
    simp only [Bool.and_eq_true] at h
    exact .inr (num_bd h.2.2)
  · exact .inl rfl
set_option maxHeartbeats 1000000 in
theorem impl_numbered (y m : Int) (s t : ByteArray) (w : World) (hT : Tab w) (hz : t.size ≤ maxLen) :
    Calls Tryz.prog 244 #[.agg #[.int .i64 y, .int .i64 m, .string s], .string t] w fun e w' => e = .returned (.int .i64 (nbV y m t)) ∧ Below w.heap.size w w' := by
  unfold maxLen at hz
  unfold nbV nbB
  by_cases h2 : 2 < t.size
  · rw [if_neg (by simp; omega)]
    go_enter Tryz.func244, Tryz.ntmps244
    go_wp2
    go_ret
    exact ⟨rfl, (Below.refl _ _).alloc (Nat.le_refl _) _⟩
  have hD := fun w => impl_digitsRead t w (by omega)
  have hR := fun w (h : Tab w) => impl_DateRight y m (drN t) w h
  rw [decide_eq_true (show t.size ≤ 2 by omega)]
  cases hd : digs t
  · rw [hd] at hD
    simp only [Bool.false_and, Bool.and_false, Bool.false_eq_true, if_false]
    clear hd
    generalize drN t = k at *
    go_enter Tryz.func244, Tryz.ntmps244
    go_wp2_with (go_at_call 260; refine (hD _).mono ?_; rintro e w' ⟨rfl, rfl⟩)
    go_ret
    exact ⟨rfl, ((Below.refl _ _).alloc (Nat.le_refl _) _).alloc (by simp) _⟩
  · rw [hd] at hD
    simp only [Bool.true_and]
    clear hd
    cases hv : vldB y m (drN t)
    · rw [hv] at hR
      clear hv
      generalize drN t = k at *
      simp only [Bool.false_eq_true, if_false]
      go_enter Tryz.func244, Tryz.ntmps244
      go_wp2_with fail
      refine (hD _).mono ?_
      rintro e w1 ⟨rfl, rfl⟩
      go_wp2_with fail
      refine (hR _ ((hT.alloc _).alloc _)).mono ?_
      rintro e w2 ⟨rfl, hb⟩
      go_wp2
      go_ret
      exact ⟨rfl, (((Below.refl _ _).alloc (Nat.le_refl _) _).alloc (by simp) _).trans (hb.mono (by simp; omega))⟩
    · have hX := fun w (h : Tab w) => impl_DaysOf_ok y m (drN t) w h hv
      rw [hv] at hR
      clear hv
      generalize num y m (drN t) = q at *
      generalize drN t = k at *
      simp only [if_true]
      go_enter Tryz.func244, Tryz.ntmps244
      go_wp2_with fail
      refine (hD _).mono ?_
      rintro e w1 ⟨rfl, rfl⟩
      go_wp2_with fail
      refine (hR _ ((hT.alloc _).alloc _)).mono ?_
      rintro e w2 ⟨rfl, hb⟩
      obtain ⟨hc, hf⟩ := bcell hb
      have hB := (((Below.refl w.heap.size w).alloc (Nat.le_refl _) _).alloc (by simp) _).trans (hb.mono (by simp; omega))
      have hT2 := hT.of_below hB
      go_wp2_with fail
      refine (hX _ hT2).mono ?_
      rintro e w3 ⟨rfl, hb3⟩
      go_wp2
      go_ret
      exact ⟨rfl, hB.trans (hb3.mono hB.size)⟩
/-- one or two digits, or -1. -/
def twoN (t : ByteArray) : Int := if t.size ≤ 2 then ldN t else -1
set_option maxHeartbeats 1000000 in
theorem spec_l01Two (s : ByteArray) (w : World) (hz : s.size ≤ maxLen) :
    Calls Tryz.prog 193 #[.string s] w fun e w' => e = .returned (.int .i64 (twoN s)) ∧ w' = w := by
  unfold maxLen at hz
  unfold twoN
  by_cases h2 : 2 < s.size
  · rw [if_neg (by omega)]
    go_enter Tryz.func193, Tryz.ntmps193
    go_wp2
    go_ret
    exact ⟨rfl, rfl⟩
  rw [if_pos (by omega)]
  by_cases h0 : s.size < 1
  · have h := digs_no0 (s := s) (by omega)
    rw [ldN_f h]
    go_enter Tryz.func193, Tryz.ntmps193
    go_wp2
    go_ret
    exact ⟨rfl, rfl⟩
  · go_enter Tryz.func193, Tryz.ntmps193
    go_wp2
    go_loop [3, 4] (fun x i => ∃ k : Nat, k ≤ s.size ∧ i = .int .i64 k ∧ x = .int .i64 (numAt s k) ∧ Hid (∀ j, j < k → digB (byteAt s j) = true)) (fun _ i => s.size - (intOf i).toNat)
    case atStart => exact ⟨0, by omega, rfl, rfl, upto_zero⟩
    case round =>
      obtain ⟨k, hk, rfl, rfl, hall⟩ := hrel
      by_cases hlt : k < s.size
      · have hB := fun w => spec_l01Digit (byteAt s k) w
        have nb := numAt_bd9 (s := s) (k := k) (by omega) hall.out
        have e := byteAt_eq s k hlt
        cases hb : digB (byteAt s k)
        · have HB : Hid (digs s = false) := digs_no hlt hb
          rw [hb, ← e] at hB
          clear hb e
          go_wp2_with (go_at_call 144; refine (hB _).mono ?_; rintro e w' ⟨rfl, rfl⟩)
          go_ret
          exact ⟨ret_int (ldN_f HB.out).symm, rfl⟩
        · have HB : Hid (digB (byteAt s k) = true) := hb
          have ⟨b1, b2⟩ := digB_t hb
          have HN : Hid (numAt s (k + 1) = 10 * numAt s k + ((s[k].toNat : Int) - 48)) := by simp only [Hid, numAt]; rw [e]
          rw [hb, ← e] at hB
          rw [← e] at b1 b2
          clear hb e
          go_wp2_with (go_at_call 144; refine (hB _).mono ?_; rintro e w' ⟨rfl, rfl⟩)
          go_round
          case rel => exact ⟨k + 1, by omega, by go_num, by rw [HN.out], upto_succ hall.out HB.out⟩
          case measure => simp [intOf]; omega
      · have e : k = s.size := by omega
        subst e
        have HB : Hid (digs s = true) := digs_yes (by omega) hall.out
        go_wp2
        go_ret
        exact ⟨ret_int (ldN_t HB.out).symm, rfl⟩
end Go.Proofs.YtbbhpfobcelbfaaGreatDoor
namespace Go.Proofs.YtbbhpfobcelbfaaGreatDoor
open Go.RowKit Go.Sort

theorem rgS {f : FuncId} {args : Array Value} {W : World} {v : Value} (h : ∀ w, Calls Tryz.prog f args w fun e w' => e = .returned v ∧ w' = w) :
    ∀ dd os, Calls Tryz.prog f args (grow (redrawn W dd) os) fun e w'' => e = .returned v ∧ ∃ p : Regrown, w'' = grow (redrawn W p.d) p.os :=
  fun dd os => Calls.regrown_of ((h _).mono fun e w' ⟨he, hw⟩ => ⟨he, by subst hw; exact Below.refl _ _⟩)
theorem rgA {f : FuncId} {args : Array Value} {W : World} {v : Value} (hT : Tab W) (h : ∀ w, Tab w → Calls Tryz.prog f args w fun e w' => e = .returned v ∧ Below w.heap.size w w') :
    ∀ dd os, Calls Tryz.prog f args (grow (redrawn W dd) os) fun e w'' => e = .returned v ∧ ∃ p : Regrown, w'' = grow (redrawn W p.d) p.os :=
  fun dd os => Calls.regrown_of (h _ (hT.of_below (below_regrown W dd os)))
/-- the machine's greatest length for a search by its own means: some number. -/
def Mx (w : World) : Prop := ∃ m : Int, w.cell? ⟨0, 0, none⟩ = some (.int .i64 m)
theorem Mx.of_below {w w' : World} (h : Mx w) (hb : Below w.heap.size w w') : Mx w' := by
  obtain ⟨m, hm⟩ := h
  exact ⟨m, by rw [(bcell hb).1 _ _ (World.block_lt_of_cell? _ _ hm)]; exact hm⟩
theorem Mx.alloc {w : World} (h : Mx w) (o : Obj) : Mx (w.alloc o) := h.of_below ((Below.refl _ _).alloc (Nat.le_refl _) o)
set_option maxHeartbeats 400000 in
theorem impl_dayOfMonth (y m : Int) (s : ByteArray) (w : World) (hT : Tab w) (hz : s.size ≤ maxLen) :
    Calls Tryz.prog 212 #[.agg #[.int .i64 y, .int .i64 m, .string s]] w fun e w' => e = .returned (.int .i64 (nbV y m s)) ∧ Below w.heap.size w w' := by
  have hN := fun w (h : Tab w) => impl_numbered y m s s w h hz
  generalize nbV y m s = k at *
  go_enter Tryz.func212, Tryz.ntmps212
  go_wp2_with fail
  refine (hN _ (hT.alloc _)).mono ?_
  rintro e w1 ⟨rfl, hb⟩
  go_wp2
  go_ret
  exact ⟨rfl, ((Below.refl _ _).alloc (Nat.le_refl _) _).trans (hb.mono (by simp))⟩
/-- what is ahead of a sign of two bytes, behind it, and whether it is there. -/
def cutA (s : ByteArray) (a b : UInt8) : ByteArray := ⟨(Lib.cut s.data.toList [a, b]).1.toArray⟩
def cutZ (s : ByteArray) (a b : UInt8) : ByteArray := ⟨(Lib.cut s.data.toList [a, b]).2.1.toArray⟩
def cutB (s : ByteArray) (a b : UInt8) : Bool := (Lib.cut s.data.toList [a, b]).2.2
def firstV (y m : Int) (s : ByteArray) : Int := if cutB s 62 61 = true then fromV (wdN (cutA s 62 61)) (nbV y m (cutZ s 62 61)) else -1000000
def lastV (y m : Int) (s : ByteArray) : Int := if cutB s 60 61 = true then uptoV (wdN (cutA s 60 61)) (nbV y m (cutZ s 60 61)) else -1000000
theorem cutZ_le (s : ByteArray) (a b : UInt8) : (cutZ s a b).size ≤ s.size := by
  unfold cutZ Lib.cut
  simp only [ByteArray.size]
  split <;> simp
theorem impl_Cut (s : ByteArray) (a b : UInt8) (w : World) (hM : Mx w) (hs : s.size < 4294967281) :
    Calls Tryz.prog 40 #[.string s, .string ⟨#[a, b]⟩] w fun e w' => e = .returned (.tuple #[.string (cutA s a b), .string (cutZ s a b), .bool (cutB s a b)]) ∧ ∃ n, w' = w.drewN n := by
  obtain ⟨m, hm⟩ := hM
  exact Tryz.strings_Cut s ⟨#[a, b]⟩ m w hs hm
set_option maxHeartbeats 1000000 in
theorem impl_firstFrom (y m : Int) (s : ByteArray) (w : World) (hT : Tab w) (hM : Mx w) (hz : s.size ≤ 1048576) :
    Calls Tryz.prog 214 #[.agg #[.int .i64 y, .int .i64 m, .string s]] w fun e w' => e = .returned (.int .i64 (firstV y m s)) ∧ Below w.heap.size w w' := by
  have hC := fun w (h : Mx w) => impl_Cut s 62 61 w h (by omega)
  have hN := fun w (h : Tab w) => impl_numbered y m s (cutZ s 62 61) w h (by have := cutZ_le s 62 61; unfold maxLen; omega)
  have hD := fun w => impl_weekdayNamed (cutA s 62 61) w
  have hF := fun w => impl_weekdayFrom (wdN (cutA s 62 61)) (nbV y m (cutZ s 62 61)) w (wdN_bd _) (nbV_bd _ _ _)
  unfold firstV
  generalize wdN (cutA s 62 61) = v at *
  generalize nbV y m (cutZ s 62 61) = k at *
  generalize cutA s 62 61 = sa at *
  generalize cutZ s 62 61 = sz at *
  cases hb : cutB s 62 61
  · rw [hb] at hC
    clear hb
    simp only [Bool.false_eq_true, if_false]
    go_enter Tryz.func214, Tryz.ntmps214
    go_wp2_with fail
    refine (hC _ (hM.alloc _)).mono ?_
    rintro e w1 ⟨rfl, n, rfl⟩
    go_wp2
    go_ret
    exact ⟨rfl, below1 _ _ _⟩
  · rw [hb] at hC
    clear hb
    simp only [if_true]
    generalize fromV v k = r at *
    go_enter Tryz.func214, Tryz.ntmps214
    go_wp2_with fail
    refine (hC _ (hM.alloc _)).mono ?_
    rintro e w1 ⟨rfl, n, rfl⟩
    go_wp2_with fail
    have hBW := below1 w (.cells #[.int .i64 y, .int .i64 m, .string s] 223) n
    have hTW := hT.of_below hBW
    have k0 := cell_regrown (w := (w.alloc (.cells #[.int .i64 y, .int .i64 m, .string s] 223)).drewN n) (a := ⟨w.heap.size, 0, none⟩) (v := .int .i64 y) (by simp)
    have k1 := cell_regrown (w := (w.alloc (.cells #[.int .i64 y, .int .i64 m, .string s] 223)).drewN n) (a := ⟨w.heap.size, 1, none⟩) (v := .int .i64 m) (by simp)
    have k2 := cell_regrown (w := (w.alloc (.cells #[.int .i64 y, .int .i64 m, .string s] 223)).drewN n) (a := ⟨w.heap.size, 2, none⟩) (v := .string s) (by simp)
    generalize (w.alloc (.cells #[.int .i64 y, .int .i64 m, .string s] 223)).drewN n = W at *
    have cD := rgS (W := W) hD
    have cF := rgS (W := W) hF
    have cN := rgA hTW hN
    refine wp_region_quiet_below (by kernel_rfl) (by kernel_rfl) ?_
    repeat (quiet_step (first | (go_at_call 247; exact cD _ _) | (go_at_call 244; exact cN _ _) | (go_at_call 249; exact cF _ _)))
    refine wpQuiet_nil ?_
    intro _ hw'
    obtain ⟨⟨dq, osq⟩, hw''⟩ := hw'
    subst hw''
    go_wp2
    go_ret
    exact ⟨rfl, hBW.trans ((below_regrown _ dq osq).mono hBW.size)⟩
end Go.Proofs.YtbbhpfobcelbfaaGreatDoor
namespace Go.Proofs.YtbbhpfobcelbfaaGreatDoor
open Go.RowKit Go.Sort

theorem below_twoO (w : World) (a b : Obj) : Below w.heap.size w ((w.alloc a).alloc b).drew :=
  below_drewN (((Below.refl _ _).alloc (Nat.le_refl _) a).alloc (by simp) b) 1
set_option maxHeartbeats 1000000 in
theorem impl_lastUpTo (y m : Int) (s : ByteArray) (w : World) (hT : Tab w) (hM : Mx w) (hz : s.size ≤ 1048576) :
    Calls Tryz.prog 215 #[.agg #[.int .i64 y, .int .i64 m, .string s]] w fun e w' => e = .returned (.int .i64 (lastV y m s)) ∧ Below w.heap.size w w' := by
  have hC := fun w (h : Mx w) => impl_Cut s 60 61 w h (by omega)
  have hN := fun w (h : Tab w) => impl_numbered y m s (cutZ s 60 61) w h (by have := cutZ_le s 60 61; unfold maxLen; omega)
  have hD := fun w => impl_weekdayNamed (cutA s 60 61) w
  have hF := fun w => impl_weekdayUpTo (wdN (cutA s 60 61)) (nbV y m (cutZ s 60 61)) w (wdN_bd _) (nbV_bd _ _ _)
  unfold lastV
  generalize wdN (cutA s 60 61) = v at *
  generalize nbV y m (cutZ s 60 61) = k at *
  generalize cutA s 60 61 = sa at *
  generalize cutZ s 60 61 = sz at *
  cases hb : cutB s 60 61
  · rw [hb] at hC
    clear hb
    simp only [Bool.false_eq_true, if_false]
    go_enter Tryz.func215, Tryz.ntmps215
    go_wp2_with fail
    refine (hC _ (hM.alloc _)).mono ?_
    rintro e w1 ⟨rfl, n, rfl⟩
    go_wp2
    go_ret
    exact ⟨rfl, below1 _ _ _⟩
  · rw [hb] at hC
    clear hb
    simp only [if_true]
    generalize uptoV v k = r at *
    go_enter Tryz.func215, Tryz.ntmps215
    go_wp2_with fail
    refine (hC _ (hM.alloc _)).mono ?_
    rintro e w1 ⟨rfl, n, rfl⟩
    go_wp2_with fail
    have hBW := below1 w (.cells #[.int .i64 y, .int .i64 m, .string s] 223) n
    have hTW := hT.of_below hBW
    have k0 := cell_regrown (w := (w.alloc (.cells #[.int .i64 y, .int .i64 m, .string s] 223)).drewN n) (a := ⟨w.heap.size, 0, none⟩) (v := .int .i64 y) (by simp)
    have k1 := cell_regrown (w := (w.alloc (.cells #[.int .i64 y, .int .i64 m, .string s] 223)).drewN n) (a := ⟨w.heap.size, 1, none⟩) (v := .int .i64 m) (by simp)
    have k2 := cell_regrown (w := (w.alloc (.cells #[.int .i64 y, .int .i64 m, .string s] 223)).drewN n) (a := ⟨w.heap.size, 2, none⟩) (v := .string s) (by simp)
    generalize (w.alloc (.cells #[.int .i64 y, .int .i64 m, .string s] 223)).drewN n = W at *
    have cD := rgS (W := W) hD
    have cF := rgS (W := W) hF
    have cN := rgA hTW hN
    refine wp_region_quiet_below (by kernel_rfl) (by kernel_rfl) ?_
    repeat (quiet_step (first | (go_at_call 247; exact cD _ _) | (go_at_call 244; exact cN _ _) | (go_at_call 246; exact cF _ _)))
    refine wpQuiet_nil ?_
    intro _ hw'
    obtain ⟨⟨dq, osq⟩, hw''⟩ := hw'
    subst hw''
    go_wp2
    go_ret
    exact ⟨rfl, hBW.trans ((below_regrown _ dq osq).mono hBW.size)⟩

/-- what is behind the word last, and whether it stands ahead. -/
def laR (s : ByteArray) : ByteArray := ⟨(Lib.trimPrefix s.data.toList [108, 97, 115, 116]).toArray⟩
def laB (s : ByteArray) : Bool := Lib.hasPrefix s.data.toList [108, 97, 115, 116]
def lomV (y m : Int) (s : ByteArray) : Int := if laB s = true then uptoV (wdN (laR s)) (num y m (Cal.dim y m)) else -1000000
theorem vld_last {y m : Int} (h : ymB y m = true) : vldB y m (Cal.dim y m) = true := by
  have ⟨a, b, c, d⟩ := ymB_t h
  have := Cal.dim_bd y m
  exact vld_mk ⟨a, b, c, d, by omega, by omega⟩
set_option maxHeartbeats 2000000 in
theorem impl_lastOfMonth (y m : Int) (s : ByteArray) (w : World) (hT : Tab w) (hy : ymB y m = true) :
    Calls Tryz.prog 213 #[.agg #[.int .i64 y, .int .i64 m, .string s]] w fun e w' => e = .returned (.int .i64 (lomV y m s)) ∧ Below w.heap.size w w' := by
  have hC := fun w => Tryz.strings_CutPrefix s ⟨#[108, 97, 115, 116]⟩ w
  have er : (⟨(Lib.trimPrefix s.data.toList (⟨#[108, 97, 115, 116]⟩ : ByteArray).data.toList).toArray⟩ : ByteArray) = laR s := rfl
  have eb : Lib.hasPrefix s.data.toList (⟨#[108, 97, 115, 116]⟩ : ByteArray).data.toList = laB s := rfl
  rw [er, eb] at hC
  have ⟨y1, y2, m1, m2⟩ := ymB_t hy
  have hM := fun w (h : Tab w) => impl_MonthDays_ok y m w h y1 y2 m1 m2
  have hX := fun w (h : Tab w) => impl_DaysOf_ok y m (Cal.dim y m) w h (vld_last hy)
  have hD := fun w => impl_weekdayNamed (laR s) w
  have nb := num_bd (vld_last hy)
  have hF := fun w => impl_weekdayUpTo (wdN (laR s)) (num y m (Cal.dim y m)) w (wdN_bd _) (.inr nb)
  unfold lomV
  clear er eb hy nb y1 y2 m1 m2
  generalize uptoV (wdN (laR s)) (num y m (Cal.dim y m)) = r at *
  generalize wdN (laR s) = v at *
  generalize num y m (Cal.dim y m) = k at *
  generalize Cal.dim y m = d at *
  generalize laR s = sr at *
  cases hb : laB s
  · rw [hb] at hC
    clear hb
    simp only [Bool.false_eq_true, if_false]
    go_enter Tryz.func213, Tryz.ntmps213
    go_wp2_with (go_at_call 245; refine (hC _).mono ?_; rintro e w' ⟨rfl, rfl⟩)
    go_ret
    exact ⟨rfl, (Below.refl _ _).alloc (Nat.le_refl _) _⟩
  · rw [hb] at hC
    clear hb
    simp only [if_true]
    go_enter Tryz.func213, Tryz.ntmps213
    go_wp2_with fail
    refine (hC _).mono ?_
    rintro e w1 ⟨rfl, rfl⟩
    go_upto_region 4 with fail
    go_cut [5] from 14 to 23 (fun x wx => x = .pointer (some ⟨w.heap.size + 1, 0, none⟩) ∧ wx = ((w.alloc (.cells #[.int .i64 y, .int .i64 m, .string s] 223)).alloc (.cells #[.int .i64 y, .int .i64 m, .int .i64 d] 234)).drew)
    case first =>
      go_region_held3 (fun w' => w'.cell? ⟨w.heap.size, 0, none⟩ = some (.int .i64 y) ∧ w'.cell? ⟨w.heap.size, 1, none⟩ = some (.int .i64 m)) (go_keep) ((go_at_call 211; refine (hM _ ?_).mono ?_; (first | exact hT.alloc _ | exact (hT.alloc _).alloc _); rintro e w' ⟨rfl, rfl⟩))
      all_goals
        go_wp2
        go_meet
        exact ⟨rfl, rfl⟩
    case rest =>
      obtain ⟨rfl, rfl⟩ := hcut
      go_wp2_with fail
      have hBW := below_twoO w (.cells #[.int .i64 y, .int .i64 m, .string s] 223) (.cells #[.int .i64 y, .int .i64 m, .int .i64 d] 234)
      have hTW := hT.of_below hBW
      have k0 := cell_regrown (w := ((w.alloc (.cells #[.int .i64 y, .int .i64 m, .string s] 223)).alloc (.cells #[.int .i64 y, .int .i64 m, .int .i64 d] 234)).drew) (a := ⟨w.heap.size + 1, 0, none⟩) (v := .int .i64 y) (by simp)
      have k1 := cell_regrown (w := ((w.alloc (.cells #[.int .i64 y, .int .i64 m, .string s] 223)).alloc (.cells #[.int .i64 y, .int .i64 m, .int .i64 d] 234)).drew) (a := ⟨w.heap.size + 1, 1, none⟩) (v := .int .i64 m) (by simp)
      have k2 := cell_regrown (w := ((w.alloc (.cells #[.int .i64 y, .int .i64 m, .string s] 223)).alloc (.cells #[.int .i64 y, .int .i64 m, .int .i64 d] 234)).drew) (a := ⟨w.heap.size + 1, 2, none⟩) (v := .int .i64 d) (by simp)
      generalize ((w.alloc (.cells #[.int .i64 y, .int .i64 m, .string s] 223)).alloc (.cells #[.int .i64 y, .int .i64 m, .int .i64 d] 234)).drew = W at *
      have cD := rgS (W := W) hD
      have cF := rgS (W := W) hF
      have cX := rgA hTW hX
      refine wp_region_quiet_below (by kernel_rfl) (by kernel_rfl) ?_
      repeat (quiet_step (first | (go_at_call 247; exact cD _ _) | (go_at_call 248; exact cX _ _) | (go_at_call 246; exact cF _ _)))
      refine wpQuiet_nil ?_
      intro _ hw'
      obtain ⟨⟨dq, osq⟩, hw''⟩ := hw'
      subst hw''
      go_wp2
      go_ret
      exact ⟨rfl, hBW.trans ((below_regrown _ dq osq).mono hBW.size)⟩
end Go.Proofs.YtbbhpfobcelbfaaGreatDoor
namespace Go.Proofs.YtbbhpfobcelbfaaGreatDoor
open Go.RowKit

/-- the first of four that is a day. -/
def orV (a b c d : Int) : Int := if a = -1000000 then (if b = -1000000 then (if c = -1000000 then d else c) else b) else a
def onV (y m : Int) (s : ByteArray) : Int := orV (nbV y m s) (lomV y m s) (firstV y m s) (lastV y m s)
set_option maxHeartbeats 1000000 in
theorem impl_told_ok (y m : Int) (s : ByteArray) (w : World) (hT : Tab w) (hM : Mx w) (hy : ymB y m = true) (hz : s.size ≤ 1048576) :
    Calls Tryz.prog 178 #[.agg #[.int .i64 y, .int .i64 m, .string s]] w fun e w' => e = .returned (.int .i64 (onV y m s)) ∧ Below w.heap.size w w' := by
  have ⟨y1, y2, m1, m2⟩ := ymB_t hy
  have hD := fun w (h : Tab w) => impl_MonthDays_ok y m w h y1 y2 m1 m2
  have dm := Cal.dim_bd y m
  have h0 := fun w (h : Tab w) => impl_dayOfMonth y m s w h (by unfold maxLen; omega)
  have h1 := fun w (h : Tab w) => impl_lastOfMonth y m s w h hy
  have h2 := fun w (h : Tab w) (k : Mx w) => impl_firstFrom y m s w h k hz
  have h3 := fun w (h : Tab w) (k : Mx w) => impl_lastUpTo y m s w h k hz
  have i0 : ∀ (w : World) (x0 x1 x2 x3 : Value), (Instr.index 256 (.agg #[x0, x1, x2, x3]) (.int .i64 0)).run Tryz.prog w = .ok x0 w := fun _ _ _ _ _ => by kernel_rfl
  have i1 : ∀ (w : World) (x0 x1 x2 x3 : Value), (Instr.index 256 (.agg #[x0, x1, x2, x3]) (.int .i64 1)).run Tryz.prog w = .ok x1 w := fun _ _ _ _ _ => by kernel_rfl
  have i2 : ∀ (w : World) (x0 x1 x2 x3 : Value), (Instr.index 256 (.agg #[x0, x1, x2, x3]) (.int .i64 2)).run Tryz.prog w = .ok x2 w := fun _ _ _ _ _ => by kernel_rfl
  have i3 : ∀ (w : World) (x0 x1 x2 x3 : Value), (Instr.index 256 (.agg #[x0, x1, x2, x3]) (.int .i64 3)).run Tryz.prog w = .ok x3 w := fun _ _ _ _ _ => by kernel_rfl
  unfold onV
  generalize nbV y m s = d0 at *
  generalize lomV y m s = d1 at *
  generalize firstV y m s = d2 at *
  generalize lastV y m s = d3 at *
  generalize Cal.dim y m = dd at *
  have hne : (dd == 0) = false := by simp; omega
  clear y1 y2 m1 m2 hy
  go_enter Tryz.func178, Tryz.ntmps178
  go_wp2_with fail
  refine (hD _ (hT.alloc _)).mono ?_
  rintro e w' ⟨rfl, rfl⟩
  go_wp2_with fail
  refine wp_loop_rounds 5 ?_
  rw [rounds_succ]
  go_wp2_with fail
  refine (h0 _ ((hT.alloc _).alloc _)).mono ?_
  rintro e w1 ⟨rfl, hb1⟩
  have hB1 := (((Below.refl w.heap.size w).alloc (Nat.le_refl _) _).alloc (by simp) _).trans (hb1.mono (by simp; omega))
  obtain ⟨hc1, _⟩ := bcell hb1
  by_cases e0 : d0 = -1000000
  case neg =>
    have g0 : (d0 != -1000000) = true := by simpa using e0
    go_wp2
    go_ret
    exact ⟨ret_int (by simp [orV, e0]), hB1⟩
  subst e0
  have hT1 := hT.of_below hB1
  have hM1 := hM.of_below hB1
  have q0 : w1.cell? ⟨w.heap.size, 0, none⟩ = some (.int .i64 y) := by rw [hc1 _ _ (by simp; omega)]; simp
  have q1 : w1.cell? ⟨w.heap.size, 1, none⟩ = some (.int .i64 m) := by rw [hc1 _ _ (by simp; omega)]; simp
  have q2 : w1.cell? ⟨w.heap.size, 2, none⟩ = some (.string s) := by rw [hc1 _ _ (by simp; omega)]; simp
  have hlt1 : w.heap.size < w1.heap.size := World.block_lt_of_cell? _ _ q0
  clear hb1 hc1
  go_wp2_with fail
  rw [rounds_succ]
  go_wp2_with fail
  refine (h1 _ hT1).mono ?_
  rintro e w2 ⟨rfl, hb2⟩
  have hB2 := hB1.trans (hb2.mono hB1.size)
  obtain ⟨hc2, _⟩ := bcell hb2
  by_cases e1 : d1 = -1000000
  case neg =>
    have g0 : (d1 != -1000000) = true := by simpa using e1
    go_wp2
    go_ret
    exact ⟨ret_int (by simp [orV, e1]), hB2⟩
  subst e1
  have hT2 := hT.of_below hB2
  have hM2 := hM.of_below hB2
  have p0 : w2.cell? ⟨w.heap.size, 0, none⟩ = some (.int .i64 y) := by rw [hc2 _ _ hlt1]; exact q0
  have p1 : w2.cell? ⟨w.heap.size, 1, none⟩ = some (.int .i64 m) := by rw [hc2 _ _ hlt1]; exact q1
  have p2 : w2.cell? ⟨w.heap.size, 2, none⟩ = some (.string s) := by rw [hc2 _ _ hlt1]; exact q2
  have hlt2 : w.heap.size < w2.heap.size := World.block_lt_of_cell? _ _ p0
  clear hb2 hc2 q0 q1 q2
  go_wp2_with fail
  rw [rounds_succ]
  go_wp2_with fail
  refine (h2 _ hT2 hM2).mono ?_
  rintro e w3 ⟨rfl, hb3⟩
  have hB3 := hB2.trans (hb3.mono hB2.size)
  obtain ⟨hc3, _⟩ := bcell hb3
  by_cases e2 : d2 = -1000000
  case neg =>
    have g0 : (d2 != -1000000) = true := by simpa using e2
    go_wp2
    go_ret
    exact ⟨ret_int (by simp [orV, e2]), hB3⟩
  subst e2
  have hT3 := hT.of_below hB3
  have hM3 := hM.of_below hB3
  have q0 : w3.cell? ⟨w.heap.size, 0, none⟩ = some (.int .i64 y) := by rw [hc3 _ _ hlt2]; exact p0
  have q1 : w3.cell? ⟨w.heap.size, 1, none⟩ = some (.int .i64 m) := by rw [hc3 _ _ hlt2]; exact p1
  have q2 : w3.cell? ⟨w.heap.size, 2, none⟩ = some (.string s) := by rw [hc3 _ _ hlt2]; exact p2
  clear hb3 hc3 p0 p1 p2
  go_wp2_with fail
  rw [rounds_succ]
  go_wp2_with fail
  refine (h3 _ hT3 hM3).mono ?_
  rintro e w4 ⟨rfl, hb4⟩
  have hB4 := hB3.trans (hb4.mono hB3.size)
  by_cases e3 : d3 = -1000000
  case neg =>
    have g0 : (d3 != -1000000) = true := by simpa using e3
    go_wp2
    go_ret
    exact ⟨ret_int (by simp [orV]), hB4⟩
  subst e3
  go_wp2_with fail
  rw [rounds_succ]
  go_wp2
  go_ret
  exact ⟨ret_int (by simp [orV]), hB4⟩
set_option maxHeartbeats 400000 in
theorem impl_told_no (y m : Int) (s : ByteArray) (w : World) (hT : Tab w) (hy : ymB y m = false) :
    Calls Tryz.prog 178 #[.agg #[.int .i64 y, .int .i64 m, .string s]] w fun e w' => e = .returned (.int .i64 (-1000000)) ∧ Below w.heap.size w w' := by
  have hD := fun w (h : Tab w) => impl_MonthDays y m w h
  rw [mdays_no hy] at hD
  go_enter Tryz.func178, Tryz.ntmps178
  go_wp2_with fail
  refine (hD _ (hT.alloc _)).mono ?_
  rintro e w' ⟨rfl, rfl⟩
  go_wp2
  go_ret
  exact ⟨rfl, (Below.refl _ _).alloc (Nat.le_refl _) _⟩
/-- what is told of a year, a month and a text. -/
def toldV (y m : Int) (s : ByteArray) : Int := if ymB y m = true then onV y m s else -1000000
theorem impl_told (y m : Int) (s : ByteArray) (w : World) (hT : Tab w) (hM : Mx w) (hz : s.size ≤ 1048576) :
    Calls Tryz.prog 178 #[.agg #[.int .i64 y, .int .i64 m, .string s]] w fun e w' => e = .returned (.int .i64 (toldV y m s)) ∧ Below w.heap.size w w' := by
  unfold toldV
  cases hy : ymB y m
  · exact impl_told_no y m s w hT hy
  · exact impl_told_ok y m s w hT hM hy hz
set_option maxHeartbeats 400000 in
theorem impl_DayOn (y m : Int) (s : ByteArray) (w : World) (hT : Tab w) (hM : Mx w) (hz : s.size ≤ 8000) :
    Calls Tryz.prog 134 #[.int .i64 y, .int .i64 m, .string s] w fun e w' => e = .returned (.int .i64 (toldV y m s)) ∧ Below w.heap.size w w' := by
  have hX := fun w (h : Tab w) (k : Mx w) => impl_told y m s w h k (by omega)
  generalize toldV y m s = r at *
  go_enter Tryz.func134, Tryz.ntmps134
  go_wp2_with fail
  refine (hX _ hT hM).mono ?_
  rintro e w1 ⟨rfl, hb⟩
  go_wp2
  go_ret
  exact ⟨rfl, hb⟩
end Go.Proofs.YtbbhpfobcelbfaaGreatDoor
namespace Go.Proofs.YtbbhpfobcelbfaaGreatDoor
open Go.RowKit

def aB (s : ByteArray) : Bool := decide (s.size = 7) && ((s.extract 0 4).toList == [108, 97, 115, 116])
def bB (c : UInt8) (s : ByteArray) : Bool := decide (5 < s.size) && ((s.extract 3 5).toList == [c, 61])
def moV (y m : Int) (s : ByteArray) : Int := if aB s = true ∧ wdN (s.extract 4 7) ≠ -1 then uptoV (wdN (s.extract 4 7)) (num y m (Cal.dim y m)) else if bB 62 s = true then fromV (wdN (s.extract 0 3)) (nbV y m (s.extract 5 s.size)) else if bB 60 s = true then uptoV (wdN (s.extract 0 3)) (nbV y m (s.extract 5 s.size)) else nbV y m s
theorem num_one (y m k : Int) : num y m k = num y m 1 + k - 1 := by unfold num; omega
theorem twoN_bd (t : ByteArray) : -1 ≤ twoN t ∧ twoN t ≤ 999999999 := by
  unfold twoN
  split
  · cases hd : digs t
    · rw [ldN_f hd]; omega
    · have := numAt_bd9 (s := t) (k := t.size) (by omega) (digs_t hd).2
      rw [ldN_t hd]; omega
  · omega
/-- the day of a number, by the model's number. -/
theorem nb_two {y m : Int} (h : ymB y m = true) (t : ByteArray) : nbV y m t = if 1 ≤ twoN t ∧ twoN t ≤ Cal.dim y m then num y m 1 + twoN t - 1 else -1000000 := by
  have ⟨a, b, c, d⟩ := ymB_t h
  unfold nbV nbB twoN
  by_cases h2 : t.size ≤ 2
  · rw [if_pos h2, decide_eq_true h2]
    cases hd : digs t
    · rw [ldN_f hd]; simp
    · rw [ldN_t hd, drN_t hd, ← num_one]
      cases hv : vldB y m (numAt t t.size)
      · rw [if_neg (by simp), if_neg]
        intro hn
        exact vld_f hv ⟨a, b, c, d, hn.1, hn.2⟩
      · have := vld_t hv
        rw [if_pos (by simp), if_pos ⟨this.2.2.2.2.1, this.2.2.2.2.2⟩]
  · rw [if_neg h2]; simp [h2]
theorem last_num (y m : Int) : num y m (Cal.dim y m) = num y m 1 + Cal.dim y m - 1 := num_one _ _ _
theorem ext_byte {s : ByteArray} {a b : Nat} {l : List UInt8} (hb : b ≤ s.size) (h : (s.extract a b).toList = l) {i : Nat} {c : UInt8} (hi : l[i]? = some c) : byteAt s (a + i) = (c.toNat : Int) := by
  have e : s.extract a b = S l := by
    apply ByteArray.ext
    apply Array.ext'
    rw [ByteArray.toList_eq] at h
    simpa [S] using h
  obtain ⟨hlt, _⟩ := List.getElem?_eq_some_iff.mp hi
  have hz : (s.extract a b).size = l.length := by rw [e, S_size]
  rw [ByteArray.size_extract] at hz
  rw [← byteAt_ex hb (by omega), e]
  exact byteAt_S hi
theorem bB_byte {s : ByteArray} {c : UInt8} (h : bB c s = true) : 5 < s.size ∧ byteAt s 3 = (c.toNat : Int) ∧ byteAt s 4 = 61 := by
  unfold bB at h
  simp only [Bool.and_eq_true, decide_eq_true_eq, beq_iff_eq] at h
  exact ⟨h.1, ext_byte (a := 3) (by omega) h.2 (i := 0) rfl, ext_byte (a := 3) (by omega) h.2 (i := 1) rfl⟩
theorem aB_byte {s : ByteArray} (h : aB s = true) : s.size = 7 ∧ byteAt s 0 = 108 ∧ byteAt s 1 = 97 ∧ byteAt s 2 = 115 ∧ byteAt s 3 = 116 := by
  unfold aB at h
  simp only [Bool.and_eq_true, decide_eq_true_eq, beq_iff_eq] at h
  exact ⟨h.1, ext_byte (a := 0) (by omega) h.2 (i := 0) rfl, ext_byte (a := 0) (by omega) h.2 (i := 1) rfl, ext_byte (a := 0) (by omega) h.2 (i := 2) rfl, ext_byte (a := 0) (by omega) h.2 (i := 3) rfl⟩
set_option maxHeartbeats 1000000 in
theorem on_last (y m : Int) (s : ByteArray) (w : World) (hy : ymB y m = true) (ha : aB s = true) (hw : wdN (s.extract 4 7) ≠ -1) :
    Calls Tryz.prog 147 #[.int .i64 y, .int .i64 m, .string s] w fun e w' => e = .returned (.int .i64 (uptoV (wdN (s.extract 4 7)) (num y m (Cal.dim y m)))) ∧ Below w.heap.size w w' := by
  have ⟨y1, y2, m1, m2⟩ := ymB_t hy
  have hM := fun w => spec_l01Month y m w y1 y2
  have hF := fun w => spec_l01Days y m 1 w y1 y2 m1 m2 (by omega) (by omega)
  have dm := Cal.dim_bd y m
  have nl := num_bd (vld_last hy)
  have nf := num_bd (vld_mk (y := y) (m := m) (d := 1) ⟨y1, y2, m1, m2, by omega, by omega⟩)
  rw [last_num] at nl
  have hN := fun w => spec_l01Named (s.extract 4 7) w
  have hv : 0 ≤ wdN (s.extract 4 7) ∧ wdN (s.extract 4 7) < 7 := by have := wdN_bd (s.extract 4 7); omega
  have hz := (aB_byte ha).1
  unfold aB at ha
  simp only [Bool.and_eq_true] at ha
  have ha2 := ha.2
  have er : uptoV (wdN (s.extract 4 7)) (num y m (Cal.dim y m)) = num y m 1 + Cal.dim y m - 1 - ((num y m 1 + Cal.dim y m - 1 + 719163) % 7 - wdN (s.extract 4 7) + 7) % 7 := by
    unfold uptoV; rw [last_num, if_neg (by omega)]
  have HR : Hid (uptoV (wdN (s.extract 4 7)) (num y m (Cal.dim y m)) = num y m 1 + Cal.dim y m - 1 - ((num y m 1 + Cal.dim y m - 1 + 719163) % 7 - wdN (s.extract 4 7) + 7) % 7) := er
  have hW := fun w => spec_l01Weekday (num y m 1 + Cal.dim y m - 1) w (by omega) (by omega)
  clear ha hw er hy y1 y2 m1 m2
  generalize uptoV (wdN (s.extract 4 7)) (num y m (Cal.dim y m)) = r at *
  generalize wdN (s.extract 4 7) = v at *
  generalize Cal.dim y m = dd at *
  generalize num y m 1 = q at *
  have hr : 0 ≤ (q + dd - 1 + 719163) % 7 ∧ (q + dd - 1 + 719163) % 7 < 7 := by omega
  have hz' : ((s.size : Int) == 7) = true := by simp; omega
  generalize (q + dd - 1 + 719163) % 7 = u at *
  go_enter Tryz.func147, Tryz.ntmps147
  go_wp2_with fail
  refine (hM _).mono ?_
  rintro e w0 ⟨rfl, rfl⟩
  go_wp2_with fail
  refine (hF _).mono ?_
  rintro e w1 ⟨rfl, hb1⟩
  go_wp2_with fail
  refine (hN _).mono ?_
  rintro e w2 ⟨rfl, hb2⟩
  have hB2 := hb1.trans (hb2.mono hb1.size)
  go_wp2_with fail
  refine (hW _).mono ?_
  rintro e w3 ⟨rfl, rfl⟩
  go_wp2
  go_ret
  exact ⟨ret_int (by rw [HR.out]; omega), hB2⟩
end Go.Proofs.YtbbhpfobcelbfaaGreatDoor
namespace Go.Proofs.YtbbhpfobcelbfaaGreatDoor
open Go.RowKit

theorem aB_bB {s : ByteArray} (h : aB s = true) (c : UInt8) (hc : c.toNat ≠ 116) : bB c s = false := by
  cases hb : bB c s
  · rfl
  · have h1 := (aB_byte h).2.2.2.2
    have h2 := (bB_byte hb).2.1
    rw [h1] at h2
    omega
theorem two_big {s : ByteArray} (h : 2 < s.size) : twoN s = -1 := by unfold twoN; rw [if_neg (by omega)]
theorem bB_no {s : ByteArray} {c : UInt8} (h5 : 5 < s.size) (h : bB c s = false) : ((s.extract 3 5).toList == [c, 61]) = false := by
  unfold bB at h; rw [decide_eq_true h5] at h; simpa using h
set_option maxHeartbeats 1000000 in
theorem on_lastno (y m : Int) (s : ByteArray) (w : World) (hy : ymB y m = true) (ha : aB s = true) (hw : wdN (s.extract 4 7) = -1) :
    Calls Tryz.prog 147 #[.int .i64 y, .int .i64 m, .string s] w fun e w' => e = .returned (.int .i64 (-1000000)) ∧ Below w.heap.size w w' := by
  have ⟨y1, y2, m1, m2⟩ := ymB_t hy
  have hM := fun w => spec_l01Month y m w y1 y2
  have hF := fun w => spec_l01Days y m 1 w y1 y2 m1 m2 (by omega) (by omega)
  have dm := Cal.dim_bd y m
  have nl := num_bd (vld_last hy)
  have nf := num_bd (vld_mk (y := y) (m := m) (d := 1) ⟨y1, y2, m1, m2, by omega, by omega⟩)
  rw [last_num] at nl
  have hN := fun w => spec_l01Named (s.extract 4 7) w
  rw [hw] at hN
  have hz := (aB_byte ha).1
  have g1 := bB_no (c := 62) (by omega) (aB_bB ha 62 (by decide))
  have g2 := bB_no (c := 60) (by omega) (aB_bB ha 60 (by decide))
  unfold aB at ha
  simp only [Bool.and_eq_true] at ha
  have ha2 := ha.2
  have hT := fun w => spec_l01Two s w (by unfold maxLen; omega)
  rw [two_big (by omega)] at hT
  clear ha hw hy y1 y2 m1 m2
  generalize Cal.dim y m = dd at *
  generalize num y m 1 = q at *
  have hz' : ((s.size : Int) == 7) = true := by simp; omega
  go_enter Tryz.func147, Tryz.ntmps147
  go_wp2_with fail
  refine (hM _).mono ?_
  rintro e w0 ⟨rfl, rfl⟩
  go_wp2_with fail
  refine (hF _).mono ?_
  rintro e w1 ⟨rfl, hb1⟩
  go_wp2_with fail
  refine (hN _).mono ?_
  rintro e w2 ⟨rfl, hb2⟩
  have hB2 := hb1.trans (hb2.mono hb1.size)
  go_wp2_with fail
  refine (hT _).mono ?_
  rintro e w3 ⟨rfl, rfl⟩
  go_wp2
  go_ret
  exact ⟨rfl, hB2⟩
set_option maxHeartbeats 1000000 in
theorem on_ge_no0 (y m : Int) (s : ByteArray) (w : World) (hy : ymB y m = true) (hs : s.size ≤ 1048576) (ha : aB s = false) (hb : bB 62 s = true) (hv : wdN (s.extract 0 3) = -1) :
    Calls Tryz.prog 147 #[.int .i64 y, .int .i64 m, .string s] w fun e w' => e = .returned (.int .i64 (-1000000)) ∧ Below w.heap.size w w' := by
  have ⟨y1, y2, m1, m2⟩ := ymB_t hy
  have hM := fun w => spec_l01Month y m w y1 y2
  have hF := fun w => spec_l01Days y m 1 w y1 y2 m1 m2 (by omega) (by omega)
  have dm := Cal.dim_bd y m
  have nl := num_bd (vld_last hy)
  have nf := num_bd (vld_mk (y := y) (m := m) (d := 1) ⟨y1, y2, m1, m2, by omega, by omega⟩)
  rw [last_num] at nl
  have hN := fun w => spec_l01Named (s.extract 0 3) w
  have hT := fun w => spec_l01Two (s.extract 5 s.size) w (by rw [ByteArray.size_extract]; unfold maxLen; omega)
  have kb := twoN_bd (s.extract 5 s.size)
  have vb := wdN_bd (s.extract 0 3)
  have h5 := (bB_byte hb).1
  have hc3 : ((s[3].toNat : Int) == 62) = true := by rw [byteAt_eq s 3 (by omega), (bB_byte hb).2.1]; rfl
  have g1 : ((s.extract 3 5).toList == [62, 61]) = true := by unfold bB at hb; simp only [Bool.and_eq_true] at hb; exact hb.2
  rw [hv] at hN vb
  clear hv vb hb
  clear hy y1 y2 m1 m2
  generalize Cal.dim y m = dd at *
  generalize num y m 1 = q at *
  generalize twoN (s.extract 5 s.size) = k at *
  go_enter Tryz.func147, Tryz.ntmps147
  go_wp2_with fail
  refine (hM _).mono ?_
  rintro e w0 ⟨rfl, rfl⟩
  go_wp2_with fail
  refine (hF _).mono ?_
  rintro e w1 ⟨rfl, hb1⟩
  go_upto_region 3 with fail
  go_cut [29] from 22 to 29 (fun x wx => x = .bool false ∧ wx = w1)
  case first =>
    by_cases hz : s.size = 7
    · have hz' : ((s.size : Int) == 7) = true := by simp; omega
      have ha2 : ((s.extract 0 4).toList == [108, 97, 115, 116]) = false := by unfold aB at ha; rw [decide_eq_true hz] at ha; simpa using ha
      clear ha
      go_wp2
      go_meet
      exact ⟨by simp, rfl⟩
    · have hz' : ((s.size : Int) == 7) = false := by simp; omega
      go_wp2
      go_meet
      exact ⟨rfl, rfl⟩
  case rest =>
    obtain ⟨rfl, rfl⟩ := hcut
    go_wp2_with fail
    refine (hN _).mono ?_
    rintro e w2 ⟨rfl, hb2⟩
    have hB2 := hb1.trans (hb2.mono hb1.size)
    go_wp2_with fail
    refine (hT _).mono ?_
    rintro e w3 ⟨rfl, rfl⟩
    go_wp2
    go_ret
    exact ⟨rfl, hB2⟩
set_option maxHeartbeats 1000000 in
theorem on_ge_no1 (y m : Int) (s : ByteArray) (w : World) (hy : ymB y m = true) (hs : s.size ≤ 1048576) (ha : aB s = false) (hb : bB 62 s = true) (hv : wdN (s.extract 0 3) ≠ -1) (hk : twoN (s.extract 5 s.size) < 1) :
    Calls Tryz.prog 147 #[.int .i64 y, .int .i64 m, .string s] w fun e w' => e = .returned (.int .i64 (-1000000)) ∧ Below w.heap.size w w' := by
  have ⟨y1, y2, m1, m2⟩ := ymB_t hy
  have hM := fun w => spec_l01Month y m w y1 y2
  have hF := fun w => spec_l01Days y m 1 w y1 y2 m1 m2 (by omega) (by omega)
  have dm := Cal.dim_bd y m
  have nl := num_bd (vld_last hy)
  have nf := num_bd (vld_mk (y := y) (m := m) (d := 1) ⟨y1, y2, m1, m2, by omega, by omega⟩)
  rw [last_num] at nl
  have hN := fun w => spec_l01Named (s.extract 0 3) w
  have hT := fun w => spec_l01Two (s.extract 5 s.size) w (by rw [ByteArray.size_extract]; unfold maxLen; omega)
  have kb := twoN_bd (s.extract 5 s.size)
  have vb := wdN_bd (s.extract 0 3)
  have h5 := (bB_byte hb).1
  have hc3 : ((s[3].toNat : Int) == 62) = true := by rw [byteAt_eq s 3 (by omega), (bB_byte hb).2.1]; rfl
  have g1 : ((s.extract 3 5).toList == [62, 61]) = true := by unfold bB at hb; simp only [Bool.and_eq_true] at hb; exact hb.2
  have hv2 : 0 ≤ wdN (s.extract 0 3) := by omega
  clear hv vb hb
  clear hy y1 y2 m1 m2
  generalize Cal.dim y m = dd at *
  generalize num y m 1 = q at *
  generalize wdN (s.extract 0 3) = v at *
  generalize twoN (s.extract 5 s.size) = k at *
  go_enter Tryz.func147, Tryz.ntmps147
  go_wp2_with fail
  refine (hM _).mono ?_
  rintro e w0 ⟨rfl, rfl⟩
  go_wp2_with fail
  refine (hF _).mono ?_
  rintro e w1 ⟨rfl, hb1⟩
  go_upto_region 3 with fail
  go_cut [29] from 22 to 29 (fun x wx => x = .bool false ∧ wx = w1)
  case first =>
    by_cases hz : s.size = 7
    · have hz' : ((s.size : Int) == 7) = true := by simp; omega
      have ha2 : ((s.extract 0 4).toList == [108, 97, 115, 116]) = false := by unfold aB at ha; rw [decide_eq_true hz] at ha; simpa using ha
      clear ha
      go_wp2
      go_meet
      exact ⟨by simp, rfl⟩
    · have hz' : ((s.size : Int) == 7) = false := by simp; omega
      go_wp2
      go_meet
      exact ⟨rfl, rfl⟩
  case rest =>
    obtain ⟨rfl, rfl⟩ := hcut
    go_wp2_with fail
    refine (hN _).mono ?_
    rintro e w2 ⟨rfl, hb2⟩
    have hB2 := hb1.trans (hb2.mono hb1.size)
    go_wp2_with fail
    refine (hT _).mono ?_
    rintro e w3 ⟨rfl, rfl⟩
    go_wp2
    go_ret
    exact ⟨rfl, hB2⟩
set_option maxHeartbeats 1000000 in
theorem on_ge_no2 (y m : Int) (s : ByteArray) (w : World) (hy : ymB y m = true) (hs : s.size ≤ 1048576) (ha : aB s = false) (hb : bB 62 s = true) (hv : wdN (s.extract 0 3) ≠ -1) (hk : 1 ≤ twoN (s.extract 5 s.size)) (hk2 : Cal.dim y m < twoN (s.extract 5 s.size)) :
    Calls Tryz.prog 147 #[.int .i64 y, .int .i64 m, .string s] w fun e w' => e = .returned (.int .i64 (-1000000)) ∧ Below w.heap.size w w' := by
  have ⟨y1, y2, m1, m2⟩ := ymB_t hy
  have hM := fun w => spec_l01Month y m w y1 y2
  have hF := fun w => spec_l01Days y m 1 w y1 y2 m1 m2 (by omega) (by omega)
  have dm := Cal.dim_bd y m
  have nl := num_bd (vld_last hy)
  have nf := num_bd (vld_mk (y := y) (m := m) (d := 1) ⟨y1, y2, m1, m2, by omega, by omega⟩)
  rw [last_num] at nl
  have hN := fun w => spec_l01Named (s.extract 0 3) w
  have hT := fun w => spec_l01Two (s.extract 5 s.size) w (by rw [ByteArray.size_extract]; unfold maxLen; omega)
  have kb := twoN_bd (s.extract 5 s.size)
  have vb := wdN_bd (s.extract 0 3)
  have h5 := (bB_byte hb).1
  have hc3 : ((s[3].toNat : Int) == 62) = true := by rw [byteAt_eq s 3 (by omega), (bB_byte hb).2.1]; rfl
  have g1 : ((s.extract 3 5).toList == [62, 61]) = true := by unfold bB at hb; simp only [Bool.and_eq_true] at hb; exact hb.2
  have hv2 : 0 ≤ wdN (s.extract 0 3) := by omega
  clear hv vb hb
  clear hy y1 y2 m1 m2
  generalize Cal.dim y m = dd at *
  generalize num y m 1 = q at *
  generalize wdN (s.extract 0 3) = v at *
  generalize twoN (s.extract 5 s.size) = k at *
  go_enter Tryz.func147, Tryz.ntmps147
  go_wp2_with fail
  refine (hM _).mono ?_
  rintro e w0 ⟨rfl, rfl⟩
  go_wp2_with fail
  refine (hF _).mono ?_
  rintro e w1 ⟨rfl, hb1⟩
  go_upto_region 3 with fail
  go_cut [29] from 22 to 29 (fun x wx => x = .bool false ∧ wx = w1)
  case first =>
    by_cases hz : s.size = 7
    · have hz' : ((s.size : Int) == 7) = true := by simp; omega
      have ha2 : ((s.extract 0 4).toList == [108, 97, 115, 116]) = false := by unfold aB at ha; rw [decide_eq_true hz] at ha; simpa using ha
      clear ha
      go_wp2
      go_meet
      exact ⟨by simp, rfl⟩
    · have hz' : ((s.size : Int) == 7) = false := by simp; omega
      go_wp2
      go_meet
      exact ⟨rfl, rfl⟩
  case rest =>
    obtain ⟨rfl, rfl⟩ := hcut
    go_wp2_with fail
    refine (hN _).mono ?_
    rintro e w2 ⟨rfl, hb2⟩
    have hB2 := hb1.trans (hb2.mono hb1.size)
    go_wp2_with fail
    refine (hT _).mono ?_
    rintro e w3 ⟨rfl, rfl⟩
    go_wp2
    go_ret
    exact ⟨rfl, hB2⟩
set_option maxHeartbeats 1000000 in
theorem on_ge_yes (y m : Int) (s : ByteArray) (w : World) (hy : ymB y m = true) (hs : s.size ≤ 1048576) (ha : aB s = false) (hb : bB 62 s = true) (hv : wdN (s.extract 0 3) ≠ -1) (hk : 1 ≤ twoN (s.extract 5 s.size)) (hk2 : twoN (s.extract 5 s.size) ≤ Cal.dim y m) :
    Calls Tryz.prog 147 #[.int .i64 y, .int .i64 m, .string s] w fun e w' => e = .returned (.int .i64 (num y m 1 + twoN (s.extract 5 s.size) - 1 + (wdN (s.extract 0 3) - (num y m 1 + twoN (s.extract 5 s.size) - 1 + 719163) % 7 + 7) % 7)) ∧ Below w.heap.size w w' := by
  have ⟨y1, y2, m1, m2⟩ := ymB_t hy
  have hM := fun w => spec_l01Month y m w y1 y2
  have hF := fun w => spec_l01Days y m 1 w y1 y2 m1 m2 (by omega) (by omega)
  have dm := Cal.dim_bd y m
  have nl := num_bd (vld_last hy)
  have nf := num_bd (vld_mk (y := y) (m := m) (d := 1) ⟨y1, y2, m1, m2, by omega, by omega⟩)
  rw [last_num] at nl
  have hN := fun w => spec_l01Named (s.extract 0 3) w
  have hT := fun w => spec_l01Two (s.extract 5 s.size) w (by rw [ByteArray.size_extract]; unfold maxLen; omega)
  have kb := twoN_bd (s.extract 5 s.size)
  have vb := wdN_bd (s.extract 0 3)
  have h5 := (bB_byte hb).1
  have hc3 : ((s[3].toNat : Int) == 62) = true := by rw [byteAt_eq s 3 (by omega), (bB_byte hb).2.1]; rfl
  have g1 : ((s.extract 3 5).toList == [62, 61]) = true := by unfold bB at hb; simp only [Bool.and_eq_true] at hb; exact hb.2
  have hv2 : 0 ≤ wdN (s.extract 0 3) ∧ wdN (s.extract 0 3) < 7 := by omega
  have hW := fun w => spec_l01Weekday (num y m 1 + twoN (s.extract 5 s.size) - 1) w (by omega) (by omega)
  clear hv vb hb
  clear hy y1 y2 m1 m2
  generalize Cal.dim y m = dd at *
  generalize num y m 1 = q at *
  generalize wdN (s.extract 0 3) = v at *
  generalize twoN (s.extract 5 s.size) = k at *
  have hr : 0 ≤ (q + k - 1 + 719163) % 7 ∧ (q + k - 1 + 719163) % 7 < 7 := by omega
  generalize (q + k - 1 + 719163) % 7 = u at *
  go_enter Tryz.func147, Tryz.ntmps147
  go_wp2_with fail
  refine (hM _).mono ?_
  rintro e w0 ⟨rfl, rfl⟩
  go_wp2_with fail
  refine (hF _).mono ?_
  rintro e w1 ⟨rfl, hb1⟩
  go_upto_region 3 with fail
  go_cut [29] from 22 to 29 (fun x wx => x = .bool false ∧ wx = w1)
  case first =>
    by_cases hz : s.size = 7
    · have hz' : ((s.size : Int) == 7) = true := by simp; omega
      have ha2 : ((s.extract 0 4).toList == [108, 97, 115, 116]) = false := by unfold aB at ha; rw [decide_eq_true hz] at ha; simpa using ha
      clear ha
      go_wp2
      go_meet
      exact ⟨by simp, rfl⟩
    · have hz' : ((s.size : Int) == 7) = false := by simp; omega
      go_wp2
      go_meet
      exact ⟨rfl, rfl⟩
  case rest =>
    obtain ⟨rfl, rfl⟩ := hcut
    go_wp2_with fail
    refine (hN _).mono ?_
    rintro e w2 ⟨rfl, hb2⟩
    have hB2 := hb1.trans (hb2.mono hb1.size)
    go_wp2_with fail
    refine (hT _).mono ?_
    rintro e w3 ⟨rfl, rfl⟩
    go_wp2_with fail
    refine (hW _).mono ?_
    rintro e w4 ⟨rfl, rfl⟩
    go_wp2
    go_ret
    exact ⟨ret_int (by omega), hB2⟩
set_option maxHeartbeats 1000000 in
theorem on_le_no0 (y m : Int) (s : ByteArray) (w : World) (hy : ymB y m = true) (hs : s.size ≤ 1048576) (ha : aB s = false) (hb : bB 60 s = true) (hv : wdN (s.extract 0 3) = -1) :
    Calls Tryz.prog 147 #[.int .i64 y, .int .i64 m, .string s] w fun e w' => e = .returned (.int .i64 (-1000000)) ∧ Below w.heap.size w w' := by
  have ⟨y1, y2, m1, m2⟩ := ymB_t hy
  have hM := fun w => spec_l01Month y m w y1 y2
  have hF := fun w => spec_l01Days y m 1 w y1 y2 m1 m2 (by omega) (by omega)
  have dm := Cal.dim_bd y m
  have nl := num_bd (vld_last hy)
  have nf := num_bd (vld_mk (y := y) (m := m) (d := 1) ⟨y1, y2, m1, m2, by omega, by omega⟩)
  rw [last_num] at nl
  have hN := fun w => spec_l01Named (s.extract 0 3) w
  have hT := fun w => spec_l01Two (s.extract 5 s.size) w (by rw [ByteArray.size_extract]; unfold maxLen; omega)
  have kb := twoN_bd (s.extract 5 s.size)
  have vb := wdN_bd (s.extract 0 3)
  have h5 := (bB_byte hb).1
  have hc3 : ((s[3].toNat : Int) == 62) = false := by rw [byteAt_eq s 3 (by omega), (bB_byte hb).2.1]; rfl
  have g2 : ((s.extract 3 5).toList == [60, 61]) = true := by unfold bB at hb; simp only [Bool.and_eq_true] at hb; exact hb.2
  have g1 : ((s.extract 3 5).toList == [62, 61]) = false := by
    rw [beq_iff_eq] at g2
    rw [g2]; rfl
  rw [hv] at hN vb
  clear hv vb hb
  clear hy y1 y2 m1 m2
  generalize Cal.dim y m = dd at *
  generalize num y m 1 = q at *
  generalize twoN (s.extract 5 s.size) = k at *
  go_enter Tryz.func147, Tryz.ntmps147
  go_wp2_with fail
  refine (hM _).mono ?_
  rintro e w0 ⟨rfl, rfl⟩
  go_wp2_with fail
  refine (hF _).mono ?_
  rintro e w1 ⟨rfl, hb1⟩
  go_upto_region 3 with fail
  go_cut [29] from 22 to 29 (fun x wx => x = .bool false ∧ wx = w1)
  case first =>
    by_cases hz : s.size = 7
    · have hz' : ((s.size : Int) == 7) = true := by simp; omega
      have ha2 : ((s.extract 0 4).toList == [108, 97, 115, 116]) = false := by unfold aB at ha; rw [decide_eq_true hz] at ha; simpa using ha
      clear ha
      go_wp2
      go_meet
      exact ⟨by simp, rfl⟩
    · have hz' : ((s.size : Int) == 7) = false := by simp; omega
      go_wp2
      go_meet
      exact ⟨rfl, rfl⟩
  case rest =>
    obtain ⟨rfl, rfl⟩ := hcut
    go_wp2_with fail
    refine (hN _).mono ?_
    rintro e w2 ⟨rfl, hb2⟩
    have hB2 := hb1.trans (hb2.mono hb1.size)
    go_wp2_with fail
    refine (hT _).mono ?_
    rintro e w3 ⟨rfl, rfl⟩
    go_wp2
    go_ret
    exact ⟨rfl, hB2⟩
set_option maxHeartbeats 1000000 in
theorem on_le_no1 (y m : Int) (s : ByteArray) (w : World) (hy : ymB y m = true) (hs : s.size ≤ 1048576) (ha : aB s = false) (hb : bB 60 s = true) (hv : wdN (s.extract 0 3) ≠ -1) (hk : twoN (s.extract 5 s.size) < 1) :
    Calls Tryz.prog 147 #[.int .i64 y, .int .i64 m, .string s] w fun e w' => e = .returned (.int .i64 (-1000000)) ∧ Below w.heap.size w w' := by
  have ⟨y1, y2, m1, m2⟩ := ymB_t hy
  have hM := fun w => spec_l01Month y m w y1 y2
  have hF := fun w => spec_l01Days y m 1 w y1 y2 m1 m2 (by omega) (by omega)
  have dm := Cal.dim_bd y m
  have nl := num_bd (vld_last hy)
  have nf := num_bd (vld_mk (y := y) (m := m) (d := 1) ⟨y1, y2, m1, m2, by omega, by omega⟩)
  rw [last_num] at nl
  have hN := fun w => spec_l01Named (s.extract 0 3) w
  have hT := fun w => spec_l01Two (s.extract 5 s.size) w (by rw [ByteArray.size_extract]; unfold maxLen; omega)
  have kb := twoN_bd (s.extract 5 s.size)
  have vb := wdN_bd (s.extract 0 3)
  have h5 := (bB_byte hb).1
  have hc3 : ((s[3].toNat : Int) == 62) = false := by rw [byteAt_eq s 3 (by omega), (bB_byte hb).2.1]; rfl
  have g2 : ((s.extract 3 5).toList == [60, 61]) = true := by unfold bB at hb; simp only [Bool.and_eq_true] at hb; exact hb.2
  have g1 : ((s.extract 3 5).toList == [62, 61]) = false := by
    rw [beq_iff_eq] at g2
    rw [g2]; rfl
  have hv2 : 0 ≤ wdN (s.extract 0 3) := by omega
  clear hv vb hb
  clear hy y1 y2 m1 m2
  generalize Cal.dim y m = dd at *
  generalize num y m 1 = q at *
  generalize wdN (s.extract 0 3) = v at *
  generalize twoN (s.extract 5 s.size) = k at *
  go_enter Tryz.func147, Tryz.ntmps147
  go_wp2_with fail
  refine (hM _).mono ?_
  rintro e w0 ⟨rfl, rfl⟩
  go_wp2_with fail
  refine (hF _).mono ?_
  rintro e w1 ⟨rfl, hb1⟩
  go_upto_region 3 with fail
  go_cut [29] from 22 to 29 (fun x wx => x = .bool false ∧ wx = w1)
  case first =>
    by_cases hz : s.size = 7
    · have hz' : ((s.size : Int) == 7) = true := by simp; omega
      have ha2 : ((s.extract 0 4).toList == [108, 97, 115, 116]) = false := by unfold aB at ha; rw [decide_eq_true hz] at ha; simpa using ha
      clear ha
      go_wp2
      go_meet
      exact ⟨by simp, rfl⟩
    · have hz' : ((s.size : Int) == 7) = false := by simp; omega
      go_wp2
      go_meet
      exact ⟨rfl, rfl⟩
  case rest =>
    obtain ⟨rfl, rfl⟩ := hcut
    go_wp2_with fail
    refine (hN _).mono ?_
    rintro e w2 ⟨rfl, hb2⟩
    have hB2 := hb1.trans (hb2.mono hb1.size)
    go_wp2_with fail
    refine (hT _).mono ?_
    rintro e w3 ⟨rfl, rfl⟩
    go_wp2
    go_ret
    exact ⟨rfl, hB2⟩
set_option maxHeartbeats 1000000 in
theorem on_le_no2 (y m : Int) (s : ByteArray) (w : World) (hy : ymB y m = true) (hs : s.size ≤ 1048576) (ha : aB s = false) (hb : bB 60 s = true) (hv : wdN (s.extract 0 3) ≠ -1) (hk : 1 ≤ twoN (s.extract 5 s.size)) (hk2 : Cal.dim y m < twoN (s.extract 5 s.size)) :
    Calls Tryz.prog 147 #[.int .i64 y, .int .i64 m, .string s] w fun e w' => e = .returned (.int .i64 (-1000000)) ∧ Below w.heap.size w w' := by
  have ⟨y1, y2, m1, m2⟩ := ymB_t hy
  have hM := fun w => spec_l01Month y m w y1 y2
  have hF := fun w => spec_l01Days y m 1 w y1 y2 m1 m2 (by omega) (by omega)
  have dm := Cal.dim_bd y m
  have nl := num_bd (vld_last hy)
  have nf := num_bd (vld_mk (y := y) (m := m) (d := 1) ⟨y1, y2, m1, m2, by omega, by omega⟩)
  rw [last_num] at nl
  have hN := fun w => spec_l01Named (s.extract 0 3) w
  have hT := fun w => spec_l01Two (s.extract 5 s.size) w (by rw [ByteArray.size_extract]; unfold maxLen; omega)
  have kb := twoN_bd (s.extract 5 s.size)
  have vb := wdN_bd (s.extract 0 3)
  have h5 := (bB_byte hb).1
  have hc3 : ((s[3].toNat : Int) == 62) = false := by rw [byteAt_eq s 3 (by omega), (bB_byte hb).2.1]; rfl
  have g2 : ((s.extract 3 5).toList == [60, 61]) = true := by unfold bB at hb; simp only [Bool.and_eq_true] at hb; exact hb.2
  have g1 : ((s.extract 3 5).toList == [62, 61]) = false := by
    rw [beq_iff_eq] at g2
    rw [g2]; rfl
  have hv2 : 0 ≤ wdN (s.extract 0 3) := by omega
  clear hv vb hb
  clear hy y1 y2 m1 m2
  generalize Cal.dim y m = dd at *
  generalize num y m 1 = q at *
  generalize wdN (s.extract 0 3) = v at *
  generalize twoN (s.extract 5 s.size) = k at *
  go_enter Tryz.func147, Tryz.ntmps147
  go_wp2_with fail
  refine (hM _).mono ?_
  rintro e w0 ⟨rfl, rfl⟩
  go_wp2_with fail
  refine (hF _).mono ?_
  rintro e w1 ⟨rfl, hb1⟩
  go_upto_region 3 with fail
  go_cut [29] from 22 to 29 (fun x wx => x = .bool false ∧ wx = w1)
  case first =>
    by_cases hz : s.size = 7
    · have hz' : ((s.size : Int) == 7) = true := by simp; omega
      have ha2 : ((s.extract 0 4).toList == [108, 97, 115, 116]) = false := by unfold aB at ha; rw [decide_eq_true hz] at ha; simpa using ha
      clear ha
      go_wp2
      go_meet
      exact ⟨by simp, rfl⟩
    · have hz' : ((s.size : Int) == 7) = false := by simp; omega
      go_wp2
      go_meet
      exact ⟨rfl, rfl⟩
  case rest =>
    obtain ⟨rfl, rfl⟩ := hcut
    go_wp2_with fail
    refine (hN _).mono ?_
    rintro e w2 ⟨rfl, hb2⟩
    have hB2 := hb1.trans (hb2.mono hb1.size)
    go_wp2_with fail
    refine (hT _).mono ?_
    rintro e w3 ⟨rfl, rfl⟩
    go_wp2
    go_ret
    exact ⟨rfl, hB2⟩
set_option maxHeartbeats 1000000 in
theorem on_le_yes (y m : Int) (s : ByteArray) (w : World) (hy : ymB y m = true) (hs : s.size ≤ 1048576) (ha : aB s = false) (hb : bB 60 s = true) (hv : wdN (s.extract 0 3) ≠ -1) (hk : 1 ≤ twoN (s.extract 5 s.size)) (hk2 : twoN (s.extract 5 s.size) ≤ Cal.dim y m) :
    Calls Tryz.prog 147 #[.int .i64 y, .int .i64 m, .string s] w fun e w' => e = .returned (.int .i64 (num y m 1 + twoN (s.extract 5 s.size) - 1 - ((num y m 1 + twoN (s.extract 5 s.size) - 1 + 719163) % 7 - wdN (s.extract 0 3) + 7) % 7)) ∧ Below w.heap.size w w' := by
  have ⟨y1, y2, m1, m2⟩ := ymB_t hy
  have hM := fun w => spec_l01Month y m w y1 y2
  have hF := fun w => spec_l01Days y m 1 w y1 y2 m1 m2 (by omega) (by omega)
  have dm := Cal.dim_bd y m
  have nl := num_bd (vld_last hy)
  have nf := num_bd (vld_mk (y := y) (m := m) (d := 1) ⟨y1, y2, m1, m2, by omega, by omega⟩)
  rw [last_num] at nl
  have hN := fun w => spec_l01Named (s.extract 0 3) w
  have hT := fun w => spec_l01Two (s.extract 5 s.size) w (by rw [ByteArray.size_extract]; unfold maxLen; omega)
  have kb := twoN_bd (s.extract 5 s.size)
  have vb := wdN_bd (s.extract 0 3)
  have h5 := (bB_byte hb).1
  have hc3 : ((s[3].toNat : Int) == 62) = false := by rw [byteAt_eq s 3 (by omega), (bB_byte hb).2.1]; rfl
  have g2 : ((s.extract 3 5).toList == [60, 61]) = true := by unfold bB at hb; simp only [Bool.and_eq_true] at hb; exact hb.2
  have g1 : ((s.extract 3 5).toList == [62, 61]) = false := by
    rw [beq_iff_eq] at g2
    rw [g2]; rfl
  have hv2 : 0 ≤ wdN (s.extract 0 3) ∧ wdN (s.extract 0 3) < 7 := by omega
  have hW := fun w => spec_l01Weekday (num y m 1 + twoN (s.extract 5 s.size) - 1) w (by omega) (by omega)
  clear hv vb hb
  clear hy y1 y2 m1 m2
  generalize Cal.dim y m = dd at *
  generalize num y m 1 = q at *
  generalize wdN (s.extract 0 3) = v at *
  generalize twoN (s.extract 5 s.size) = k at *
  have hr : 0 ≤ (q + k - 1 + 719163) % 7 ∧ (q + k - 1 + 719163) % 7 < 7 := by omega
  generalize (q + k - 1 + 719163) % 7 = u at *
  go_enter Tryz.func147, Tryz.ntmps147
  go_wp2_with fail
  refine (hM _).mono ?_
  rintro e w0 ⟨rfl, rfl⟩
  go_wp2_with fail
  refine (hF _).mono ?_
  rintro e w1 ⟨rfl, hb1⟩
  go_upto_region 3 with fail
  go_cut [29] from 22 to 29 (fun x wx => x = .bool false ∧ wx = w1)
  case first =>
    by_cases hz : s.size = 7
    · have hz' : ((s.size : Int) == 7) = true := by simp; omega
      have ha2 : ((s.extract 0 4).toList == [108, 97, 115, 116]) = false := by unfold aB at ha; rw [decide_eq_true hz] at ha; simpa using ha
      clear ha
      go_wp2
      go_meet
      exact ⟨by simp, rfl⟩
    · have hz' : ((s.size : Int) == 7) = false := by simp; omega
      go_wp2
      go_meet
      exact ⟨rfl, rfl⟩
  case rest =>
    obtain ⟨rfl, rfl⟩ := hcut
    go_wp2_with fail
    refine (hN _).mono ?_
    rintro e w2 ⟨rfl, hb2⟩
    have hB2 := hb1.trans (hb2.mono hb1.size)
    go_wp2_with fail
    refine (hT _).mono ?_
    rintro e w3 ⟨rfl, rfl⟩
    go_wp2_with fail
    refine (hW _).mono ?_
    rintro e w4 ⟨rfl, rfl⟩
    go_wp2
    go_ret
    exact ⟨ret_int (by omega), hB2⟩
set_option maxHeartbeats 1000000 in
theorem on_num_0 (y m : Int) (s : ByteArray) (w : World) (hy : ymB y m = true) (hs : s.size ≤ 1048576) (ha : aB s = false) (h5 : s.size ≤ 5) (hk : twoN s < 1) :
    Calls Tryz.prog 147 #[.int .i64 y, .int .i64 m, .string s] w fun e w' => e = .returned (.int .i64 (-1000000)) ∧ Below w.heap.size w w' := by
  have ⟨y1, y2, m1, m2⟩ := ymB_t hy
  have hM := fun w => spec_l01Month y m w y1 y2
  have hF := fun w => spec_l01Days y m 1 w y1 y2 m1 m2 (by omega) (by omega)
  have dm := Cal.dim_bd y m
  have nl := num_bd (vld_last hy)
  have nf := num_bd (vld_mk (y := y) (m := m) (d := 1) ⟨y1, y2, m1, m2, by omega, by omega⟩)
  rw [last_num] at nl
  have hT := fun w => spec_l01Two s w (by unfold maxLen; omega)
  have kb := twoN_bd s
  clear hy y1 y2 m1 m2
  generalize Cal.dim y m = dd at *
  generalize num y m 1 = q at *
  generalize twoN s = k at *
  go_enter Tryz.func147, Tryz.ntmps147
  go_wp2_with fail
  refine (hM _).mono ?_
  rintro e w0 ⟨rfl, rfl⟩
  go_wp2_with fail
  refine (hF _).mono ?_
  rintro e w1 ⟨rfl, hb1⟩
  go_upto_region 3 with fail
  go_cut [29] from 22 to 29 (fun x wx => x = .bool false ∧ wx = w1)
  case first =>
    by_cases hz : s.size = 7
    · have hz' : ((s.size : Int) == 7) = true := by simp; omega
      have ha2 : ((s.extract 0 4).toList == [108, 97, 115, 116]) = false := by unfold aB at ha; rw [decide_eq_true hz] at ha; simpa using ha
      clear ha
      go_wp2
      go_meet
      exact ⟨by simp, rfl⟩
    · have hz' : ((s.size : Int) == 7) = false := by simp; omega
      go_wp2
      go_meet
      exact ⟨rfl, rfl⟩
  case rest =>
    obtain ⟨rfl, rfl⟩ := hcut
    go_wp2_with fail
    refine (hT _).mono ?_
    rintro e w3 ⟨rfl, rfl⟩
    go_wp2
    go_ret
    exact ⟨rfl, hb1⟩
set_option maxHeartbeats 1000000 in
theorem on_num_1 (y m : Int) (s : ByteArray) (w : World) (hy : ymB y m = true) (hs : s.size ≤ 1048576) (ha : aB s = false) (h5 : s.size ≤ 5) (hk : 1 ≤ twoN s) (hk2 : Cal.dim y m < twoN s) :
    Calls Tryz.prog 147 #[.int .i64 y, .int .i64 m, .string s] w fun e w' => e = .returned (.int .i64 (-1000000)) ∧ Below w.heap.size w w' := by
  have ⟨y1, y2, m1, m2⟩ := ymB_t hy
  have hM := fun w => spec_l01Month y m w y1 y2
  have hF := fun w => spec_l01Days y m 1 w y1 y2 m1 m2 (by omega) (by omega)
  have dm := Cal.dim_bd y m
  have nl := num_bd (vld_last hy)
  have nf := num_bd (vld_mk (y := y) (m := m) (d := 1) ⟨y1, y2, m1, m2, by omega, by omega⟩)
  rw [last_num] at nl
  have hT := fun w => spec_l01Two s w (by unfold maxLen; omega)
  have kb := twoN_bd s
  clear hy y1 y2 m1 m2
  generalize Cal.dim y m = dd at *
  generalize num y m 1 = q at *
  generalize twoN s = k at *
  go_enter Tryz.func147, Tryz.ntmps147
  go_wp2_with fail
  refine (hM _).mono ?_
  rintro e w0 ⟨rfl, rfl⟩
  go_wp2_with fail
  refine (hF _).mono ?_
  rintro e w1 ⟨rfl, hb1⟩
  go_upto_region 3 with fail
  go_cut [29] from 22 to 29 (fun x wx => x = .bool false ∧ wx = w1)
  case first =>
    by_cases hz : s.size = 7
    · have hz' : ((s.size : Int) == 7) = true := by simp; omega
      have ha2 : ((s.extract 0 4).toList == [108, 97, 115, 116]) = false := by unfold aB at ha; rw [decide_eq_true hz] at ha; simpa using ha
      clear ha
      go_wp2
      go_meet
      exact ⟨by simp, rfl⟩
    · have hz' : ((s.size : Int) == 7) = false := by simp; omega
      go_wp2
      go_meet
      exact ⟨rfl, rfl⟩
  case rest =>
    obtain ⟨rfl, rfl⟩ := hcut
    go_wp2_with fail
    refine (hT _).mono ?_
    rintro e w3 ⟨rfl, rfl⟩
    go_wp2
    go_ret
    exact ⟨rfl, hb1⟩
set_option maxHeartbeats 1000000 in
theorem on_num_2 (y m : Int) (s : ByteArray) (w : World) (hy : ymB y m = true) (hs : s.size ≤ 1048576) (ha : aB s = false) (h5 : s.size ≤ 5) (hk : 1 ≤ twoN s) (hk2 : twoN s ≤ Cal.dim y m) :
    Calls Tryz.prog 147 #[.int .i64 y, .int .i64 m, .string s] w fun e w' => e = .returned (.int .i64 (num y m 1 + twoN s - 1)) ∧ Below w.heap.size w w' := by
  have ⟨y1, y2, m1, m2⟩ := ymB_t hy
  have hM := fun w => spec_l01Month y m w y1 y2
  have hF := fun w => spec_l01Days y m 1 w y1 y2 m1 m2 (by omega) (by omega)
  have dm := Cal.dim_bd y m
  have nl := num_bd (vld_last hy)
  have nf := num_bd (vld_mk (y := y) (m := m) (d := 1) ⟨y1, y2, m1, m2, by omega, by omega⟩)
  rw [last_num] at nl
  have hT := fun w => spec_l01Two s w (by unfold maxLen; omega)
  have kb := twoN_bd s
  clear hy y1 y2 m1 m2
  generalize Cal.dim y m = dd at *
  generalize num y m 1 = q at *
  generalize twoN s = k at *
  go_enter Tryz.func147, Tryz.ntmps147
  go_wp2_with fail
  refine (hM _).mono ?_
  rintro e w0 ⟨rfl, rfl⟩
  go_wp2_with fail
  refine (hF _).mono ?_
  rintro e w1 ⟨rfl, hb1⟩
  go_upto_region 3 with fail
  go_cut [29] from 22 to 29 (fun x wx => x = .bool false ∧ wx = w1)
  case first =>
    by_cases hz : s.size = 7
    · have hz' : ((s.size : Int) == 7) = true := by simp; omega
      have ha2 : ((s.extract 0 4).toList == [108, 97, 115, 116]) = false := by unfold aB at ha; rw [decide_eq_true hz] at ha; simpa using ha
      clear ha
      go_wp2
      go_meet
      exact ⟨by simp, rfl⟩
    · have hz' : ((s.size : Int) == 7) = false := by simp; omega
      go_wp2
      go_meet
      exact ⟨rfl, rfl⟩
  case rest =>
    obtain ⟨rfl, rfl⟩ := hcut
    go_wp2_with fail
    refine (hT _).mono ?_
    rintro e w3 ⟨rfl, rfl⟩
    go_wp2
    go_ret
    exact ⟨ret_int (by omega), hb1⟩
set_option maxHeartbeats 1000000 in
theorem on_num_l (y m : Int) (s : ByteArray) (w : World) (hy : ymB y m = true) (hs : s.size ≤ 1048576) (ha : aB s = false) (h5 : 5 < s.size) (hb1 : bB 62 s = false) (hb2 : bB 60 s = false) :
    Calls Tryz.prog 147 #[.int .i64 y, .int .i64 m, .string s] w fun e w' => e = .returned (.int .i64 (-1000000)) ∧ Below w.heap.size w w' := by
  have ⟨y1, y2, m1, m2⟩ := ymB_t hy
  have hM := fun w => spec_l01Month y m w y1 y2
  have hF := fun w => spec_l01Days y m 1 w y1 y2 m1 m2 (by omega) (by omega)
  have dm := Cal.dim_bd y m
  have nl := num_bd (vld_last hy)
  have nf := num_bd (vld_mk (y := y) (m := m) (d := 1) ⟨y1, y2, m1, m2, by omega, by omega⟩)
  rw [last_num] at nl
  have g1 := bB_no (c := 62) h5 hb1
  have g2 := bB_no (c := 60) h5 hb2
  clear hb1 hb2
  have hT := fun w => spec_l01Two s w (by unfold maxLen; omega)
  have kb := twoN_bd s
  rw [two_big (by omega)] at hT
  clear kb
  clear hy y1 y2 m1 m2
  generalize Cal.dim y m = dd at *
  generalize num y m 1 = q at *
  go_enter Tryz.func147, Tryz.ntmps147
  go_wp2_with fail
  refine (hM _).mono ?_
  rintro e w0 ⟨rfl, rfl⟩
  go_wp2_with fail
  refine (hF _).mono ?_
  rintro e w1 ⟨rfl, hb1⟩
  go_upto_region 3 with fail
  go_cut [29] from 22 to 29 (fun x wx => x = .bool false ∧ wx = w1)
  case first =>
    by_cases hz : s.size = 7
    · have hz' : ((s.size : Int) == 7) = true := by simp; omega
      have ha2 : ((s.extract 0 4).toList == [108, 97, 115, 116]) = false := by unfold aB at ha; rw [decide_eq_true hz] at ha; simpa using ha
      clear ha
      go_wp2
      go_meet
      exact ⟨by simp, rfl⟩
    · have hz' : ((s.size : Int) == 7) = false := by simp; omega
      go_wp2
      go_meet
      exact ⟨rfl, rfl⟩
  case rest =>
    obtain ⟨rfl, rfl⟩ := hcut
    go_wp2_with fail
    refine (hT _).mono ?_
    rintro e w3 ⟨rfl, rfl⟩
    go_wp2
    go_ret
    exact ⟨rfl, hb1⟩
/-- the model's l01On, whole. -/
theorem spec_l01On (y m : Int) (s : ByteArray) (w : World) (hy : ymB y m = true) (hs : s.size ≤ 1048576) :
    Calls Tryz.prog 147 #[.int .i64 y, .int .i64 m, .string s] w fun e w' => e = .returned (.int .i64 (moV y m s)) ∧ Below w.heap.size w w' := by
  have ⟨y1, y2, m1, m2⟩ := ymB_t hy
  have dm := Cal.dim_bd y m
  have nl := num_bd (vld_last hy)
  have nf := num_bd (vld_mk (y := y) (m := m) (d := 1) ⟨y1, y2, m1, m2, by omega, by omega⟩)
  rw [last_num] at nl
  unfold moV
  cases ha : aB s
  · rw [if_neg (by simp)]
    cases h1 : bB 62 s
    · rw [if_neg (by simp)]
      cases h2 : bB 60 s
      · rw [if_neg (by simp), nb_two hy]
        by_cases h5 : 5 < s.size
        · rw [two_big (by omega), if_neg (by omega)]
          exact on_num_l y m s w hy hs ha h5 h1 h2
        · by_cases hk : twoN s < 1
          · rw [if_neg (by omega)]
            exact on_num_0 y m s w hy hs ha (by omega) hk
          by_cases hk2 : Cal.dim y m < twoN s
          · rw [if_neg (by omega)]
            exact on_num_1 y m s w hy hs ha (by omega) (by omega) hk2
          · rw [if_pos (by omega)]
            exact on_num_2 y m s w hy hs ha (by omega) (by omega) (by omega)
      · rw [if_pos rfl]
        unfold uptoV
        rw [nb_two hy]
        by_cases hv : wdN (s.extract 0 3) = -1
        · rw [if_pos (.inl hv)]
          exact on_le_no0 y m s w hy hs ha h2 hv
        by_cases hk : twoN (s.extract 5 s.size) < 1
        · rw [if_pos (.inr (by rw [if_neg (by omega)]))]
          exact on_le_no1 y m s w hy hs ha h2 hv hk
        by_cases hk2 : Cal.dim y m < twoN (s.extract 5 s.size)
        · rw [if_pos (.inr (by rw [if_neg (by omega)]))]
          exact on_le_no2 y m s w hy hs ha h2 hv (by omega) hk2
        · have e : (if 1 ≤ twoN (s.extract 5 s.size) ∧ twoN (s.extract 5 s.size) ≤ Cal.dim y m then num y m 1 + twoN (s.extract 5 s.size) - 1 else -1000000) = num y m 1 + twoN (s.extract 5 s.size) - 1 := if_pos (by omega)
          rw [e, if_neg (by omega)]
          exact on_le_yes y m s w hy hs ha h2 hv (by omega) (by omega)
    · rw [if_pos rfl]
      unfold fromV
      rw [nb_two hy]
      by_cases hv : wdN (s.extract 0 3) = -1
      · rw [if_pos (.inl hv)]
        exact on_ge_no0 y m s w hy hs ha h1 hv
      by_cases hk : twoN (s.extract 5 s.size) < 1
      · rw [if_pos (.inr (by rw [if_neg (by omega)]))]
        exact on_ge_no1 y m s w hy hs ha h1 hv hk
      by_cases hk2 : Cal.dim y m < twoN (s.extract 5 s.size)
      · rw [if_pos (.inr (by rw [if_neg (by omega)]))]
        exact on_ge_no2 y m s w hy hs ha h1 hv (by omega) hk2
      · have e : (if 1 ≤ twoN (s.extract 5 s.size) ∧ twoN (s.extract 5 s.size) ≤ Cal.dim y m then num y m 1 + twoN (s.extract 5 s.size) - 1 else -1000000) = num y m 1 + twoN (s.extract 5 s.size) - 1 := if_pos (by omega)
        rw [e, if_neg (by omega)]
        exact on_ge_yes y m s w hy hs ha h1 hv (by omega) (by omega)
  · by_cases hw : wdN (s.extract 4 7) = -1
    · rw [if_neg (by simp [hw]), aB_bB ha 62 (by decide), aB_bB ha 60 (by decide)]
      simp only [Bool.false_eq_true, if_false]
      rw [nb_two hy s, two_big (s := s) (by have := (aB_byte ha).1; omega), if_neg (by omega)]
      exact on_lastno y m s w hy ha hw
    · rw [if_pos ⟨rfl, hw⟩]
      exact on_last y m s w hy ha hw
end Go.Proofs.YtbbhpfobcelbfaaGreatDoor
namespace Go.Proofs.YtbbhpfobcelbfaaGreatDoor
open Go.RowKit

/-- the names' bytes: letters. -/
theorem nm_bytes {k : Nat} (h : k < 7) : (wdNames.extract (k * 3) ((k + 1) * 3)).size = 3 ∧ ∀ i, i < 3 → 65 ≤ byteAt (wdNames.extract (k * 3) ((k + 1) * 3)) i := by
  rcases (show k = 0 ∨ k = 1 ∨ k = 2 ∨ k = 3 ∨ k = 4 ∨ k = 5 ∨ k = 6 by omega) with rfl | rfl | rfl | rfl | rfl | rfl | rfl <;>
  · refine ⟨rfl, fun i hi => ?_⟩
    rcases (show i = 0 ∨ i = 1 ∨ i = 2 by omega) with rfl | rfl | rfl <;> decide
theorem toList_inj {s t : ByteArray} (h : s.toList = t.toList) : s = t := by
  rw [ByteArray.toList_eq, ByteArray.toList_eq] at h
  apply ByteArray.ext
  exact Array.ext' h
theorem spG_at {s t : ByteArray} {k n : Nat} (h : spG s t k n ≠ -1) : ∃ j, k ≤ j ∧ j < k + n ∧ spB s t j = true := by
  induction n generalizing k with
  | zero => exact absurd rfl h
  | succ n ih =>
    cases hb : spB s t k
    · rw [spG_miss hb (by omega)] at h
      obtain ⟨j, j1, j2, j3⟩ := ih h
      exact ⟨j, by omega, by omega, j3⟩
    · exact ⟨k, by omega, by omega, hb⟩
/-- a weekday's name: three letters. -/
theorem wd_bytes {t : ByteArray} (h : wdN t ≠ -1) : t.size = 3 ∧ ∀ i, i < 3 → 65 ≤ byteAt t i := by
  obtain ⟨j, _, j2, j3⟩ := spG_at h
  unfold spB at j3
  have e := toList_inj (beq_iff_eq.mp j3)
  have := nm_bytes (k := j) (by omega)
  rw [e] at this
  exact this
theorem wd_size {t : ByteArray} (h : t.size ≠ 3) : wdN t = -1 := Classical.byContradiction fun hn => h (wd_bytes hn).1
/-- where a sign of two bytes stands first. -/
theorem occ_at {s : ByteArray} {a b : UInt8} {i : Nat} : Lib.occAt s.data.toList [a, b] i = true ↔ (i + 2 ≤ s.size ∧ byteAt s i = (a.toNat : Int) ∧ byteAt s (i + 1) = (b.toNat : Int)) := by
  unfold Lib.occAt
  have hz : s.data.toList.length = s.size := by rw [Array.length_toList]; rfl
  rw [List.isPrefixOf_iff_prefix]
  constructor
  · rintro ⟨r, hr⟩
    have hl := congrArg List.length hr
    simp [hz] at hl
    have g0 : s.data.toList[i]? = some a := by
      have := congrArg (fun l => l[0]?) hr; simpa using this.symm
    have g1 : s.data.toList[i + 1]? = some b := by
      have := congrArg (fun l => l[1]?) hr; simpa using this.symm
    have es : s = S s.data.toList := by apply ByteArray.ext; simp
    refine ⟨by omega, ?_, ?_⟩
    · rw [es]; exact byteAt_S g0
    · rw [es]; exact byteAt_S g1
  · rintro ⟨h1, h2, h3⟩
    have e0 : s.data.toList[i]'(by omega) = a := by
      apply UInt8.toNat_inj.mp
      have := byteAt_eq s i (by omega)
      rw [h2] at this
      have : s[i].toNat = a.toNat := by omega
      exact this
    have e1 : s.data.toList[i + 1]'(by omega) = b := by
      apply UInt8.toNat_inj.mp
      have := byteAt_eq s (i + 1) (by omega)
      rw [h3] at this
      have : s[i + 1].toNat = b.toNat := by omega
      exact this
    refine ⟨s.data.toList.drop (i + 2), ?_⟩
    rw [List.drop_eq_getElem_cons (show i < s.data.toList.length by omega), List.drop_eq_getElem_cons (show i + 1 < s.data.toList.length by omega), e0, e1]
    rfl
/-- the cut, where the sign stands at 3 behind three letters. -/
theorem cut_three {s : ByteArray} {a b : UInt8} (ha : a.toNat < 65) (_hb : b.toNat < 65) (h5 : 5 ≤ s.size) (h3 : byteAt s 3 = (a.toNat : Int)) (h4 : byteAt s 4 = (b.toNat : Int)) (hl : ∀ i, i < 3 → 65 ≤ byteAt s i) :
    cutA s a b = s.extract 0 3 ∧ cutZ s a b = s.extract 5 s.size ∧ cutB s a b = true := by
  have hz : s.data.toList.length = s.size := by rw [Array.length_toList]; rfl
  have hi : Lib.index s.data.toList [a, b] = (3 : Nat) := by
    refine Lib.index_first (by omega) (occ_at.mpr ⟨by omega, h3, h4⟩) fun j hj => ?_
    cases ho : Lib.occAt s.data.toList [a, b] j
    · rfl
    · have := (occ_at.mp ho).2.1
      have := hl j hj
      omega
  have := Lib.cutB_hit s ⟨#[a, b]⟩ 3 hi
  exact this
theorem index_occ {l sub : List UInt8} {i : Nat} (h : Lib.index l sub = (i : Int)) : Lib.occAt l sub i = true := by
  induction l generalizing i with
  | nil =>
    unfold Lib.index at h
    split at h
    · rename_i he
      obtain rfl : i = 0 := by omega
      have : sub = [] := by simpa using he
      subst this; rfl
    · omega
  | cons c l ih =>
    unfold Lib.index at h
    split at h
    · rename_i he
      obtain rfl : i = 0 := by omega
      exact he
    · split at h
      · omega
      · have := Lib.index_ge l sub
        obtain ⟨j, rfl⟩ : ∃ j, i = j + 1 := ⟨i - 1, by rename_i h1 h2; simp at h2; omega⟩
        exact ih (by omega)
/-- a cut whose front is a weekday's name stands at 3. -/
theorem cut_back {s : ByteArray} {a b : UInt8} (hb : cutB s a b = true) (hw : wdN (cutA s a b) ≠ -1) :
    5 ≤ s.size ∧ byteAt s 3 = (a.toNat : Int) ∧ byteAt s 4 = (b.toNat : Int) ∧ cutA s a b = s.extract 0 3 ∧ cutZ s a b = s.extract 5 s.size := by
  rcases Lib.indexB_cases s ⟨#[a, b]⟩ with hn | ⟨i, hi, hle⟩
  · have := Lib.cutB_miss s ⟨#[a, b]⟩ hn
    unfold cutB at hb
    rw [this.2.2] at hb; cases hb
  · have hc := Lib.cutB_hit s ⟨#[a, b]⟩ i hi
    have eA : cutA s a b = s.extract 0 i := hc.1
    have eZ : cutZ s a b = s.extract (i + 2) s.size := hc.2.1
    have hle' : i + 2 ≤ s.size := hle
    have h3 := (wd_bytes hw).1
    rw [eA, ByteArray.size_extract] at h3
    have e3 : i = 3 := by omega
    subst e3
    have ho := occ_at.mp (index_occ (l := s.data.toList) (sub := [a, b]) hi)
    exact ⟨by omega, ho.2.1, ho.2.2, eA, eZ⟩
theorem nb_size {y m : Int} {s : ByteArray} (h : 2 < s.size) : nbV y m s = -1000000 := by
  unfold nbV nbB; rw [if_neg (by simp; omega)]
end Go.Proofs.YtbbhpfobcelbfaaGreatDoor
namespace Go.Proofs.YtbbhpfobcelbfaaGreatDoor
open Go.RowKit

theorem ex_data (s : ByteArray) (a b : Nat) : (s.extract a b).toList = (s.data.toList.drop a).take (b - a) := by
  rw [ByteArray.toList_eq, ByteArray.data_extract]
  simp [List.take_drop]
theorem la_t {s : ByteArray} (h : laB s = true) : 4 ≤ s.size ∧ laR s = s.extract 4 s.size ∧ (s.extract 0 4).toList = [108, 97, 115, 116] := by
  have hz : s.data.toList.length = s.size := by rw [Array.length_toList]; rfl
  have h' := h
  unfold laB Lib.hasPrefix at h
  rw [List.isPrefixOf_iff_prefix] at h
  obtain ⟨r, hr⟩ := h
  have hl := congrArg List.length hr
  simp [hz] at hl
  refine ⟨by omega, ?_, ?_⟩
  · unfold laR Lib.trimPrefix
    unfold laB at h'
    rw [if_pos h']
    apply toList_inj
    rw [ex_data, ByteArray.toList_eq, List.take_of_length_le (by simp [hz])]
    simp
  · rw [ex_data, ← hr]; rfl
theorem la_of {s : ByteArray} (h : (s.extract 0 4).toList = [108, 97, 115, 116]) : laB s = true := by
  unfold laB Lib.hasPrefix
  rw [List.isPrefixOf_iff_prefix]
  rw [ex_data] at h
  refine ⟨s.data.toList.drop 4, ?_⟩
  rw [← h]
  simp
theorem bB_mk {s : ByteArray} {c : UInt8} (h5 : 5 < s.size) (h3 : byteAt s 3 = (c.toNat : Int)) (h4 : byteAt s 4 = 61) : bB c s = true := by
  have e : s.extract 3 5 = S [c, 61] := by
    have hz : (s.extract 3 5).size = 2 := by rw [ByteArray.size_extract]; omega
    apply bytes_ext (by rw [hz, S_size]; rfl)
    intro i hi
    rcases (show i = 0 ∨ i = 1 by omega) with rfl | rfl
    · rw [byteAt_ex (by omega) (by omega), byteAt_S (l := [c, 61]) (i := 0) (c := c) rfl]; exact h3
    · rw [byteAt_ex (by omega) (by omega), byteAt_S (l := [c, 61]) (i := 1) (c := 61) rfl]; exact h4
  unfold bB
  rw [e, decide_eq_true h5]
  simp [ByteArray.toList_eq]
theorem upto_no {v d : Int} (h : uptoV v d ≠ -1000000) : v ≠ -1 ∧ d ≠ -1000000 := by
  unfold uptoV at h
  by_cases hc : v = -1 ∨ d = -1000000
  · rw [if_pos hc] at h; exact absurd rfl h
  · omega
theorem from_no {v d : Int} (h : fromV v d ≠ -1000000) : v ≠ -1 ∧ d ≠ -1000000 := by
  unfold fromV at h
  by_cases hc : v = -1 ∨ d = -1000000
  · rw [if_pos hc] at h; exact absurd rfl h
  · omega
theorem nb_empty (y m : Int) {t : ByteArray} (h : t.size = 0) : nbV y m t = -1000000 := by
  unfold nbV nbB; rw [digs_no0 h]; simp
/-- a text of the form with >=, if it tells a day. -/
theorem first_form {y m : Int} {s : ByteArray} (h : firstV y m s ≠ -1000000) : bB 62 s = true := by
  unfold firstV at h
  cases hb : cutB s 62 61
  · rw [hb] at h; exact absurd rfl h
  · rw [hb, if_pos rfl] at h
    have ⟨h1, h2⟩ := from_no h
    obtain ⟨c1, c2, c3, c4, c5⟩ := cut_back hb h1
    refine bB_mk ?_ c2 c3
    rcases Nat.lt_or_ge 5 s.size with hl | hl
    · exact hl
    · exact absurd (nb_empty y m (by rw [c5, ByteArray.size_extract]; omega)) h2
theorem last_form {y m : Int} {s : ByteArray} (h : lastV y m s ≠ -1000000) : bB 60 s = true := by
  unfold lastV at h
  cases hb : cutB s 60 61
  · rw [hb] at h; exact absurd rfl h
  · rw [hb, if_pos rfl] at h
    have ⟨h1, h2⟩ := upto_no h
    obtain ⟨c1, c2, c3, c4, c5⟩ := cut_back hb h1
    refine bB_mk ?_ c2 c3
    rcases Nat.lt_or_ge 5 s.size with hl | hl
    · exact hl
    · exact absurd (nb_empty y m (by rw [c5, ByteArray.size_extract]; omega)) h2
theorem lom_form {y m : Int} {s : ByteArray} (h : lomV y m s ≠ -1000000) : aB s = true ∧ wdN (s.extract 4 7) ≠ -1 ∧ lomV y m s = uptoV (wdN (s.extract 4 7)) (num y m (Cal.dim y m)) := by
  unfold lomV at h ⊢
  cases hb : laB s
  · rw [hb] at h; exact absurd rfl h
  · rw [hb, if_pos rfl] at h
    have ⟨h1, h2⟩ := upto_no h
    obtain ⟨l1, l2, l3⟩ := la_t hb
    have hz := (wd_bytes h1).1
    rw [l2, ByteArray.size_extract] at hz
    have h7 : s.size = 7 := by omega
    rw [l2, h7] at h1
    refine ⟨by unfold aB; rw [l3, decide_eq_true h7]; rfl, h1, ?_⟩
    rw [if_pos rfl, l2, h7]
theorem bB_both {s : ByteArray} (h1 : bB 62 s = true) (h2 : bB 60 s = true) : False := by
  have a := (bB_byte h1).2.1
  have b := (bB_byte h2).2.1
  rw [a] at b
  exact absurd b (by decide)
/-- the cut of a text of that form. -/
theorem form_cut {s : ByteArray} {c : UInt8} (hc : c.toNat < 65) (h : bB c s = true) : (wdN (s.extract 0 3) ≠ -1 → cutB s c 61 = true ∧ cutA s c 61 = s.extract 0 3 ∧ cutZ s c 61 = s.extract 5 s.size) ∧ (wdN (s.extract 0 3) = -1 → cutB s c 61 = true → wdN (cutA s c 61) = -1) := by
  obtain ⟨h5, h3, h4⟩ := bB_byte h
  constructor
  · intro hw
    have hl := (wd_bytes hw).2
    have := cut_three (s := s) (a := c) (b := 61) hc (by decide) (by omega) h3 h4 (fun i hi => by have := hl i hi; rw [byteAt_ex (by omega) (by omega)] at this; simpa using this)
    exact ⟨this.2.2, this.1, this.2.1⟩
  · intro hw hb
    refine Classical.byContradiction fun hn => ?_
    obtain ⟨_, _, _, c4, _⟩ := cut_back hb hn
    rw [c4] at hn
    exact hn hw
theorem on_same {y m : Int} (hy : ymB y m = true) (s : ByteArray) : onV y m s = moV y m s := by
  have nl := num_bd (vld_last hy)
  unfold onV moV
  by_cases hA : aB s = true ∧ wdN (s.extract 4 7) ≠ -1
  · rw [if_pos hA]
    have h7 := (aB_byte hA.1).1
    have hl : lomV y m s = uptoV (wdN (s.extract 4 7)) (num y m (Cal.dim y m)) := by
      have l3 : (s.extract 0 4).toList = [108, 97, 115, 116] := by have := hA.1; unfold aB at this; simp only [Bool.and_eq_true, beq_iff_eq] at this; exact this.2
      have hb := la_of l3
      unfold lomV
      rw [if_pos hb, (la_t hb).2.1, h7]
    have hne : lomV y m s ≠ -1000000 := by
      rw [hl]; unfold uptoV
      have := wdN_bd (s.extract 4 7)
      rw [if_neg (by omega)]
      omega
    unfold orV
    rw [nb_size (by omega), if_pos rfl, if_neg hne, hl]
  · rw [if_neg hA]
    have hlo : lomV y m s = -1000000 := Classical.byContradiction fun hn => hA ⟨(lom_form hn).1, (lom_form hn).2.1⟩
    rw [hlo]
    cases h1 : bB 62 s
    · have hfi : firstV y m s = -1000000 := Classical.byContradiction fun hn => by rw [first_form hn] at h1; cases h1
      rw [hfi, if_neg (by simp)]
      cases h2 : bB 60 s
      · have hla : lastV y m s = -1000000 := Classical.byContradiction fun hn => by rw [last_form hn] at h2; cases h2
        rw [hla, if_neg (by simp)]
        unfold orV
        by_cases hn : nbV y m s = -1000000
        · rw [hn]; rfl
        · rw [if_neg hn]
      · rw [if_pos rfl, nb_size (by have := (bB_byte h2).1; omega)]
        have ⟨f1, f2⟩ := form_cut (s := s) (c := 60) (by decide) h2
        have : lastV y m s = uptoV (wdN (s.extract 0 3)) (nbV y m (s.extract 5 s.size)) := by
          unfold lastV
          by_cases hw : wdN (s.extract 0 3) = -1
          · have e : uptoV (wdN (s.extract 0 3)) (nbV y m (s.extract 5 s.size)) = -1000000 := by unfold uptoV; rw [if_pos (.inl hw)]
            rw [e]
            cases hb : cutB s 60 61
            · rfl
            · rw [if_pos rfl, f2 hw hb]; unfold uptoV; rw [if_pos (.inl rfl)]
          · have ⟨g1, g2, g3⟩ := f1 hw
            rw [if_pos g1, g2, g3]
        rw [this]; rfl
    · rw [if_pos rfl, nb_size (by have := (bB_byte h1).1; omega)]
      have hla : lastV y m s = -1000000 := Classical.byContradiction fun hn => bB_both h1 (last_form hn)
      have ⟨f1, f2⟩ := form_cut (s := s) (c := 62) (by decide) h1
      have : firstV y m s = fromV (wdN (s.extract 0 3)) (nbV y m (s.extract 5 s.size)) := by
        unfold firstV
        by_cases hw : wdN (s.extract 0 3) = -1
        · have e : fromV (wdN (s.extract 0 3)) (nbV y m (s.extract 5 s.size)) = -1000000 := by unfold fromV; rw [if_pos (.inl hw)]
          rw [e]
          cases hb : cutB s 62 61
          · rfl
          · rw [if_pos rfl, f2 hw hb]; unfold fromV; rw [if_pos (.inl rfl)]
        · have ⟨g1, g2, g3⟩ := f1 hw
          rw [if_pos g1, g2, g3]
      rw [this, hla]
      unfold orV
      rw [if_pos rfl, if_pos rfl]
      by_cases hn : fromV (wdN (s.extract 0 3)) (nbV y m (s.extract 5 s.size)) = -1000000
      · rw [if_pos hn, hn]
      · rw [if_neg hn]
end Go.Proofs.YtbbhpfobcelbfaaGreatDoor
namespace Go.Proofs.YtbbhpfobcelbfaaGreatDoor
open Go.RowKit

/-- what a told day is: one of four forms. -/
theorem told_forms {y m : Int} {s : ByteArray} (h : toldV y m s ≠ -1000000) : ymB y m = true ∧
    ((s.size < 3 ∧ num y m 1 ≤ toldV y m s ∧ toldV y m s ≤ num y m 1 + Cal.dim y m - 1) ∨
     (aB s = true ∧ wdN (s.extract 4 7) = (toldV y m s + 719163) % 7 ∧ toldV y m s ≤ num y m 1 + Cal.dim y m - 1 ∧ num y m 1 + Cal.dim y m - 1 - 7 < toldV y m s) ∨
     (bB 62 s = true ∧ wdN (s.extract 0 3) = (toldV y m s + 719163) % 7 ∧ ∃ k, toldV y m (s.extract 5 s.size) = k ∧ k ≤ toldV y m s ∧ toldV y m s < k + 7 ∧ -719162 ≤ k ∧ k ≤ 2932896) ∨
     (bB 60 s = true ∧ wdN (s.extract 0 3) = (toldV y m s + 719163) % 7 ∧ ∃ k, toldV y m (s.extract 5 s.size) = k ∧ toldV y m s ≤ k ∧ k - 7 < toldV y m s ∧ -719162 ≤ k ∧ k ≤ 2932896)) := by
  cases hy : ymB y m
  · exact absurd (by unfold toldV; rw [hy]; rfl) h
  refine ⟨rfl, ?_⟩
  have ht : ∀ s, toldV y m s = moV y m s := fun s => by unfold toldV; rw [hy, if_pos rfl, on_same hy]
  have hk : ∀ t, nbV y m t ≠ -1000000 → toldV y m t = nbV y m t := fun t hn => by
    unfold toldV onV orV; rw [hy, if_pos rfl, if_neg hn]
  rw [ht] at h ⊢
  have nl := num_bd (vld_last hy)
  unfold moV at h ⊢
  by_cases hA : aB s = true ∧ wdN (s.extract 4 7) ≠ -1
  · rw [if_pos hA] at h ⊢
    right; left
    have hb := wdN_bd (s.extract 4 7)
    unfold uptoV
    rw [if_neg (by omega)]
    rw [last_num] at nl ⊢
    exact ⟨hA.1, by omega, by omega, by omega⟩
  · rw [if_neg hA] at h ⊢
    cases h1 : bB 62 s
    · rw [h1, if_neg (by simp)] at h
      rw [if_neg (by simp)]
      cases h2 : bB 60 s
      · rw [h2, if_neg (by simp)] at h
        rw [if_neg (by simp)]
        left
        have e := nb_two hy s
        by_cases hc : 1 ≤ twoN s ∧ twoN s ≤ Cal.dim y m
        · rw [if_pos hc] at e
          rw [e]
          refine ⟨?_, by omega, by omega⟩
          rcases Nat.lt_or_ge s.size 3 with hl | hl
          · exact hl
          · have := two_big (s := s) (by omega); omega
        · rw [if_neg hc] at e
          exact absurd e h
      · rw [h2, if_pos rfl] at h
        rw [if_pos rfl]
        right; right; right
        have ⟨u1, u2⟩ := upto_no h
        have hb := wdN_bd (s.extract 0 3)
        have nb := nbV_bd y m (s.extract 5 s.size)
        refine ⟨rfl, ?_, _, hk _ u2, ?_, ?_, by omega, by omega⟩
        all_goals (unfold uptoV; rw [if_neg (by omega)]; omega)
    · rw [h1, if_pos rfl] at h
      rw [if_pos rfl]
      right; right; left
      have ⟨u1, u2⟩ := from_no h
      have hb := wdN_bd (s.extract 0 3)
      have nb := nbV_bd y m (s.extract 5 s.size)
      refine ⟨rfl, ?_, _, hk _ u2, ?_, ?_, by omega, by omega⟩
      all_goals (unfold fromV; rw [if_neg (by omega)]; omega)
theorem told_bd {y m : Int} {s : ByteArray} : toldV y m s = -1000000 ∨ (-800000 ≤ toldV y m s ∧ toldV y m s ≤ 3000000) := by
  by_cases h : toldV y m s = -1000000
  · exact .inl h
  · right
    obtain ⟨hy, hf⟩ := told_forms h
    have ⟨y1, y2, m1, m2⟩ := ymB_t hy
    have dm := Cal.dim_bd y m
    have nl := num_bd (vld_last hy)
    rw [last_num] at nl
    rcases hf with ⟨_, _, _⟩ | ⟨_, _, _, _⟩ | ⟨_, _, k, _, _, _, _, _⟩ | ⟨_, _, k, _, _, _, _, _⟩ <;> omega
end Go.Proofs.YtbbhpfobcelbfaaGreatDoor
