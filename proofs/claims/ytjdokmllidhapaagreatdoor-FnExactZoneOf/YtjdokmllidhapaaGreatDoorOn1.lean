/- The names of weekdays: the program's and the model's search. -/
import Derived.Test.YtjdokmllidhapaaGreatDoorDigs
namespace Go.Proofs.YtjdokmllidhapaaGreatDoor
open Go.RowKit

/-- the names, three bytes each. -/
def wdNames : ByteArray := ⟨#[83, 117, 110, 77, 111, 110, 84, 117, 101, 87, 101, 100, 84, 104, 117, 70, 114, 105, 83, 97, 116]⟩
/-- is the k-th name this text. -/
def spB (s t : ByteArray) (k : Nat) : Bool := (s.extract (k * 3) ((k + 1) * 3)).toList == t.toList
/-- the first place, from k on, of at most n, or -1. -/
def spG (s t : ByteArray) : Nat → Nat → Int
  | _, 0 => -1
  | k, n + 1 => if spB s t k = true then k else spG s t (k + 1) n
theorem spG_hit {s t : ByteArray} {k n : Nat} (h : spB s t k = true) (hn : 0 < n) : spG s t k n = k := by
  obtain ⟨n, rfl⟩ : ∃ m, n = m + 1 := ⟨n - 1, by omega⟩
  simp only [spG]; rw [if_pos h]
theorem spG_miss {s t : ByteArray} {k n : Nat} (h : spB s t k = false) (hn : 0 < n) : spG s t k n = spG s t (k + 1) (n - 1) := by
  obtain ⟨n, rfl⟩ : ∃ m, n = m + 1 := ⟨n - 1, by omega⟩
  simp only [spG]; rw [h]; rfl
theorem spG_bd (s t : ByteArray) (k n : Nat) : spG s t k n = -1 ∨ (k ≤ spG s t k n ∧ spG s t k n < k + n) := by
  induction n generalizing k with
  | zero => exact .inl rfl
  | succ n ih =>
    simp only [spG]
    split
    · right; omega
    · rcases ih (k + 1) with h | h
      · exact .inl h
      · right; omega
def spN (s t : ByteArray) (m : Nat) : Int := if spG s t 0 m < 0 then 0 else spG s t 0 m
def spO (s t : ByteArray) (m : Nat) : Bool := decide (0 ≤ spG s t 0 m)
theorem sp_hit {s t : ByteArray} {m : Nat} {k : Int} (h : spG s t 0 m = k) (hk : 0 ≤ k) : spN s t m = k ∧ spO s t m = true := by
  unfold spN spO; rw [h, if_neg (by omega)]; exact ⟨rfl, decide_eq_true hk⟩
theorem sp_miss {s t : ByteArray} {m : Nat} (h : spG s t 0 m = -1) : spN s t m = 0 ∧ spO s t m = false := by
  unfold spN spO; rw [h]; exact ⟨rfl, rfl⟩
set_option maxHeartbeats 400000 in
theorem impl_shortName (s : ByteArray) (k : Nat) (w : World) (h : (k + 1) * 3 ≤ s.size) (hs : s.size ≤ 1000) :
    Calls Tryz.prog 220 #[.string s, .int .i64 k] w fun e w' => e = .returned (.string (s.extract (k * 3) ((k + 1) * 3))) ∧ w' = w := by
  go_enter Tryz.func220, Tryz.ntmps220
  go_wp2
  go_ret
  exact ⟨rfl, rfl⟩
set_option maxHeartbeats 1000000 in
theorem impl_shortPlace (s t : ByteArray) (m : Nat) (w : World) (hm : s.size = 3 * m) (hs : m ≤ 300) :
    Calls Tryz.prog 305 #[.string s, .string t] w fun e w' => e = .returned (.tuple #[.int .i64 (spN s t m), .bool (spO s t m)]) ∧ w' = w := by
  have hd : (s.size : Int) / 3 = m := by omega
  go_enter Tryz.func305, Tryz.ntmps305
  go_wp2
  go_loop [10] (fun i => ∃ k : Nat, k ≤ m ∧ i = .int .i64 k ∧ Hid (spG s t 0 m = spG s t k (m - k))) (fun i => m - (intOf i).toNat)
  case atStart => exact ⟨0, by omega, rfl, rfl⟩
  case round =>
    obtain ⟨k, hk, rfl, hg⟩ := hrel
    by_cases hlt : k < m
    · have hN := fun w => impl_shortName s k w (by omega) (by omega)
      cases hb : spB s t k
      · have HG : Hid (spG s t 0 m = spG s t (k + 1) (m - (k + 1))) := by
          have := spG_miss hb (show 0 < m - k by omega)
          simp only [Hid]; rw [hg.out, this]; congr 1
        unfold spB at hb
        generalize s.extract (k * 3) ((k + 1) * 3) = x at *
        go_wp2_with (go_at_call 220; refine (hN _).mono ?_; rintro e w' ⟨rfl, rfl⟩)
        go_round
        case rel => exact ⟨k + 1, by omega, by go_num, HG.out⟩
        case measure => simp [intOf]; omega
      · have HG : Hid (spG s t 0 m = k) := by
          have := spG_hit hb (show 0 < m - k by omega)
          simp only [Hid]; rw [hg.out, this]
        unfold spB at hb
        generalize s.extract (k * 3) ((k + 1) * 3) = x at *
        go_wp2_with (go_at_call 220; refine (hN _).mono ?_; rintro e w' ⟨rfl, rfl⟩)
        go_ret2
        exact ⟨ret_pair (sp_hit HG.out (by omega)).1.symm (sp_hit HG.out (by omega)).2.symm, rfl⟩
    · have e : k = m := by omega
      subst e
      have HG : Hid (spG s t 0 k = -1) := by have := hg.out; simp only [Hid]; rw [this]; simp [spG]
      go_wp2
      go_ret2
      exact ⟨ret_pair (sp_miss HG.out).1.symm (sp_miss HG.out).2.symm, rfl⟩
/-- the weekday of a name, or -1. -/
def wdN (t : ByteArray) : Int := spG wdNames t 0 7
theorem wdN_bd (t : ByteArray) : wdN t = -1 ∨ (0 ≤ wdN t ∧ wdN t < 7) := by
  have := spG_bd wdNames t 0 7
  unfold wdN; omega
set_option maxHeartbeats 400000 in
theorem impl_weekdayNamed (t : ByteArray) (w : World) :
    Calls Tryz.prog 283 #[.string t] w fun e w' => e = .returned (.int .i64 (wdN t)) ∧ w' = w := by
  have hP := fun w => impl_shortPlace wdNames t 7 w (by decide) (by omega)
  rcases wdN_bd t with bd | bd
  · have e := sp_miss (s := wdNames) (t := t) (m := 7) bd
    rw [e.1, e.2] at hP
    rw [bd]
    unfold wdNames at hP
    clear bd e
    go_enter Tryz.func283, Tryz.ntmps283
    go_wp2_with (go_at_call 305; refine (hP _).mono ?_; rintro e w' ⟨rfl, rfl⟩)
    go_ret
    exact ⟨rfl, rfl⟩
  · have e := sp_hit (s := wdNames) (t := t) (m := 7) (k := wdN t) rfl bd.1
    rw [e.1, e.2] at hP
    unfold wdNames at hP
    generalize wdN t = r at *
    clear bd e
    go_enter Tryz.func283, Tryz.ntmps283
    go_wp2_with (go_at_call 305; refine (hP _).mono ?_; rintro e w' ⟨rfl, rfl⟩)
    go_ret
    exact ⟨rfl, rfl⟩
/-- the model's list of names. -/
def wdList : List ByteArray := [⟨#[83, 117, 110]⟩, ⟨#[77, 111, 110]⟩, ⟨#[84, 117, 101]⟩, ⟨#[87, 101, 100]⟩, ⟨#[84, 104, 117]⟩, ⟨#[70, 114, 105]⟩, ⟨#[83, 97, 116]⟩]
theorem wdList_eq {k : Nat} (h : k < 7) : (wdList.getD k ⟨#[]⟩).toList = (wdNames.extract (k * 3) ((k + 1) * 3)).toList := by
  rcases (show k = 0 ∨ k = 1 ∨ k = 2 ∨ k = 3 ∨ k = 4 ∨ k = 5 ∨ k = 6 by omega) with rfl | rfl | rfl | rfl | rfl | rfl | rfl <;> (rw [ByteArray.toList_eq, ByteArray.toList_eq]; rfl)
theorem pick_str (w : World) (T : TypeId) (l : List ByteArray) (i : Nat) (hi : i < l.length) : (w.alloc (.cells (l.map Value.string).toArray T)).cell? ⟨w.heap.size, i, none⟩ = some (.string (l.getD i ⟨#[]⟩)) := by
  simp [List.getD, hi]
set_option maxHeartbeats 1000000 in
theorem spec_l01Named (t : ByteArray) (w : World) :
    Calls Tryz.prog 229 #[.string t] w fun e w' => e = .returned (.int .i64 (wdN t)) ∧ Below w.heap.size w w' := by
  have hc := fun i hi => pick_str w 9 wdList i hi
  have hl : wdList.length = 7 := rfl
  unfold wdN
  go_enter Tryz.func229, Tryz.ntmps229
  go_wp2
  go_loop [4] (fun i => ∃ k : Nat, k ≤ 7 ∧ i = .int .i64 k ∧ Hid (spG wdNames t 0 7 = spG wdNames t k (7 - k))) (fun i => 7 - (intOf i).toNat)
  case atStart => exact ⟨0, by omega, rfl, rfl⟩
  case round =>
    obtain ⟨k, hk, rfl, hg⟩ := hrel
    by_cases hlt : k < 7
    · obtain ⟨x, hx, hbx⟩ : ∃ x : ByteArray, (w.alloc (.cells (wdList.map Value.string).toArray 9)).cell? ⟨w.heap.size, k, none⟩ = some (.string x) ∧ (x.toList == t.toList) = spB wdNames t k :=
        ⟨_, hc k (by omega), by unfold spB; rw [wdList_eq hlt]⟩
      unfold wdList at hx
      simp only [List.map_cons, List.map_nil] at hx
      clear hc
      cases hb : spB wdNames t k
      · have HG : Hid (spG wdNames t 0 7 = spG wdNames t (k + 1) (7 - (k + 1))) := by
          have := spG_miss hb (show 0 < 7 - k by omega)
          simp only [Hid]; rw [hg.out, this]; congr 1
        rw [hb] at hbx
        clear hb hg
        go_wp2
        go_round
        case rel => exact ⟨k + 1, by omega, by go_num, HG.out⟩
        case measure => simp [intOf]; omega
      · have HG : Hid (spG wdNames t 0 7 = k) := by
          have := spG_hit hb (show 0 < 7 - k by omega)
          simp only [Hid]; rw [hg.out, this]
        rw [hb] at hbx
        clear hb hg
        go_wp2
        go_ret
        exact ⟨ret_int HG.out.symm, (Below.refl _ _).alloc (Nat.le_refl _) _⟩
    · have e : k = 7 := by omega
      subst e
      have HG : Hid (spG wdNames t 0 7 = -1) := by have := hg.out; simp only [Hid]; rw [this]; rfl
      go_wp2
      go_ret
      exact ⟨ret_int HG.out.symm, (Below.refl _ _).alloc (Nat.le_refl _) _⟩
end Go.Proofs.YtjdokmllidhapaaGreatDoor
