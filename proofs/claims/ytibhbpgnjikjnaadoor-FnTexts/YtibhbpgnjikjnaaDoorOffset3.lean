/- The contract of the model's l01Offset: two and three parts. -/
import Derived.Test.YtibhbpgnjikjnaaDoorOffset2
namespace Go.Proofs.YtibhbpgnjikjnaaDoor
open Go.RowKit
set_option maxHeartbeats 400000 in
theorem off2_no0 (s r : ByteArray) (g : Bool) (w : World) (hs : s.size ≤ 8000) (hm : (s.toList == [45]) = false) (hg : Sign s r g) {a b : ByteArray} {l : List ByteArray} (hp : parts r = a :: b :: l) (hl : l.length ≤ 1) (ha : a.size ≤ 3) (hd : digs a = true) (hb : ldM b < 0) :
    Calls Tryd.prog 82 #[.string s] w fun e w' => e = .returned (.tuple #[.int .i64 0, .bool false]) ∧ Below w.heap.size w w' := by
  have hrs : r.size ≤ s.size := by rcases hg with ⟨_, _, rfl⟩ | ⟨_, _, rfl⟩ | ⟨_, _, rfl⟩ <;> simp [ByteArray.size_extract]
  have hS := fun w => spec_l01Split r w (by omega)
  have hle : ∀ p ∈ parts r, p.size ≤ 8000 := fun p hp => by have := parts_le p hp; omega
  have hD := fun w => spec_l01DigitsM a w (by omega)
  have e1 := ldM_t (s := a) (by omega) hd
  have e2 := (drN_bd a (by omega)).2
  rw [e1.1] at hD
  have e3 := e1.2
  clear e1
  generalize drN a = n at *
  have hzb : b.size ≤ 8000 := hle b (by rw [hp]; simp)
  have hE := fun w => spec_l01DigitsM b w (by omega)
  have hmb := ldM_bd b
  generalize ldM b = m at *
  rcases hg with ⟨rfl, ⟨h0, hc⟩, hr⟩ | ⟨rfl, ⟨h0, hc⟩, hr⟩ | ⟨rfl, h0, hr⟩
  · have hc' : ((s[0].toNat : Int) == 45) = true := by rw [byteAt_eq s 0 h0, hc]; rfl
    clear hc hle
    have hr' := hr
    rw [hr] at hS
    clear hr
    rw [hr'] at hp
    rw [hp] at hS
    clear hr' hrs
    go_enter Tryd.func82, Tryd.ntmps82
    go_wp2_with fail
    refine (hS _).mono ?_
    rintro e w1 ⟨v, rfl, hown, hB⟩
    obtain ⟨q, cap, rfl, hq, hql⟩ := hown.form (by simp)
    have c0 := row_cells hown (j := 0) rfl
    have c1 := row_cells hown (j := 1) rfl
    simp only [List.length_cons] at *
    go_wp2_with fail
    refine wp_loop_rounds 2 ?_
    rw [rounds_succ]
    go_wp2_with fail
    refine (hD _).mono ?_
    rintro e w2 ⟨rfl, rfl⟩
    go_wp2_with fail
    rw [rounds_succ]
    go_wp2_with fail
    refine (hE _).mono ?_
    rintro e w3 ⟨rfl, rfl⟩
    go_wp2
    go_ret2
    exact ⟨rfl, hB.alloc (Below.size hB) _⟩
  · have hc' : ((s[0].toNat : Int) == 45) = false := by rw [byteAt_eq s 0 h0]; simpa using hc
    clear hc hle
    have hr' := hr
    rw [hr] at hS
    clear hr
    rw [hr'] at hp
    rw [hp] at hS
    clear hr' hrs
    go_enter Tryd.func82, Tryd.ntmps82
    go_wp2_with fail
    refine (hS _).mono ?_
    rintro e w1 ⟨v, rfl, hown, hB⟩
    obtain ⟨q, cap, rfl, hq, hql⟩ := hown.form (by simp)
    have c0 := row_cells hown (j := 0) rfl
    have c1 := row_cells hown (j := 1) rfl
    simp only [List.length_cons] at *
    go_wp2_with fail
    refine wp_loop_rounds 2 ?_
    rw [rounds_succ]
    go_wp2_with fail
    refine (hD _).mono ?_
    rintro e w2 ⟨rfl, rfl⟩
    go_wp2_with fail
    rw [rounds_succ]
    go_wp2_with fail
    refine (hE _).mono ?_
    rintro e w3 ⟨rfl, rfl⟩
    go_wp2
    go_ret2
    exact ⟨rfl, hB.alloc (Below.size hB) _⟩
  · clear hle
    have hr' := hr
    rw [hr] at hS
    clear hr
    rw [hr'] at hp
    rw [hp] at hS
    clear hr' hrs
    go_enter Tryd.func82, Tryd.ntmps82
    go_wp2_with fail
    refine (hS _).mono ?_
    rintro e w1 ⟨v, rfl, hown, hB⟩
    obtain ⟨q, cap, rfl, hq, hql⟩ := hown.form (by simp)
    have c0 := row_cells hown (j := 0) rfl
    have c1 := row_cells hown (j := 1) rfl
    simp only [List.length_cons] at *
    go_wp2_with fail
    refine wp_loop_rounds 2 ?_
    rw [rounds_succ]
    go_wp2_with fail
    refine (hD _).mono ?_
    rintro e w2 ⟨rfl, rfl⟩
    go_wp2_with fail
    rw [rounds_succ]
    go_wp2_with fail
    refine (hE _).mono ?_
    rintro e w3 ⟨rfl, rfl⟩
    go_wp2
    go_ret2
    exact ⟨rfl, hB.alloc (Below.size hB) _⟩
set_option maxHeartbeats 400000 in
theorem off2_no1 (s r : ByteArray) (g : Bool) (w : World) (hs : s.size ≤ 8000) (hm : (s.toList == [45]) = false) (hg : Sign s r g) {a b : ByteArray} {l : List ByteArray} (hp : parts r = a :: b :: l) (hl : l.length ≤ 1) (ha : a.size ≤ 3) (hd : digs a = true) (hb : 0 ≤ ldM b ∧ b.size ≠ 2) :
    Calls Tryd.prog 82 #[.string s] w fun e w' => e = .returned (.tuple #[.int .i64 0, .bool false]) ∧ Below w.heap.size w w' := by
  have hrs : r.size ≤ s.size := by rcases hg with ⟨_, _, rfl⟩ | ⟨_, _, rfl⟩ | ⟨_, _, rfl⟩ <;> simp [ByteArray.size_extract]
  have hS := fun w => spec_l01Split r w (by omega)
  have hle : ∀ p ∈ parts r, p.size ≤ 8000 := fun p hp => by have := parts_le p hp; omega
  have hD := fun w => spec_l01DigitsM a w (by omega)
  have e1 := ldM_t (s := a) (by omega) hd
  have e2 := (drN_bd a (by omega)).2
  rw [e1.1] at hD
  have e3 := e1.2
  clear e1
  generalize drN a = n at *
  have hzb : b.size ≤ 8000 := hle b (by rw [hp]; simp)
  have hE := fun w => spec_l01DigitsM b w (by omega)
  have hmb := ldM_bd b
  generalize ldM b = m at *
  rcases hg with ⟨rfl, ⟨h0, hc⟩, hr⟩ | ⟨rfl, ⟨h0, hc⟩, hr⟩ | ⟨rfl, h0, hr⟩
  · have hc' : ((s[0].toNat : Int) == 45) = true := by rw [byteAt_eq s 0 h0, hc]; rfl
    clear hc hle
    have hr' := hr
    rw [hr] at hS
    clear hr
    rw [hr'] at hp
    rw [hp] at hS
    clear hr' hrs
    go_enter Tryd.func82, Tryd.ntmps82
    go_wp2_with fail
    refine (hS _).mono ?_
    rintro e w1 ⟨v, rfl, hown, hB⟩
    obtain ⟨q, cap, rfl, hq, hql⟩ := hown.form (by simp)
    have c0 := row_cells hown (j := 0) rfl
    have c1 := row_cells hown (j := 1) rfl
    simp only [List.length_cons] at *
    go_wp2_with fail
    refine wp_loop_rounds 2 ?_
    rw [rounds_succ]
    go_wp2_with fail
    refine (hD _).mono ?_
    rintro e w2 ⟨rfl, rfl⟩
    go_wp2_with fail
    rw [rounds_succ]
    go_wp2_with fail
    refine (hE _).mono ?_
    rintro e w3 ⟨rfl, rfl⟩
    go_wp2
    go_ret2
    exact ⟨rfl, hB.alloc (Below.size hB) _⟩
  · have hc' : ((s[0].toNat : Int) == 45) = false := by rw [byteAt_eq s 0 h0]; simpa using hc
    clear hc hle
    have hr' := hr
    rw [hr] at hS
    clear hr
    rw [hr'] at hp
    rw [hp] at hS
    clear hr' hrs
    go_enter Tryd.func82, Tryd.ntmps82
    go_wp2_with fail
    refine (hS _).mono ?_
    rintro e w1 ⟨v, rfl, hown, hB⟩
    obtain ⟨q, cap, rfl, hq, hql⟩ := hown.form (by simp)
    have c0 := row_cells hown (j := 0) rfl
    have c1 := row_cells hown (j := 1) rfl
    simp only [List.length_cons] at *
    go_wp2_with fail
    refine wp_loop_rounds 2 ?_
    rw [rounds_succ]
    go_wp2_with fail
    refine (hD _).mono ?_
    rintro e w2 ⟨rfl, rfl⟩
    go_wp2_with fail
    rw [rounds_succ]
    go_wp2_with fail
    refine (hE _).mono ?_
    rintro e w3 ⟨rfl, rfl⟩
    go_wp2
    go_ret2
    exact ⟨rfl, hB.alloc (Below.size hB) _⟩
  · clear hle
    have hr' := hr
    rw [hr] at hS
    clear hr
    rw [hr'] at hp
    rw [hp] at hS
    clear hr' hrs
    go_enter Tryd.func82, Tryd.ntmps82
    go_wp2_with fail
    refine (hS _).mono ?_
    rintro e w1 ⟨v, rfl, hown, hB⟩
    obtain ⟨q, cap, rfl, hq, hql⟩ := hown.form (by simp)
    have c0 := row_cells hown (j := 0) rfl
    have c1 := row_cells hown (j := 1) rfl
    simp only [List.length_cons] at *
    go_wp2_with fail
    refine wp_loop_rounds 2 ?_
    rw [rounds_succ]
    go_wp2_with fail
    refine (hD _).mono ?_
    rintro e w2 ⟨rfl, rfl⟩
    go_wp2_with fail
    rw [rounds_succ]
    go_wp2_with fail
    refine (hE _).mono ?_
    rintro e w3 ⟨rfl, rfl⟩
    go_wp2
    go_ret2
    exact ⟨rfl, hB.alloc (Below.size hB) _⟩
set_option maxHeartbeats 400000 in
theorem off2_no2 (s r : ByteArray) (g : Bool) (w : World) (hs : s.size ≤ 8000) (hm : (s.toList == [45]) = false) (hg : Sign s r g) {a b : ByteArray} {l : List ByteArray} (hp : parts r = a :: b :: l) (hl : l.length ≤ 1) (ha : a.size ≤ 3) (hd : digs a = true) (hb : 0 ≤ ldM b ∧ b.size = 2 ∧ 59 < ldM b) :
    Calls Tryd.prog 82 #[.string s] w fun e w' => e = .returned (.tuple #[.int .i64 0, .bool false]) ∧ Below w.heap.size w w' := by
  have hrs : r.size ≤ s.size := by rcases hg with ⟨_, _, rfl⟩ | ⟨_, _, rfl⟩ | ⟨_, _, rfl⟩ <;> simp [ByteArray.size_extract]
  have hS := fun w => spec_l01Split r w (by omega)
  have hle : ∀ p ∈ parts r, p.size ≤ 8000 := fun p hp => by have := parts_le p hp; omega
  have hD := fun w => spec_l01DigitsM a w (by omega)
  have e1 := ldM_t (s := a) (by omega) hd
  have e2 := (drN_bd a (by omega)).2
  rw [e1.1] at hD
  have e3 := e1.2
  clear e1
  generalize drN a = n at *
  have hzb : b.size ≤ 8000 := hle b (by rw [hp]; simp)
  have hE := fun w => spec_l01DigitsM b w (by omega)
  have hmb := ldM_bd b
  generalize ldM b = m at *
  rcases hg with ⟨rfl, ⟨h0, hc⟩, hr⟩ | ⟨rfl, ⟨h0, hc⟩, hr⟩ | ⟨rfl, h0, hr⟩
  · have hc' : ((s[0].toNat : Int) == 45) = true := by rw [byteAt_eq s 0 h0, hc]; rfl
    clear hc hle
    have hr' := hr
    rw [hr] at hS
    clear hr
    rw [hr'] at hp
    rw [hp] at hS
    clear hr' hrs
    go_enter Tryd.func82, Tryd.ntmps82
    go_wp2_with fail
    refine (hS _).mono ?_
    rintro e w1 ⟨v, rfl, hown, hB⟩
    obtain ⟨q, cap, rfl, hq, hql⟩ := hown.form (by simp)
    have c0 := row_cells hown (j := 0) rfl
    have c1 := row_cells hown (j := 1) rfl
    simp only [List.length_cons] at *
    go_wp2_with fail
    refine wp_loop_rounds 2 ?_
    rw [rounds_succ]
    go_wp2_with fail
    refine (hD _).mono ?_
    rintro e w2 ⟨rfl, rfl⟩
    go_wp2_with fail
    rw [rounds_succ]
    go_wp2_with fail
    refine (hE _).mono ?_
    rintro e w3 ⟨rfl, rfl⟩
    go_wp2
    go_ret2
    exact ⟨rfl, hB.alloc (Below.size hB) _⟩
  · have hc' : ((s[0].toNat : Int) == 45) = false := by rw [byteAt_eq s 0 h0]; simpa using hc
    clear hc hle
    have hr' := hr
    rw [hr] at hS
    clear hr
    rw [hr'] at hp
    rw [hp] at hS
    clear hr' hrs
    go_enter Tryd.func82, Tryd.ntmps82
    go_wp2_with fail
    refine (hS _).mono ?_
    rintro e w1 ⟨v, rfl, hown, hB⟩
    obtain ⟨q, cap, rfl, hq, hql⟩ := hown.form (by simp)
    have c0 := row_cells hown (j := 0) rfl
    have c1 := row_cells hown (j := 1) rfl
    simp only [List.length_cons] at *
    go_wp2_with fail
    refine wp_loop_rounds 2 ?_
    rw [rounds_succ]
    go_wp2_with fail
    refine (hD _).mono ?_
    rintro e w2 ⟨rfl, rfl⟩
    go_wp2_with fail
    rw [rounds_succ]
    go_wp2_with fail
    refine (hE _).mono ?_
    rintro e w3 ⟨rfl, rfl⟩
    go_wp2
    go_ret2
    exact ⟨rfl, hB.alloc (Below.size hB) _⟩
  · clear hle
    have hr' := hr
    rw [hr] at hS
    clear hr
    rw [hr'] at hp
    rw [hp] at hS
    clear hr' hrs
    go_enter Tryd.func82, Tryd.ntmps82
    go_wp2_with fail
    refine (hS _).mono ?_
    rintro e w1 ⟨v, rfl, hown, hB⟩
    obtain ⟨q, cap, rfl, hq, hql⟩ := hown.form (by simp)
    have c0 := row_cells hown (j := 0) rfl
    have c1 := row_cells hown (j := 1) rfl
    simp only [List.length_cons] at *
    go_wp2_with fail
    refine wp_loop_rounds 2 ?_
    rw [rounds_succ]
    go_wp2_with fail
    refine (hD _).mono ?_
    rintro e w2 ⟨rfl, rfl⟩
    go_wp2_with fail
    rw [rounds_succ]
    go_wp2_with fail
    refine (hE _).mono ?_
    rintro e w3 ⟨rfl, rfl⟩
    go_wp2
    go_ret2
    exact ⟨rfl, hB.alloc (Below.size hB) _⟩
set_option maxHeartbeats 400000 in
theorem off2_yes (s r : ByteArray) (g : Bool) (w : World) (hs : s.size ≤ 8000) (hm : (s.toList == [45]) = false) (hg : Sign s r g) {a b : ByteArray} (hp : parts r = [a, b]) (ha : a.size ≤ 3) (hd : digs a = true) (hb : twB b = true) :
    Calls Tryd.prog 82 #[.string s] w fun e w' => e = .returned (.tuple #[.int .i64 (if g = true then - (drN a * 3600 + drN b * 60) else drN a * 3600 + drN b * 60), .bool (decide (drN a * 3600 + drN b * 60 ≤ 604800))]) ∧ Below w.heap.size w w' := by
  have hrs : r.size ≤ s.size := by rcases hg with ⟨_, _, rfl⟩ | ⟨_, _, rfl⟩ | ⟨_, _, rfl⟩ <;> simp [ByteArray.size_extract]
  have hS := fun w => spec_l01Split r w (by omega)
  have hle : ∀ p ∈ parts r, p.size ≤ 8000 := fun p hp => by have := parts_le p hp; omega
  have hD := fun w => spec_l01DigitsM a w (by omega)
  have e1 := ldM_t (s := a) (by omega) hd
  have e2 := (drN_bd a (by omega)).2
  rw [e1.1] at hD
  have e3 := e1.2
  clear e1
  generalize drN a = n at *
  have hE := fun w => spec_l01DigitsM b w (by have := (twB_t hb).1; omega)
  obtain ⟨xb, yb, zb, ub⟩ := tw_yes hb
  rw [xb] at hE
  generalize drN b = m at *
  have hI := fun (m : Int) (w : World) => spec_l01Is_any m w
  rcases hg with ⟨rfl, ⟨h0, hc⟩, hr⟩ | ⟨rfl, ⟨h0, hc⟩, hr⟩ | ⟨rfl, h0, hr⟩
  · have hc' : ((s[0].toNat : Int) == 45) = true := by rw [byteAt_eq s 0 h0, hc]; rfl
    clear hc hle
    have hr' := hr
    rw [hr] at hS
    clear hr
    rw [hr'] at hp
    rw [hp] at hS
    clear hr' hrs
    go_enter Tryd.func82, Tryd.ntmps82
    go_wp2_with fail
    refine (hS _).mono ?_
    rintro e w1 ⟨v, rfl, hown, hB⟩
    obtain ⟨q, cap, rfl, hq, hql⟩ := hown.form (by simp)
    have c0 := row_cells hown (j := 0) rfl
    have c1 := row_cells hown (j := 1) rfl
    simp only [List.length_cons, List.length_nil] at *
    go_wp2_with fail
    refine wp_loop_rounds 3 ?_
    rw [rounds_succ]
    go_wp2_with fail
    refine (hD _).mono ?_
    rintro e w2 ⟨rfl, rfl⟩
    go_wp2_with fail
    rw [rounds_succ]
    go_wp2_with fail
    refine (hE _).mono ?_
    rintro e w3 ⟨rfl, rfl⟩
    go_wp2_with fail
    rw [rounds_succ]
    go_wp2_with fail
    refine (hI _ _).mono ?_
    rintro e w9 ⟨rfl, rfl⟩
    go_wp2
    go_ret2
    exact ⟨by simp <;> omega, (hB.alloc (Below.size hB) _).alloc (by have := Below.size hB; simp; omega) _⟩
  · have hc' : ((s[0].toNat : Int) == 45) = false := by rw [byteAt_eq s 0 h0]; simpa using hc
    clear hc hle
    have hr' := hr
    rw [hr] at hS
    clear hr
    rw [hr'] at hp
    rw [hp] at hS
    clear hr' hrs
    go_enter Tryd.func82, Tryd.ntmps82
    go_wp2_with fail
    refine (hS _).mono ?_
    rintro e w1 ⟨v, rfl, hown, hB⟩
    obtain ⟨q, cap, rfl, hq, hql⟩ := hown.form (by simp)
    have c0 := row_cells hown (j := 0) rfl
    have c1 := row_cells hown (j := 1) rfl
    simp only [List.length_cons, List.length_nil] at *
    go_wp2_with fail
    refine wp_loop_rounds 3 ?_
    rw [rounds_succ]
    go_wp2_with fail
    refine (hD _).mono ?_
    rintro e w2 ⟨rfl, rfl⟩
    go_wp2_with fail
    rw [rounds_succ]
    go_wp2_with fail
    refine (hE _).mono ?_
    rintro e w3 ⟨rfl, rfl⟩
    go_wp2_with fail
    rw [rounds_succ]
    go_wp2_with fail
    refine (hI _ _).mono ?_
    rintro e w9 ⟨rfl, rfl⟩
    go_wp2
    go_ret2
    exact ⟨by simp <;> omega, (hB.alloc (Below.size hB) _).alloc (by have := Below.size hB; simp; omega) _⟩
  · clear hle
    have hr' := hr
    rw [hr] at hS
    clear hr
    rw [hr'] at hp
    rw [hp] at hS
    clear hr' hrs
    go_enter Tryd.func82, Tryd.ntmps82
    go_wp2_with fail
    refine (hS _).mono ?_
    rintro e w1 ⟨v, rfl, hown, hB⟩
    obtain ⟨q, cap, rfl, hq, hql⟩ := hown.form (by simp)
    have c0 := row_cells hown (j := 0) rfl
    have c1 := row_cells hown (j := 1) rfl
    simp only [List.length_cons, List.length_nil] at *
    go_wp2_with fail
    refine wp_loop_rounds 3 ?_
    rw [rounds_succ]
    go_wp2_with fail
    refine (hD _).mono ?_
    rintro e w2 ⟨rfl, rfl⟩
    go_wp2_with fail
    rw [rounds_succ]
    go_wp2_with fail
    refine (hE _).mono ?_
    rintro e w3 ⟨rfl, rfl⟩
    go_wp2_with fail
    rw [rounds_succ]
    go_wp2_with fail
    refine (hI _ _).mono ?_
    rintro e w9 ⟨rfl, rfl⟩
    go_wp2
    go_ret2
    exact ⟨by simp <;> omega, (hB.alloc (Below.size hB) _).alloc (by have := Below.size hB; simp; omega) _⟩
end Go.Proofs.YtibhbpgnjikjnaaDoor
