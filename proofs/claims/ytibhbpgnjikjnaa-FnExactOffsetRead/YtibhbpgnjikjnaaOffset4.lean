/- The contract of the model's l01Offset: three parts. -/
import Derived.Test.YtibhbpgnjikjnaaOffset3
namespace Go.Proofs.Ytibhbpgnjikjnaa
open Go.RowKit
set_option maxHeartbeats 1000000 in
theorem off3_no0 (s r : ByteArray) (g : Bool) (w : World) (hs : s.size ≤ 8000) (hm : (s.toList == [45]) = false) (hg : Sign s r g) {a b c : ByteArray} (hp : parts r = [a, b, c]) (ha : a.size ≤ 3) (hd : digs a = true) (hb : twB b = true) (hc2 : ldM c < 0) :
    Calls Try.prog 19 #[.string s] w fun e w' => e = .returned (.tuple #[.int .i64 0, .bool false]) ∧ Below w.heap.size w w' := by
  have hrs : r.size ≤ s.size := by rcases hg with ⟨_, _, rfl⟩ | ⟨_, _, rfl⟩ | ⟨_, _, rfl⟩ <;> simp [ByteArray.size_extract]
  have hS := fun w => spec_l01Split r w (by omega)
  have hle : ∀ p ∈ parts r, p.size ≤ 8000 := fun p hp => by have := parts_le p hp; omega
  have hD := fun w => spec_l01DigitsM a w (by omega)
  have e1 := ldM_t (s := a) (by omega) hd
  have e2 := (drN_bd a (by omega)).2
  rw [e1.1] at hD
  have e3 := e1.2
  clear e1
  generalize drN a = n at *
  have hE := fun w => spec_l01DigitsM b w (by have := (twB_t hb).1; omega)
  obtain ⟨xb, yb, zb, ub⟩ := tw_yes hb
  rw [xb] at hE
  generalize drN b = m at *
  have hzc : c.size ≤ 8000 := hle c (by rw [hp]; simp)
  have hF := fun w => spec_l01DigitsM c w (by omega)
  have hmc := ldM_bd c
  generalize ldM c = k at *
  rcases hg with ⟨rfl, ⟨h0, hc⟩, hr⟩ | ⟨rfl, ⟨h0, hc⟩, hr⟩ | ⟨rfl, h0, hr⟩
  · have hc' : ((s[0].toNat : Int) == 45) = true := by rw [byteAt_eq s 0 h0, hc]; rfl
    clear hc hle
    have hr' := hr
    rw [hr] at hS
    clear hr
    rw [hr'] at hp
    rw [hp] at hS
    clear hr' hrs
    go_enter Try.func19, Try.ntmps19
    go_wp2_with fail
    refine (hS _).mono ?_
    rintro e w1 ⟨v, rfl, hown, hB⟩
    obtain ⟨q, cap, rfl, hq, hql⟩ := hown.form (by simp)
    have c0 := row_cells hown (j := 0) rfl
    have c1 := row_cells hown (j := 1) rfl
    have c2 := row_cells hown (j := 2) rfl
    simp only [List.length_cons, List.length_nil] at *
    go_wp2_with fail
    refine wp_loop_rounds 3 ?_
    rw [rounds_succ]
    go_wp2_with fail
    refine (hD _).mono ?_
    rintro e w2 ⟨rfl, rfl⟩
    go_wp2_with fail
    rw [rounds_succ]
    go_wp2_with fail
    refine (hE _).mono ?_
    rintro e w3 ⟨rfl, rfl⟩
    go_wp2_with fail
    rw [rounds_succ]
    go_wp2_with fail
    refine (hF _).mono ?_
    rintro e w4 ⟨rfl, rfl⟩
    go_wp2
    go_ret2
    exact ⟨rfl, (hB.alloc (Below.size hB) _).alloc (by have := Below.size hB; simp; omega) _⟩
  · have hc' : ((s[0].toNat : Int) == 45) = false := by rw [byteAt_eq s 0 h0]; simpa using hc
    clear hc hle
    have hr' := hr
    rw [hr] at hS
    clear hr
    rw [hr'] at hp
    rw [hp] at hS
    clear hr' hrs
    go_enter Try.func19, Try.ntmps19
    go_wp2_with fail
    refine (hS _).mono ?_
    rintro e w1 ⟨v, rfl, hown, hB⟩
    obtain ⟨q, cap, rfl, hq, hql⟩ := hown.form (by simp)
    have c0 := row_cells hown (j := 0) rfl
    have c1 := row_cells hown (j := 1) rfl
    have c2 := row_cells hown (j := 2) rfl
    simp only [List.length_cons, List.length_nil] at *
    go_wp2_with fail
    refine wp_loop_rounds 3 ?_
    rw [rounds_succ]
    go_wp2_with fail
    refine (hD _).mono ?_
    rintro e w2 ⟨rfl, rfl⟩
    go_wp2_with fail
    rw [rounds_succ]
    go_wp2_with fail
    refine (hE _).mono ?_
    rintro e w3 ⟨rfl, rfl⟩
    go_wp2_with fail
    rw [rounds_succ]
    go_wp2_with fail
    refine (hF _).mono ?_
    rintro e w4 ⟨rfl, rfl⟩
    go_wp2
    go_ret2
    exact ⟨rfl, (hB.alloc (Below.size hB) _).alloc (by have := Below.size hB; simp; omega) _⟩
  · clear hle
    have hr' := hr
    rw [hr] at hS
    clear hr
    rw [hr'] at hp
    rw [hp] at hS
    clear hr' hrs
    go_enter Try.func19, Try.ntmps19
    go_wp2_with fail
    refine (hS _).mono ?_
    rintro e w1 ⟨v, rfl, hown, hB⟩
    obtain ⟨q, cap, rfl, hq, hql⟩ := hown.form (by simp)
    have c0 := row_cells hown (j := 0) rfl
    have c1 := row_cells hown (j := 1) rfl
    have c2 := row_cells hown (j := 2) rfl
    simp only [List.length_cons, List.length_nil] at *
    go_wp2_with fail
    refine wp_loop_rounds 3 ?_
    rw [rounds_succ]
    go_wp2_with fail
    refine (hD _).mono ?_
    rintro e w2 ⟨rfl, rfl⟩
    go_wp2_with fail
    rw [rounds_succ]
    go_wp2_with fail
    refine (hE _).mono ?_
    rintro e w3 ⟨rfl, rfl⟩
    go_wp2_with fail
    rw [rounds_succ]
    go_wp2_with fail
    refine (hF _).mono ?_
    rintro e w4 ⟨rfl, rfl⟩
    go_wp2
    go_ret2
    exact ⟨rfl, (hB.alloc (Below.size hB) _).alloc (by have := Below.size hB; simp; omega) _⟩
set_option maxHeartbeats 1000000 in
theorem off3_no1 (s r : ByteArray) (g : Bool) (w : World) (hs : s.size ≤ 8000) (hm : (s.toList == [45]) = false) (hg : Sign s r g) {a b c : ByteArray} (hp : parts r = [a, b, c]) (ha : a.size ≤ 3) (hd : digs a = true) (hb : twB b = true) (hc2 : 0 ≤ ldM c ∧ c.size ≠ 2) :
    Calls Try.prog 19 #[.string s] w fun e w' => e = .returned (.tuple #[.int .i64 0, .bool false]) ∧ Below w.heap.size w w' := by
  have hrs : r.size ≤ s.size := by rcases hg with ⟨_, _, rfl⟩ | ⟨_, _, rfl⟩ | ⟨_, _, rfl⟩ <;> simp [ByteArray.size_extract]
  have hS := fun w => spec_l01Split r w (by omega)
  have hle : ∀ p ∈ parts r, p.size ≤ 8000 := fun p hp => by have := parts_le p hp; omega
  have hD := fun w => spec_l01DigitsM a w (by omega)
  have e1 := ldM_t (s := a) (by omega) hd
  have e2 := (drN_bd a (by omega)).2
  rw [e1.1] at hD
  have e3 := e1.2
  clear e1
  generalize drN a = n at *
  have hE := fun w => spec_l01DigitsM b w (by have := (twB_t hb).1; omega)
  obtain ⟨xb, yb, zb, ub⟩ := tw_yes hb
  rw [xb] at hE
  generalize drN b = m at *
  have hzc : c.size ≤ 8000 := hle c (by rw [hp]; simp)
  have hF := fun w => spec_l01DigitsM c w (by omega)
  have hmc := ldM_bd c
  generalize ldM c = k at *
  rcases hg with ⟨rfl, ⟨h0, hc⟩, hr⟩ | ⟨rfl, ⟨h0, hc⟩, hr⟩ | ⟨rfl, h0, hr⟩
  · have hc' : ((s[0].toNat : Int) == 45) = true := by rw [byteAt_eq s 0 h0, hc]; rfl
    clear hc hle
    have hr' := hr
    rw [hr] at hS
    clear hr
    rw [hr'] at hp
    rw [hp] at hS
    clear hr' hrs
    go_enter Try.func19, Try.ntmps19
    go_wp2_with fail
    refine (hS _).mono ?_
    rintro e w1 ⟨v, rfl, hown, hB⟩
    obtain ⟨q, cap, rfl, hq, hql⟩ := hown.form (by simp)
    have c0 := row_cells hown (j := 0) rfl
    have c1 := row_cells hown (j := 1) rfl
    have c2 := row_cells hown (j := 2) rfl
    simp only [List.length_cons, List.length_nil] at *
    go_wp2_with fail
    refine wp_loop_rounds 3 ?_
    rw [rounds_succ]
    go_wp2_with fail
    refine (hD _).mono ?_
    rintro e w2 ⟨rfl, rfl⟩
    go_wp2_with fail
    rw [rounds_succ]
    go_wp2_with fail
    refine (hE _).mono ?_
    rintro e w3 ⟨rfl, rfl⟩
    go_wp2_with fail
    rw [rounds_succ]
    go_wp2_with fail
    refine (hF _).mono ?_
    rintro e w4 ⟨rfl, rfl⟩
    go_wp2
    go_ret2
    exact ⟨rfl, (hB.alloc (Below.size hB) _).alloc (by have := Below.size hB; simp; omega) _⟩
  · have hc' : ((s[0].toNat : Int) == 45) = false := by rw [byteAt_eq s 0 h0]; simpa using hc
    clear hc hle
    have hr' := hr
    rw [hr] at hS
    clear hr
    rw [hr'] at hp
    rw [hp] at hS
    clear hr' hrs
    go_enter Try.func19, Try.ntmps19
    go_wp2_with fail
    refine (hS _).mono ?_
    rintro e w1 ⟨v, rfl, hown, hB⟩
    obtain ⟨q, cap, rfl, hq, hql⟩ := hown.form (by simp)
    have c0 := row_cells hown (j := 0) rfl
    have c1 := row_cells hown (j := 1) rfl
    have c2 := row_cells hown (j := 2) rfl
    simp only [List.length_cons, List.length_nil] at *
    go_wp2_with fail
    refine wp_loop_rounds 3 ?_
    rw [rounds_succ]
    go_wp2_with fail
    refine (hD _).mono ?_
    rintro e w2 ⟨rfl, rfl⟩
    go_wp2_with fail
    rw [rounds_succ]
    go_wp2_with fail
    refine (hE _).mono ?_
    rintro e w3 ⟨rfl, rfl⟩
    go_wp2_with fail
    rw [rounds_succ]
    go_wp2_with fail
    refine (hF _).mono ?_
    rintro e w4 ⟨rfl, rfl⟩
    go_wp2
    go_ret2
    exact ⟨rfl, (hB.alloc (Below.size hB) _).alloc (by have := Below.size hB; simp; omega) _⟩
  · clear hle
    have hr' := hr
    rw [hr] at hS
    clear hr
    rw [hr'] at hp
    rw [hp] at hS
    clear hr' hrs
    go_enter Try.func19, Try.ntmps19
    go_wp2_with fail
    refine (hS _).mono ?_
    rintro e w1 ⟨v, rfl, hown, hB⟩
    obtain ⟨q, cap, rfl, hq, hql⟩ := hown.form (by simp)
    have c0 := row_cells hown (j := 0) rfl
    have c1 := row_cells hown (j := 1) rfl
    have c2 := row_cells hown (j := 2) rfl
    simp only [List.length_cons, List.length_nil] at *
    go_wp2_with fail
    refine wp_loop_rounds 3 ?_
    rw [rounds_succ]
    go_wp2_with fail
    refine (hD _).mono ?_
    rintro e w2 ⟨rfl, rfl⟩
    go_wp2_with fail
    rw [rounds_succ]
    go_wp2_with fail
    refine (hE _).mono ?_
    rintro e w3 ⟨rfl, rfl⟩
    go_wp2_with fail
    rw [rounds_succ]
    go_wp2_with fail
    refine (hF _).mono ?_
    rintro e w4 ⟨rfl, rfl⟩
    go_wp2
    go_ret2
    exact ⟨rfl, (hB.alloc (Below.size hB) _).alloc (by have := Below.size hB; simp; omega) _⟩
set_option maxHeartbeats 1000000 in
theorem off3_no2 (s r : ByteArray) (g : Bool) (w : World) (hs : s.size ≤ 8000) (hm : (s.toList == [45]) = false) (hg : Sign s r g) {a b c : ByteArray} (hp : parts r = [a, b, c]) (ha : a.size ≤ 3) (hd : digs a = true) (hb : twB b = true) (hc2 : 0 ≤ ldM c ∧ c.size = 2 ∧ 59 < ldM c) :
    Calls Try.prog 19 #[.string s] w fun e w' => e = .returned (.tuple #[.int .i64 0, .bool false]) ∧ Below w.heap.size w w' := by
  have hrs : r.size ≤ s.size := by rcases hg with ⟨_, _, rfl⟩ | ⟨_, _, rfl⟩ | ⟨_, _, rfl⟩ <;> simp [ByteArray.size_extract]
  have hS := fun w => spec_l01Split r w (by omega)
  have hle : ∀ p ∈ parts r, p.size ≤ 8000 := fun p hp => by have := parts_le p hp; omega
  have hD := fun w => spec_l01DigitsM a w (by omega)
  have e1 := ldM_t (s := a) (by omega) hd
  have e2 := (drN_bd a (by omega)).2
  rw [e1.1] at hD
  have e3 := e1.2
  clear e1
  generalize drN a = n at *
  have hE := fun w => spec_l01DigitsM b w (by have := (twB_t hb).1; omega)
  obtain ⟨xb, yb, zb, ub⟩ := tw_yes hb
  rw [xb] at hE
  generalize drN b = m at *
  have hzc : c.size ≤ 8000 := hle c (by rw [hp]; simp)
  have hF := fun w => spec_l01DigitsM c w (by omega)
  have hmc := ldM_bd c
  generalize ldM c = k at *
  rcases hg with ⟨rfl, ⟨h0, hc⟩, hr⟩ | ⟨rfl, ⟨h0, hc⟩, hr⟩ | ⟨rfl, h0, hr⟩
  · have hc' : ((s[0].toNat : Int) == 45) = true := by rw [byteAt_eq s 0 h0, hc]; rfl
    clear hc hle
    have hr' := hr
    rw [hr] at hS
    clear hr
    rw [hr'] at hp
    rw [hp] at hS
    clear hr' hrs
    go_enter Try.func19, Try.ntmps19
    go_wp2_with fail
    refine (hS _).mono ?_
    rintro e w1 ⟨v, rfl, hown, hB⟩
    obtain ⟨q, cap, rfl, hq, hql⟩ := hown.form (by simp)
    have c0 := row_cells hown (j := 0) rfl
    have c1 := row_cells hown (j := 1) rfl
    have c2 := row_cells hown (j := 2) rfl
    simp only [List.length_cons, List.length_nil] at *
    go_wp2_with fail
    refine wp_loop_rounds 3 ?_
    rw [rounds_succ]
    go_wp2_with fail
    refine (hD _).mono ?_
    rintro e w2 ⟨rfl, rfl⟩
    go_wp2_with fail
    rw [rounds_succ]
    go_wp2_with fail
    refine (hE _).mono ?_
    rintro e w3 ⟨rfl, rfl⟩
    go_wp2_with fail
    rw [rounds_succ]
    go_wp2_with fail
    refine (hF _).mono ?_
    rintro e w4 ⟨rfl, rfl⟩
    go_wp2
    go_ret2
    exact ⟨rfl, (hB.alloc (Below.size hB) _).alloc (by have := Below.size hB; simp; omega) _⟩
  · have hc' : ((s[0].toNat : Int) == 45) = false := by rw [byteAt_eq s 0 h0]; simpa using hc
    clear hc hle
    have hr' := hr
    rw [hr] at hS
    clear hr
    rw [hr'] at hp
    rw [hp] at hS
    clear hr' hrs
    go_enter Try.func19, Try.ntmps19
    go_wp2_with fail
    refine (hS _).mono ?_
    rintro e w1 ⟨v, rfl, hown, hB⟩
    obtain ⟨q, cap, rfl, hq, hql⟩ := hown.form (by simp)
    have c0 := row_cells hown (j := 0) rfl
    have c1 := row_cells hown (j := 1) rfl
    have c2 := row_cells hown (j := 2) rfl
    simp only [List.length_cons, List.length_nil] at *
    go_wp2_with fail
    refine wp_loop_rounds 3 ?_
    rw [rounds_succ]
    go_wp2_with fail
    refine (hD _).mono ?_
    rintro e w2 ⟨rfl, rfl⟩
    go_wp2_with fail
    rw [rounds_succ]
    go_wp2_with fail
    refine (hE _).mono ?_
    rintro e w3 ⟨rfl, rfl⟩
    go_wp2_with fail
    rw [rounds_succ]
    go_wp2_with fail
    refine (hF _).mono ?_
    rintro e w4 ⟨rfl, rfl⟩
    go_wp2
    go_ret2
    exact ⟨rfl, (hB.alloc (Below.size hB) _).alloc (by have := Below.size hB; simp; omega) _⟩
  · clear hle
    have hr' := hr
    rw [hr] at hS
    clear hr
    rw [hr'] at hp
    rw [hp] at hS
    clear hr' hrs
    go_enter Try.func19, Try.ntmps19
    go_wp2_with fail
    refine (hS _).mono ?_
    rintro e w1 ⟨v, rfl, hown, hB⟩
    obtain ⟨q, cap, rfl, hq, hql⟩ := hown.form (by simp)
    have c0 := row_cells hown (j := 0) rfl
    have c1 := row_cells hown (j := 1) rfl
    have c2 := row_cells hown (j := 2) rfl
    simp only [List.length_cons, List.length_nil] at *
    go_wp2_with fail
    refine wp_loop_rounds 3 ?_
    rw [rounds_succ]
    go_wp2_with fail
    refine (hD _).mono ?_
    rintro e w2 ⟨rfl, rfl⟩
    go_wp2_with fail
    rw [rounds_succ]
    go_wp2_with fail
    refine (hE _).mono ?_
    rintro e w3 ⟨rfl, rfl⟩
    go_wp2_with fail
    rw [rounds_succ]
    go_wp2_with fail
    refine (hF _).mono ?_
    rintro e w4 ⟨rfl, rfl⟩
    go_wp2
    go_ret2
    exact ⟨rfl, (hB.alloc (Below.size hB) _).alloc (by have := Below.size hB; simp; omega) _⟩
set_option maxHeartbeats 1000000 in
theorem off3_yes (s r : ByteArray) (g : Bool) (w : World) (hs : s.size ≤ 8000) (hm : (s.toList == [45]) = false) (hg : Sign s r g) {a b c : ByteArray} (hp : parts r = [a, b, c]) (ha : a.size ≤ 3) (hd : digs a = true) (hb : twB b = true) (hc2 : twB c = true) :
    Calls Try.prog 19 #[.string s] w fun e w' => e = .returned (.tuple #[.int .i64 (if g = true then - (drN a * 3600 + drN b * 60 + drN c) else drN a * 3600 + drN b * 60 + drN c), .bool (decide (drN a * 3600 + drN b * 60 + drN c ≤ 604800))]) ∧ Below w.heap.size w w' := by
  have hrs : r.size ≤ s.size := by rcases hg with ⟨_, _, rfl⟩ | ⟨_, _, rfl⟩ | ⟨_, _, rfl⟩ <;> simp [ByteArray.size_extract]
  have hS := fun w => spec_l01Split r w (by omega)
  have hle : ∀ p ∈ parts r, p.size ≤ 8000 := fun p hp => by have := parts_le p hp; omega
  have hD := fun w => spec_l01DigitsM a w (by omega)
  have e1 := ldM_t (s := a) (by omega) hd
  have e2 := (drN_bd a (by omega)).2
  rw [e1.1] at hD
  have e3 := e1.2
  clear e1
  generalize drN a = n at *
  have hE := fun w => spec_l01DigitsM b w (by have := (twB_t hb).1; omega)
  obtain ⟨xb, yb, zb, ub⟩ := tw_yes hb
  rw [xb] at hE
  generalize drN b = m at *
  have hF := fun w => spec_l01DigitsM c w (by have := (twB_t hc2).1; omega)
  obtain ⟨xc, yc, zc, uc⟩ := tw_yes hc2
  rw [xc] at hF
  generalize drN c = k at *
  have hI := fun (m : Int) (w : World) => spec_l01Is_any m w
  rcases hg with ⟨rfl, ⟨h0, hc⟩, hr⟩ | ⟨rfl, ⟨h0, hc⟩, hr⟩ | ⟨rfl, h0, hr⟩
  · have hc' : ((s[0].toNat : Int) == 45) = true := by rw [byteAt_eq s 0 h0, hc]; rfl
    clear hc hle
    have hr' := hr
    rw [hr] at hS
    clear hr
    rw [hr'] at hp
    rw [hp] at hS
    clear hr' hrs
    go_enter Try.func19, Try.ntmps19
    go_wp2_with fail
    refine (hS _).mono ?_
    rintro e w1 ⟨v, rfl, hown, hB⟩
    obtain ⟨q, cap, rfl, hq, hql⟩ := hown.form (by simp)
    have c0 := row_cells hown (j := 0) rfl
    have c1 := row_cells hown (j := 1) rfl
    have c2 := row_cells hown (j := 2) rfl
    simp only [List.length_cons, List.length_nil] at *
    go_wp2_with fail
    refine wp_loop_rounds 4 ?_
    rw [rounds_succ]
    go_wp2_with fail
    refine (hD _).mono ?_
    rintro e w2 ⟨rfl, rfl⟩
    go_wp2_with fail
    rw [rounds_succ]
    go_wp2_with fail
    refine (hE _).mono ?_
    rintro e w3 ⟨rfl, rfl⟩
    go_wp2_with fail
    rw [rounds_succ]
    go_wp2_with fail
    refine (hF _).mono ?_
    rintro e w4 ⟨rfl, rfl⟩
    go_wp2_with fail
    rw [rounds_succ]
    go_wp2_with fail
    refine (hI _ _).mono ?_
    rintro e w9 ⟨rfl, rfl⟩
    go_wp2
    go_ret2
    exact ⟨by simp <;> omega, ((hB.alloc (Below.size hB) _).alloc (by have := Below.size hB; simp; omega) _).alloc (by have := Below.size hB; simp; omega) _⟩
  · have hc' : ((s[0].toNat : Int) == 45) = false := by rw [byteAt_eq s 0 h0]; simpa using hc
    clear hc hle
    have hr' := hr
    rw [hr] at hS
    clear hr
    rw [hr'] at hp
    rw [hp] at hS
    clear hr' hrs
    go_enter Try.func19, Try.ntmps19
    go_wp2_with fail
    refine (hS _).mono ?_
    rintro e w1 ⟨v, rfl, hown, hB⟩
    obtain ⟨q, cap, rfl, hq, hql⟩ := hown.form (by simp)
    have c0 := row_cells hown (j := 0) rfl
    have c1 := row_cells hown (j := 1) rfl
    have c2 := row_cells hown (j := 2) rfl
    simp only [List.length_cons, List.length_nil] at *
    go_wp2_with fail
    refine wp_loop_rounds 4 ?_
    rw [rounds_succ]
    go_wp2_with fail
    refine (hD _).mono ?_
    rintro e w2 ⟨rfl, rfl⟩
    go_wp2_with fail
    rw [rounds_succ]
    go_wp2_with fail
    refine (hE _).mono ?_
    rintro e w3 ⟨rfl, rfl⟩
    go_wp2_with fail
    rw [rounds_succ]
    go_wp2_with fail
    refine (hF _).mono ?_
    rintro e w4 ⟨rfl, rfl⟩
    go_wp2_with fail
    rw [rounds_succ]
    go_wp2_with fail
    refine (hI _ _).mono ?_
    rintro e w9 ⟨rfl, rfl⟩
    go_wp2
    go_ret2
    exact ⟨by simp <;> omega, ((hB.alloc (Below.size hB) _).alloc (by have := Below.size hB; simp; omega) _).alloc (by have := Below.size hB; simp; omega) _⟩
  · clear hle
    have hr' := hr
    rw [hr] at hS
    clear hr
    rw [hr'] at hp
    rw [hp] at hS
    clear hr' hrs
    go_enter Try.func19, Try.ntmps19
    go_wp2_with fail
    refine (hS _).mono ?_
    rintro e w1 ⟨v, rfl, hown, hB⟩
    obtain ⟨q, cap, rfl, hq, hql⟩ := hown.form (by simp)
    have c0 := row_cells hown (j := 0) rfl
    have c1 := row_cells hown (j := 1) rfl
    have c2 := row_cells hown (j := 2) rfl
    simp only [List.length_cons, List.length_nil] at *
    go_wp2_with fail
    refine wp_loop_rounds 4 ?_
    rw [rounds_succ]
    go_wp2_with fail
    refine (hD _).mono ?_
    rintro e w2 ⟨rfl, rfl⟩
    go_wp2_with fail
    rw [rounds_succ]
    go_wp2_with fail
    refine (hE _).mono ?_
    rintro e w3 ⟨rfl, rfl⟩
    go_wp2_with fail
    rw [rounds_succ]
    go_wp2_with fail
    refine (hF _).mono ?_
    rintro e w4 ⟨rfl, rfl⟩
    go_wp2_with fail
    rw [rounds_succ]
    go_wp2_with fail
    refine (hI _ _).mono ?_
    rintro e w9 ⟨rfl, rfl⟩
    go_wp2
    go_ret2
    exact ⟨by simp <;> omega, ((hB.alloc (Below.size hB) _).alloc (by have := Below.size hB; simp; omega) _).alloc (by have := Below.size hB; simp; omega) _⟩
end Go.Proofs.Ytibhbpgnjikjnaa
