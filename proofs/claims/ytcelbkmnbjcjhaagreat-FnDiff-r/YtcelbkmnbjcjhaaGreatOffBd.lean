/- Packed: Offset4 Offset5. -/
import Derived.Test.YtcelbkmnbjcjhaaGreatOffCd
namespace Go.Proofs.YtcelbkmnbjcjhaaGreat
open Go.RowKit
set_option maxHeartbeats 1000000 in
theorem off3_no0 (s r : ByteArray) (g : Bool) (w : World) (hs : s.size ≤ 8000) (hm : (s.toList == [45]) = false) (hg : Sign s r g) {a b c : ByteArray} (hp : parts r = [a, b, c]) (ha : a.size ≤ 3) (hd : digs a = true) (hb : twB b = true) (hc2 : ldM c < 0) :
  Calls Tryz.prog 90 #[.string s] w fun e w' => e = .returned (.tuple #[.int .i64 0, .bool false]) ∧ Below w.heap.size w w' := by
 have hrs : r.size ≤ s.size := by rcases hg with ⟨_, _, rfl⟩ | ⟨_, _, rfl⟩ | ⟨_, _, rfl⟩ <;> simp [ByteArray.size_extract]
 have hS := fun w => spec_l01Split r w (by omega)
 have hle : ∀ p ∈ parts r, p.size ≤ 8000 := fun p hp => by have := parts_le p hp; omega
 have hD := fun w => spec_l01DigitsM a w (by omega)
 have e1 := ldM_t (s := a) (by omega) hd
 have e2 := (drN_bd a (by omega)).2
 rw [e1.1] at hD
 have e3 := e1.2
 clear e1
 generalize drN a = n at *
 have hE := fun w => spec_l01DigitsM b w (by have := (twB_t hb).1; omega)
 obtain ⟨xb, yb, zb, ub⟩ := tw_yes hb
 rw [xb] at hE
 generalize drN b = m at *
 have hzc : c.size ≤ 8000 := hle c (by rw [hp]; simp)
 have hF := fun w => spec_l01DigitsM c w (by omega)
 have hmc := ldM_bd c
 generalize ldM c = k at *
 rcases hg with ⟨rfl, ⟨h0, hc⟩, hr⟩ | ⟨rfl, ⟨h0, hc⟩, hr⟩ | ⟨rfl, h0, hr⟩
 ·
  have hc' : ((s[0].toNat : Int) == 45) = true := by rw [byteAt_eq s 0 h0, hc]; rfl
  clear hc hle
  have hr' := hr
  rw [hr] at hS
  clear hr
  rw [hr'] at hp
  rw [hp] at hS
  clear hr' hrs
  go_enter Tryz.func90, Tryz.ntmps90
  go_wp2_with fail
  refine (hS _).mono ?_
  rintro e w1 ⟨v, rfl, hown, hB⟩
  obtain ⟨q, cap, rfl, hq, hql⟩ := hown.form (by simp)
  have c0 := row_cells hown (j := 0) rfl
  have c1 := row_cells hown (j := 1) rfl
  have c2 := row_cells hown (j := 2) rfl
  simp only [List.length_cons, List.length_nil] at *
  go_wp2_with fail
  refine wp_loop_rounds 3 ?_
  rw [rounds_succ]
  go_wp2_with fail
  refine (hD _).mono ?_
  rintro e w2 ⟨rfl, rfl⟩
  go_wp2_with fail
  rw [rounds_succ]
  go_wp2_with fail
  refine (hE _).mono ?_
  rintro e w3 ⟨rfl, rfl⟩
  go_wp2_with fail
  rw [rounds_succ]
  go_wp2_with fail
  refine (hF _).mono ?_
  rintro e w4 ⟨rfl, rfl⟩
  go_wp2
  go_ret2
  exact ⟨rfl, (hB.alloc (Below.size hB) _).alloc (by have := Below.size hB; simp; omega) _⟩
 ·
  have hc' : ((s[0].toNat : Int) == 45) = false := by rw [byteAt_eq s 0 h0]; simpa using hc
  clear hc hle
  have hr' := hr
  rw [hr] at hS
  clear hr
  rw [hr'] at hp
  rw [hp] at hS
  clear hr' hrs
  go_enter Tryz.func90, Tryz.ntmps90
  go_wp2_with fail
  refine (hS _).mono ?_
  rintro e w1 ⟨v, rfl, hown, hB⟩
  obtain ⟨q, cap, rfl, hq, hql⟩ := hown.form (by simp)
  have c0 := row_cells hown (j := 0) rfl
  have c1 := row_cells hown (j := 1) rfl
  have c2 := row_cells hown (j := 2) rfl
  simp only [List.length_cons, List.length_nil] at *
  go_wp2_with fail
  refine wp_loop_rounds 3 ?_
  rw [rounds_succ]
  go_wp2_with fail
  refine (hD _).mono ?_
  rintro e w2 ⟨rfl, rfl⟩
  go_wp2_with fail
  rw [rounds_succ]
  go_wp2_with fail
  refine (hE _).mono ?_
  rintro e w3 ⟨rfl, rfl⟩
  go_wp2_with fail
  rw [rounds_succ]
  go_wp2_with fail
  refine (hF _).mono ?_
  rintro e w4 ⟨rfl, rfl⟩
  go_wp2
  go_ret2
  exact ⟨rfl, (hB.alloc (Below.size hB) _).alloc (by have := Below.size hB; simp; omega) _⟩
 ·
  clear hle
  have hr' := hr
  rw [hr] at hS
  clear hr
  rw [hr'] at hp
  rw [hp] at hS
  clear hr' hrs
  go_enter Tryz.func90, Tryz.ntmps90
  go_wp2_with fail
  refine (hS _).mono ?_
  rintro e w1 ⟨v, rfl, hown, hB⟩
  obtain ⟨q, cap, rfl, hq, hql⟩ := hown.form (by simp)
  have c0 := row_cells hown (j := 0) rfl
  have c1 := row_cells hown (j := 1) rfl
  have c2 := row_cells hown (j := 2) rfl
  simp only [List.length_cons, List.length_nil] at *
  go_wp2_with fail
  refine wp_loop_rounds 3 ?_
  rw [rounds_succ]
  go_wp2_with fail
  refine (hD _).mono ?_
  rintro e w2 ⟨rfl, rfl⟩
  go_wp2_with fail
  rw [rounds_succ]
  go_wp2_with fail
  refine (hE _).mono ?_
  rintro e w3 ⟨rfl, rfl⟩
  go_wp2_with fail
  rw [rounds_succ]
  go_wp2_with fail
  refine (hF _).mono ?_
  rintro e w4 ⟨rfl, rfl⟩
  go_wp2
  go_ret2
  exact ⟨rfl, (hB.alloc (Below.size hB) _).alloc (by have := Below.size hB; simp; omega) _⟩
set_option maxHeartbeats 1000000 in
theorem off3_no1 (s r : ByteArray) (g : Bool) (w : World) (hs : s.size ≤ 8000) (hm : (s.toList == [45]) = false) (hg : Sign s r g) {a b c : ByteArray} (hp : parts r = [a, b, c]) (ha : a.size ≤ 3) (hd : digs a = true) (hb : twB b = true) (hc2 : 0 ≤ ldM c ∧ c.size ≠ 2) :
  Calls Tryz.prog 90 #[.string s] w fun e w' => e = .returned (.tuple #[.int .i64 0, .bool false]) ∧ Below w.heap.size w w' := by
 have hrs : r.size ≤ s.size := by rcases hg with ⟨_, _, rfl⟩ | ⟨_, _, rfl⟩ | ⟨_, _, rfl⟩ <;> simp [ByteArray.size_extract]
 have hS := fun w => spec_l01Split r w (by omega)
 have hle : ∀ p ∈ parts r, p.size ≤ 8000 := fun p hp => by have := parts_le p hp; omega
 have hD := fun w => spec_l01DigitsM a w (by omega)
 have e1 := ldM_t (s := a) (by omega) hd
 have e2 := (drN_bd a (by omega)).2
 rw [e1.1] at hD
 have e3 := e1.2
 clear e1
 generalize drN a = n at *
 have hE := fun w => spec_l01DigitsM b w (by have := (twB_t hb).1; omega)
 obtain ⟨xb, yb, zb, ub⟩ := tw_yes hb
 rw [xb] at hE
 generalize drN b = m at *
 have hzc : c.size ≤ 8000 := hle c (by rw [hp]; simp)
 have hF := fun w => spec_l01DigitsM c w (by omega)
 have hmc := ldM_bd c
 generalize ldM c = k at *
 rcases hg with ⟨rfl, ⟨h0, hc⟩, hr⟩ | ⟨rfl, ⟨h0, hc⟩, hr⟩ | ⟨rfl, h0, hr⟩
 ·
  have hc' : ((s[0].toNat : Int) == 45) = true := by rw [byteAt_eq s 0 h0, hc]; rfl
  clear hc hle
  have hr' := hr
  rw [hr] at hS
  clear hr
  rw [hr'] at hp
  rw [hp] at hS
  clear hr' hrs
  go_enter Tryz.func90, Tryz.ntmps90
  go_wp2_with fail
  refine (hS _).mono ?_
  rintro e w1 ⟨v, rfl, hown, hB⟩
  obtain ⟨q, cap, rfl, hq, hql⟩ := hown.form (by simp)
  have c0 := row_cells hown (j := 0) rfl
  have c1 := row_cells hown (j := 1) rfl
  have c2 := row_cells hown (j := 2) rfl
  simp only [List.length_cons, List.length_nil] at *
  go_wp2_with fail
  refine wp_loop_rounds 3 ?_
  rw [rounds_succ]
  go_wp2_with fail
  refine (hD _).mono ?_
  rintro e w2 ⟨rfl, rfl⟩
  go_wp2_with fail
  rw [rounds_succ]
  go_wp2_with fail
  refine (hE _).mono ?_
  rintro e w3 ⟨rfl, rfl⟩
  go_wp2_with fail
  rw [rounds_succ]
  go_wp2_with fail
  refine (hF _).mono ?_
  rintro e w4 ⟨rfl, rfl⟩
  go_wp2
  go_ret2
  exact ⟨rfl, (hB.alloc (Below.size hB) _).alloc (by have := Below.size hB; simp; omega) _⟩
 ·
  have hc' : ((s[0].toNat : Int) == 45) = false := by rw [byteAt_eq s 0 h0]; simpa using hc
  clear hc hle
  have hr' := hr
  rw [hr] at hS
  clear hr
  rw [hr'] at hp
  rw [hp] at hS
  clear hr' hrs
  go_enter Tryz.func90, Tryz.ntmps90
  go_wp2_with fail
  refine (hS _).mono ?_
  rintro e w1 ⟨v, rfl, hown, hB⟩
  obtain ⟨q, cap, rfl, hq, hql⟩ := hown.form (by simp)
  have c0 := row_cells hown (j := 0) rfl
  have c1 := row_cells hown (j := 1) rfl
  have c2 := row_cells hown (j := 2) rfl
  simp only [List.length_cons, List.length_nil] at *
  go_wp2_with fail
  refine wp_loop_rounds 3 ?_
  rw [rounds_succ]
  go_wp2_with fail
  refine (hD _).mono ?_
  rintro e w2 ⟨rfl, rfl⟩
  go_wp2_with fail
  rw [rounds_succ]
  go_wp2_with fail
  refine (hE _).mono ?_
  rintro e w3 ⟨rfl, rfl⟩
  go_wp2_with fail
  rw [rounds_succ]
  go_wp2_with fail
  refine (hF _).mono ?_
  rintro e w4 ⟨rfl, rfl⟩
  go_wp2
  go_ret2
  exact ⟨rfl, (hB.alloc (Below.size hB) _).alloc (by have := Below.size hB; simp; omega) _⟩
 ·
  clear hle
  have hr' := hr
  rw [hr] at hS
  clear hr
  rw [hr'] at hp
  rw [hp] at hS
  clear hr' hrs
  go_enter Tryz.func90, Tryz.ntmps90
  go_wp2_with fail
  refine (hS _).mono ?_
  rintro e w1 ⟨v, rfl, hown, hB⟩
  obtain ⟨q, cap, rfl, hq, hql⟩ := hown.form (by simp)
  have c0 := row_cells hown (j := 0) rfl
  have c1 := row_cells hown (j := 1) rfl
  have c2 := row_cells hown (j := 2) rfl
  simp only [List.length_cons, List.length_nil] at *
  go_wp2_with fail
  refine wp_loop_rounds 3 ?_
  rw [rounds_succ]
  go_wp2_with fail
  refine (hD _).mono ?_
  rintro e w2 ⟨rfl, rfl⟩
  go_wp2_with fail
  rw [rounds_succ]
  go_wp2_with fail
  refine (hE _).mono ?_
  rintro e w3 ⟨rfl, rfl⟩
  go_wp2_with fail
  rw [rounds_succ]
  go_wp2_with fail
  refine (hF _).mono ?_
  rintro e w4 ⟨rfl, rfl⟩
  go_wp2
  go_ret2
  exact ⟨rfl, (hB.alloc (Below.size hB) _).alloc (by have := Below.size hB; simp; omega) _⟩
set_option maxHeartbeats 1000000 in
theorem off3_no2 (s r : ByteArray) (g : Bool) (w : World) (hs : s.size ≤ 8000) (hm : (s.toList == [45]) = false) (hg : Sign s r g) {a b c : ByteArray} (hp : parts r = [a, b, c]) (ha : a.size ≤ 3) (hd : digs a = true) (hb : twB b = true) (hc2 : 0 ≤ ldM c ∧ c.size = 2 ∧ 59 < ldM c) :
  Calls Tryz.prog 90 #[.string s] w fun e w' => e = .returned (.tuple #[.int .i64 0, .bool false]) ∧ Below w.heap.size w w' := by
 have hrs : r.size ≤ s.size := by rcases hg with ⟨_, _, rfl⟩ | ⟨_, _, rfl⟩ | ⟨_, _, rfl⟩ <;> simp [ByteArray.size_extract]
 have hS := fun w => spec_l01Split r w (by omega)
 have hle : ∀ p ∈ parts r, p.size ≤ 8000 := fun p hp => by have := parts_le p hp; omega
 have hD := fun w => spec_l01DigitsM a w (by omega)
 have e1 := ldM_t (s := a) (by omega) hd
 have e2 := (drN_bd a (by omega)).2
 rw [e1.1] at hD
 have e3 := e1.2
 clear e1
 generalize drN a = n at *
 have hE := fun w => spec_l01DigitsM b w (by have := (twB_t hb).1; omega)
 obtain ⟨xb, yb, zb, ub⟩ := tw_yes hb
 rw [xb] at hE
 generalize drN b = m at *
 have hzc : c.size ≤ 8000 := hle c (by rw [hp]; simp)
 have hF := fun w => spec_l01DigitsM c w (by omega)
 have hmc := ldM_bd c
 generalize ldM c = k at *
 rcases hg with ⟨rfl, ⟨h0, hc⟩, hr⟩ | ⟨rfl, ⟨h0, hc⟩, hr⟩ | ⟨rfl, h0, hr⟩
 ·
  have hc' : ((s[0].toNat : Int) == 45) = true := by rw [byteAt_eq s 0 h0, hc]; rfl
  clear hc hle
  have hr' := hr
  rw [hr] at hS
  clear hr
  rw [hr'] at hp
  rw [hp] at hS
  clear hr' hrs
  go_enter Tryz.func90, Tryz.ntmps90
  go_wp2_with fail
  refine (hS _).mono ?_
  rintro e w1 ⟨v, rfl, hown, hB⟩
  obtain ⟨q, cap, rfl, hq, hql⟩ := hown.form (by simp)
  have c0 := row_cells hown (j := 0) rfl
  have c1 := row_cells hown (j := 1) rfl
  have c2 := row_cells hown (j := 2) rfl
  simp only [List.length_cons, List.length_nil] at *
  go_wp2_with fail
  refine wp_loop_rounds 3 ?_
  rw [rounds_succ]
  go_wp2_with fail
  refine (hD _).mono ?_
  rintro e w2 ⟨rfl, rfl⟩
  go_wp2_with fail
  rw [rounds_succ]
  go_wp2_with fail
  refine (hE _).mono ?_
  rintro e w3 ⟨rfl, rfl⟩
  go_wp2_with fail
  rw [rounds_succ]
  go_wp2_with fail
  refine (hF _).mono ?_
  rintro e w4 ⟨rfl, rfl⟩
  go_wp2
  go_ret2
  exact ⟨rfl, (hB.alloc (Below.size hB) _).alloc (by have := Below.size hB; simp; omega) _⟩
 ·
  have hc' : ((s[0].toNat : Int) == 45) = false := by rw [byteAt_eq s 0 h0]; simpa using hc
  clear hc hle
  have hr' := hr
  rw [hr] at hS
  clear hr
  rw [hr'] at hp
  rw [hp] at hS
  clear hr' hrs
  go_enter Tryz.func90, Tryz.ntmps90
  go_wp2_with fail
  refine (hS _).mono ?_
  rintro e w1 ⟨v, rfl, hown, hB⟩
  obtain ⟨q, cap, rfl, hq, hql⟩ := hown.form (by simp)
  have c0 := row_cells hown (j := 0) rfl
  have c1 := row_cells hown (j := 1) rfl
  have c2 := row_cells hown (j := 2) rfl
  simp only [List.length_cons, List.length_nil] at *
  go_wp2_with fail
  refine wp_loop_rounds 3 ?_
  rw [rounds_succ]
  go_wp2_with fail
  refine (hD _).mono ?_
  rintro e w2 ⟨rfl, rfl⟩
  go_wp2_with fail
  rw [rounds_succ]
  go_wp2_with fail
  refine (hE _).mono ?_
  rintro e w3 ⟨rfl, rfl⟩
  go_wp2_with fail
  rw [rounds_succ]
  go_wp2_with fail
  refine (hF _).mono ?_
  rintro e w4 ⟨rfl, rfl⟩
  go_wp2
  go_ret2
  exact ⟨rfl, (hB.alloc (Below.size hB) _).alloc (by have := Below.size hB; simp; omega) _⟩
 ·
  clear hle
  have hr' := hr
  rw [hr] at hS
  clear hr
  rw [hr'] at hp
  rw [hp] at hS
  clear hr' hrs
  go_enter Tryz.func90, Tryz.ntmps90
  go_wp2_with fail
  refine (hS _).mono ?_
  rintro e w1 ⟨v, rfl, hown, hB⟩
  obtain ⟨q, cap, rfl, hq, hql⟩ := hown.form (by simp)
  have c0 := row_cells hown (j := 0) rfl
  have c1 := row_cells hown (j := 1) rfl
  have c2 := row_cells hown (j := 2) rfl
  simp only [List.length_cons, List.length_nil] at *
  go_wp2_with fail
  refine wp_loop_rounds 3 ?_
  rw [rounds_succ]
  go_wp2_with fail
  refine (hD _).mono ?_
  rintro e w2 ⟨rfl, rfl⟩
  go_wp2_with fail
  rw [rounds_succ]
  go_wp2_with fail
  refine (hE _).mono ?_
  rintro e w3 ⟨rfl, rfl⟩
  go_wp2_with fail
  rw [rounds_succ]
  go_wp2_with fail
  refine (hF _).mono ?_
  rintro e w4 ⟨rfl, rfl⟩
  go_wp2
  go_ret2
  exact ⟨rfl, (hB.alloc (Below.size hB) _).alloc (by have := Below.size hB; simp; omega) _⟩
set_option maxHeartbeats 1000000 in
theorem off3_yes (s r : ByteArray) (g : Bool) (w : World) (hs : s.size ≤ 8000) (hm : (s.toList == [45]) = false) (hg : Sign s r g) {a b c : ByteArray} (hp : parts r = [a, b, c]) (ha : a.size ≤ 3) (hd : digs a = true) (hb : twB b = true) (hc2 : twB c = true) :
  Calls Tryz.prog 90 #[.string s] w fun e w' => e = .returned (.tuple #[.int .i64 (if g = true then - (drN a * 3600 + drN b * 60 + drN c) else drN a * 3600 + drN b * 60 + drN c), .bool (decide (drN a * 3600 + drN b * 60 + drN c ≤ 604800))]) ∧ Below w.heap.size w w' := by
 have hrs : r.size ≤ s.size := by rcases hg with ⟨_, _, rfl⟩ | ⟨_, _, rfl⟩ | ⟨_, _, rfl⟩ <;> simp [ByteArray.size_extract]
 have hS := fun w => spec_l01Split r w (by omega)
 have hle : ∀ p ∈ parts r, p.size ≤ 8000 := fun p hp => by have := parts_le p hp; omega
 have hD := fun w => spec_l01DigitsM a w (by omega)
 have e1 := ldM_t (s := a) (by omega) hd
 have e2 := (drN_bd a (by omega)).2
 rw [e1.1] at hD
 have e3 := e1.2
 clear e1
 generalize drN a = n at *
 have hE := fun w => spec_l01DigitsM b w (by have := (twB_t hb).1; omega)
 obtain ⟨xb, yb, zb, ub⟩ := tw_yes hb
 rw [xb] at hE
 generalize drN b = m at *
 have hF := fun w => spec_l01DigitsM c w (by have := (twB_t hc2).1; omega)
 obtain ⟨xc, yc, zc, uc⟩ := tw_yes hc2
 rw [xc] at hF
 generalize drN c = k at *
 have hI := fun (m : Int) (w : World) => spec_l01Is_any m w
 rcases hg with ⟨rfl, ⟨h0, hc⟩, hr⟩ | ⟨rfl, ⟨h0, hc⟩, hr⟩ | ⟨rfl, h0, hr⟩
 ·
  have hc' : ((s[0].toNat : Int) == 45) = true := by rw [byteAt_eq s 0 h0, hc]; rfl
  clear hc hle
  have hr' := hr
  rw [hr] at hS
  clear hr
  rw [hr'] at hp
  rw [hp] at hS
  clear hr' hrs
  go_enter Tryz.func90, Tryz.ntmps90
  go_wp2_with fail
  refine (hS _).mono ?_
  rintro e w1 ⟨v, rfl, hown, hB⟩
  obtain ⟨q, cap, rfl, hq, hql⟩ := hown.form (by simp)
  have c0 := row_cells hown (j := 0) rfl
  have c1 := row_cells hown (j := 1) rfl
  have c2 := row_cells hown (j := 2) rfl
  simp only [List.length_cons, List.length_nil] at *
  go_wp2_with fail
  refine wp_loop_rounds 4 ?_
  rw [rounds_succ]
  go_wp2_with fail
  refine (hD _).mono ?_
  rintro e w2 ⟨rfl, rfl⟩
  go_wp2_with fail
  rw [rounds_succ]
  go_wp2_with fail
  refine (hE _).mono ?_
  rintro e w3 ⟨rfl, rfl⟩
  go_wp2_with fail
  rw [rounds_succ]
  go_wp2_with fail
  refine (hF _).mono ?_
  rintro e w4 ⟨rfl, rfl⟩
  go_wp2_with fail
  rw [rounds_succ]
  go_wp2_with fail
  refine (hI _ _).mono ?_
  rintro e w9 ⟨rfl, rfl⟩
  go_wp2
  go_ret2
  exact ⟨by simp <;> omega, ((hB.alloc (Below.size hB) _).alloc (by have := Below.size hB; simp; omega) _).alloc (by have := Below.size hB; simp; omega) _⟩
 ·
  have hc' : ((s[0].toNat : Int) == 45) = false := by rw [byteAt_eq s 0 h0]; simpa using hc
  clear hc hle
  have hr' := hr
  rw [hr] at hS
  clear hr
  rw [hr'] at hp
  rw [hp] at hS
  clear hr' hrs
  go_enter Tryz.func90, Tryz.ntmps90
  go_wp2_with fail
  refine (hS _).mono ?_
  rintro e w1 ⟨v, rfl, hown, hB⟩
  obtain ⟨q, cap, rfl, hq, hql⟩ := hown.form (by simp)
  have c0 := row_cells hown (j := 0) rfl
  have c1 := row_cells hown (j := 1) rfl
  have c2 := row_cells hown (j := 2) rfl
  simp only [List.length_cons, List.length_nil] at *
  go_wp2_with fail
  refine wp_loop_rounds 4 ?_
  rw [rounds_succ]
  go_wp2_with fail
  refine (hD _).mono ?_
  rintro e w2 ⟨rfl, rfl⟩
  go_wp2_with fail
  rw [rounds_succ]
  go_wp2_with fail
  refine (hE _).mono ?_
  rintro e w3 ⟨rfl, rfl⟩
  go_wp2_with fail
  rw [rounds_succ]
  go_wp2_with fail
  refine (hF _).mono ?_
  rintro e w4 ⟨rfl, rfl⟩
  go_wp2_with fail
  rw [rounds_succ]
  go_wp2_with fail
  refine (hI _ _).mono ?_
  rintro e w9 ⟨rfl, rfl⟩
  go_wp2
  go_ret2
  exact ⟨by simp <;> omega, ((hB.alloc (Below.size hB) _).alloc (by have := Below.size hB; simp; omega) _).alloc (by have := Below.size hB; simp; omega) _⟩
 ·
  clear hle
  have hr' := hr
  rw [hr] at hS
  clear hr
  rw [hr'] at hp
  rw [hp] at hS
  clear hr' hrs
  go_enter Tryz.func90, Tryz.ntmps90
  go_wp2_with fail
  refine (hS _).mono ?_
  rintro e w1 ⟨v, rfl, hown, hB⟩
  obtain ⟨q, cap, rfl, hq, hql⟩ := hown.form (by simp)
  have c0 := row_cells hown (j := 0) rfl
  have c1 := row_cells hown (j := 1) rfl
  have c2 := row_cells hown (j := 2) rfl
  simp only [List.length_cons, List.length_nil] at *
  go_wp2_with fail
  refine wp_loop_rounds 4 ?_
  rw [rounds_succ]
  go_wp2_with fail
  refine (hD _).mono ?_
  rintro e w2 ⟨rfl, rfl⟩
  go_wp2_with fail
  rw [rounds_succ]
  go_wp2_with fail
  refine (hE _).mono ?_
  rintro e w3 ⟨rfl, rfl⟩
  go_wp2_with fail
  rw [rounds_succ]
  go_wp2_with fail
  refine (hF _).mono ?_
  rintro e w4 ⟨rfl, rfl⟩
  go_wp2_with fail
  rw [rounds_succ]
  go_wp2_with fail
  refine (hI _ _).mono ?_
  rintro e w9 ⟨rfl, rfl⟩
  go_wp2
  go_ret2
  exact ⟨by simp <;> omega, ((hB.alloc (Below.size hB) _).alloc (by have := Below.size hB; simp; omega) _).alloc (by have := Below.size hB; simp; omega) _⟩
end Go.Proofs.YtcelbkmnbjcjhaaGreat
namespace Go.Proofs.YtcelbkmnbjcjhaaGreat
open Go.RowKit

/-- is it an offset's text. -/
def okO (s : ByteArray) : Bool := minusB s || (rdB (restS s) && decide (rdN (restS s) ≤ 604800))
def sgN (g : Bool) (n : Int) : Int := if g = true then - n else n
theorem orN_yes {s : ByteArray} (hm : minusB s = false) (h : okO s = true) : rdB (restS s) = true ∧ orN s = sgN (negB s) (rdN (restS s)) := by
 unfold okO at h; unfold orN sgN
 rw [hm] at h ⊢
 simp at h
 rw [if_neg (by decide), if_pos h]
 exact ⟨h.1, rfl⟩
/-- by the parts. -/
theorem okO_parts {s : ByteArray} (hm : minusB s = false) : okO s = (pB (parts (restS s)) && decide (pN (parts (restS s)) ≤ 604800)) := by
 unfold okO
 rw [hm]
 cases h : rdB (restS s)
 ·
  have : pB (parts (restS s)) = false := by
   cases hp : pB (parts (restS s))
   ·
    rfl
   ·
    rw [rd_complete hp] at h; cases h
  rw [this]; rfl
 ·
  have ⟨a, b⟩ := rd_sound h
  rw [a, b]; rfl
theorem orN_parts {s : ByteArray} (hm : minusB s = false) (h : okO s = true) : orN s = sgN (negB s) (pN (parts (restS s))) := by
 have ⟨a, b⟩ := orN_yes hm h
 rw [b, (rd_sound a).2]
set_option maxHeartbeats 400000 in
theorem off_minus (s : ByteArray) (w : World) (hm : (s.toList == [45]) = true) :
  Calls Tryz.prog 90 #[.string s] w fun e w' => e = .returned (.tuple #[.int .i64 0, .bool true]) ∧ Below w.heap.size w w' := by
 go_enter Tryz.func90, Tryz.ntmps90
 go_wp2
 go_ret2
 exact ⟨rfl, Below.refl _ _⟩
/-- the whole contract. -/
theorem spec_l01Offset (s : ByteArray) (w : World) (hs : s.size ≤ 8000) :
  Calls Tryz.prog 90 #[.string s] w fun e w' => (∃ n, e = .returned (.tuple #[.int .i64 n, .bool (okO s)]) ∧ (okO s = true → n = orN s)) ∧ Below w.heap.size w w' := by
 cases hm : minusB s
 ·
  have hm' : (s.toList == [45]) = false := hm
  have hg := sign_of s
  have NO : pB (parts (restS s)) = false → okO s = false := fun h => by rw [okO_parts hm, h]; rfl
  have fin0 : ∀ (e : Ending) (w' : World), pB (parts (restS s)) = false → (e = .returned (.tuple #[.int .i64 0, .bool false]) ∧ Below w.heap.size w w') → ((∃ n, e = .returned (.tuple #[.int .i64 n, .bool (okO s)]) ∧ (okO s = true → n = orN s)) ∧ Below w.heap.size w w') := by
   rintro e w' h ⟨rfl, hb⟩
   rw [NO h]
   exact ⟨⟨0, rfl, fun h => by cases h⟩, hb⟩
  have fin1 : ∀ (e : Ending) (w' : World) (n : Int), pB (parts (restS s)) = true → pN (parts (restS s)) = n → (e = .returned (.tuple #[.int .i64 (if negB s = true then - n else n), .bool (decide (n ≤ 604800))]) ∧ Below w.heap.size w w') → ((∃ n, e = .returned (.tuple #[.int .i64 n, .bool (okO s)]) ∧ (okO s = true → n = orN s)) ∧ Below w.heap.size w w') := by
   rintro e w' n h1 h2 ⟨rfl, hb⟩
   refine ⟨⟨sgN (negB s) n, ?_, fun h => ?_⟩, hb⟩
   ·
    rw [okO_parts hm, h1, h2]; rfl
   ·
    rw [orN_parts hm h, h2]
  by_cases h3 : 3 < (parts (restS s)).length
  ·
   refine (off_many s _ _ w hs hm' hg h3).mono fun e w' h => fin0 e w' ?_ h
   match hp : parts (restS s) with
   | [] => rfl
   | [a] => rw [hp] at h3; simp at h3
   | [a, b] => rw [hp] at h3; simp at h3
   | [a, b, c] => rw [hp] at h3; simp at h3
   | a :: b :: c :: d :: r => rfl
  ·
   have hne := parts_ne (restS s)
   obtain ⟨a, l, hp, hl⟩ : ∃ a l, parts (restS s) = a :: l ∧ l.length ≤ 2 := by
    match hp : parts (restS s) with
    | [] => rw [hp] at hne; simp at hne
    | a :: l => exact ⟨a, l, rfl, by rw [hp] at h3; simp at h3; omega⟩
   have HA : hdB a = false → pB (parts (restS s)) = false := fun h => by
    rw [hp]
    match l with
    | [] => exact h
    | [b] => simp [pB, h]
    | [b, c] => simp [pB, h]
    | b :: c :: d :: r => rfl
   by_cases ha : 3 < a.size
   ·
    exact (off_big s _ _ w hs hm' hg hp hl ha).mono fun e w' h => fin0 e w' (HA (by unfold hdB; simp; omega)) h
   cases hd : digs a
   ·
    exact (off_bad s _ _ w hs hm' hg hp hl (by omega) hd).mono fun e w' h => fin0 e w' (HA (by unfold hdB; simp [hd])) h
   have hA : hdB a = true := by unfold hdB; simp [hd]; omega
   match l, hp, hl with
   | [], hp, _ =>
    exact (off_one s _ _ w hs hm' hg hp (by omega) hd).mono fun e w' h => fin1 e w' _ (by rw [hp]; exact hA) (by rw [hp]; rfl) h
   | b :: l, hp, hl =>
    have hl1 : l.length ≤ 1 := by simp at hl; omega
    cases hb : twB b
    ·
     have hN : pB (parts (restS s)) = false := by
      rw [hp]
      match l with
      | [] => simp [pB, hb]
      | [c] => simp [pB, hb]
      | c :: d :: r => rfl
     rcases tw_no hb with q | q | q
     ·
      exact (off2_no0 s _ _ w hs hm' hg hp hl1 (by omega) hd q).mono fun e w' h => fin0 e w' hN h
     ·
      exact (off2_no1 s _ _ w hs hm' hg hp hl1 (by omega) hd q).mono fun e w' h => fin0 e w' hN h
     ·
      exact (off2_no2 s _ _ w hs hm' hg hp hl1 (by omega) hd q).mono fun e w' h => fin0 e w' hN h
    ·
     match l, hp, hl1 with
     | [], hp, _ =>
      exact (off2_yes s _ _ w hs hm' hg hp (by omega) hd hb).mono fun e w' h => fin1 e w' _ (by rw [hp]; simp [pB, hA, hb]) (by rw [hp]; rfl) h
     | [c], hp, _ =>
      cases hc : twB c
      ·
       have hN : pB (parts (restS s)) = false := by rw [hp]; simp [pB, hc]
       rcases tw_no hc with q | q | q
       ·
        exact (off3_no0 s _ _ w hs hm' hg hp (by omega) hd hb q).mono fun e w' h => fin0 e w' hN h
       ·
        exact (off3_no1 s _ _ w hs hm' hg hp (by omega) hd hb q).mono fun e w' h => fin0 e w' hN h
       ·
        exact (off3_no2 s _ _ w hs hm' hg hp (by omega) hd hb q).mono fun e w' h => fin0 e w' hN h
      ·
       exact (off3_yes s _ _ w hs hm' hg hp (by omega) hd hb hc).mono fun e w' h => fin1 e w' _ (by rw [hp]; simp [pB, hA, hb, hc]) (by rw [hp]; rfl) h
 ·
  refine (off_minus s w hm).mono fun e w' ⟨he, hb⟩ => ⟨⟨0, ?_, fun _ => ?_⟩, hb⟩
  ·
   rw [he]; unfold okO; rw [hm]; rfl
  ·
   unfold orN; rw [hm]; rfl
end Go.Proofs.YtcelbkmnbjcjhaaGreat
