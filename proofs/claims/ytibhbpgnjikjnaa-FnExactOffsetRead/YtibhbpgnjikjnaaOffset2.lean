/- The contract of the model's l01Offset: the walk. -/
import Derived.Test.YtibhbpgnjikjnaaOffset
import Derived.LoopN
namespace Go.Proofs.Ytibhbpgnjikjnaa
open Go.RowKit

/-- what stands in the row that the split hands back. -/
theorem row_cells {w : World} {base g n cap : Nat} {t : TypeId} {ps : List ByteArray} (h : w.ownsRow base t 1 (.slice (some ⟨g, 0, none⟩) n cap) n (ps.map Value.string)) {j : Nat} {p : ByteArray} (hj : ps[j]? = some p) : w.cell? ⟨g, j, none⟩ = some (.string p) := by
  have hl : ps.length = n := by have := h.1; simpa using this
  have hjn : j < n := by rw [← hl]; exact (List.getElem?_eq_some_iff.mp hj).1
  rw [h.cellAt j (by omega)]; simp [hj]
/-- the text behind its sign. -/
def Sign (s r : ByteArray) (g : Bool) : Prop := (g = true ∧ ((0 < s.size ∧ byteAt s 0 = 45) ∧ r = s.extract 1 s.size)) ∨ (g = false ∧ ((0 < s.size ∧ byteAt s 0 ≠ 45) ∧ r = s)) ∨ (g = false ∧ (s.size = 0 ∧ r = s))
theorem sign_of (s : ByteArray) : Sign s (restS s) (negB s) := by
  cases h : negB s
  · rw [pos_rest h]
    rw [neg_byte] at h
    have h' := of_decide_eq_false h
    by_cases h0 : 0 < s.size
    · exact .inr (.inl ⟨rfl, ⟨h0, fun e => h' ⟨h0, e⟩⟩, rfl⟩)
    · exact .inr (.inr ⟨rfl, by omega, rfl⟩)
  · have e := neg_rest h
    rw [neg_byte] at h
    exact .inl ⟨rfl, of_decide_eq_true h, e.symm⟩
theorem spec_l01Is_any (n : Int) (w : World) :
    Calls Try.prog 23 #[.int .i64 n, .int .i64 (-604800), .int .i64 604800] w fun e w' => e = .returned (.bool (decide (-604800 ≤ n ∧ n ≤ 604800))) ∧ w' = w := by
  by_cases h : -604800 ≤ n ∧ n ≤ 604800
  · rw [decide_eq_true h]; exact spec_l01Is_t n _ _ w h.1 h.2
  · rw [decide_eq_false h]; exact spec_l01Is_f n _ _ w (by omega)
set_option maxHeartbeats 400000 in
theorem off_many (s r : ByteArray) (g : Bool) (w : World) (hs : s.size ≤ 8000) (hm : (s.toList == [45]) = false) (hg : Sign s r g) (hp : 3 < (parts r).length) :
    Calls Try.prog 19 #[.string s] w fun e w' => e = .returned (.tuple #[.int .i64 0, .bool false]) ∧ Below w.heap.size w w' := by
  have hrs : r.size ≤ s.size := by rcases hg with ⟨_, _, rfl⟩ | ⟨_, _, rfl⟩ | ⟨_, _, rfl⟩ <;> simp [ByteArray.size_extract]
  have hS := fun w => spec_l01Split r w (by omega)
  have hle : ∀ p ∈ parts r, p.size ≤ 8000 := fun p hp => by have := parts_le p hp; omega
  have hp1 : (parts r).length ≤ 8001 := by have := scan_bd r r.size; unfold parts; simp; omega
  rcases hg with ⟨rfl, ⟨h0, hc⟩, hr⟩ | ⟨rfl, ⟨h0, hc⟩, hr⟩ | ⟨rfl, h0, hr⟩
  · have hc' : ((s[0].toNat : Int) == 45) = true := by rw [byteAt_eq s 0 h0, hc]; rfl
    clear hc hle
    have hr' := hr
    rw [hr] at hS
    clear hr
    rw [hr'] at hp hp1 hrs
    generalize hps : parts _ = ps at *
    clear hr' hrs
    go_enter Try.func19, Try.ntmps19
    go_wp2_with fail
    refine (hS _).mono ?_
    rintro e w1 ⟨v, rfl, hown, hB⟩
    obtain ⟨q, cap, rfl, hq, hql⟩ := hown.form (by omega)
    go_wp2
    go_ret2
    exact ⟨rfl, hB⟩
  · have hc' : ((s[0].toNat : Int) == 45) = false := by rw [byteAt_eq s 0 h0]; simpa using hc
    clear hc hle
    have hr' := hr
    rw [hr] at hS
    clear hr
    rw [hr'] at hp hp1 hrs
    generalize hps : parts _ = ps at *
    clear hr' hrs
    go_enter Try.func19, Try.ntmps19
    go_wp2_with fail
    refine (hS _).mono ?_
    rintro e w1 ⟨v, rfl, hown, hB⟩
    obtain ⟨q, cap, rfl, hq, hql⟩ := hown.form (by omega)
    go_wp2
    go_ret2
    exact ⟨rfl, hB⟩
  · clear hle
    have hr' := hr
    rw [hr] at hS
    clear hr
    rw [hr'] at hp hp1 hrs
    generalize hps : parts _ = ps at *
    clear hr' hrs
    go_enter Try.func19, Try.ntmps19
    go_wp2_with fail
    refine (hS _).mono ?_
    rintro e w1 ⟨v, rfl, hown, hB⟩
    obtain ⟨q, cap, rfl, hq, hql⟩ := hown.form (by omega)
    go_wp2
    go_ret2
    exact ⟨rfl, hB⟩
set_option maxHeartbeats 400000 in
theorem off_big (s r : ByteArray) (g : Bool) (w : World) (hs : s.size ≤ 8000) (hm : (s.toList == [45]) = false) (hg : Sign s r g) {a : ByteArray} {l : List ByteArray} (hp : parts r = a :: l) (hl : l.length ≤ 2) (ha : 3 < a.size) :
    Calls Try.prog 19 #[.string s] w fun e w' => e = .returned (.tuple #[.int .i64 0, .bool false]) ∧ Below w.heap.size w w' := by
  have hrs : r.size ≤ s.size := by rcases hg with ⟨_, _, rfl⟩ | ⟨_, _, rfl⟩ | ⟨_, _, rfl⟩ <;> simp [ByteArray.size_extract]
  have hS := fun w => spec_l01Split r w (by omega)
  have hle : ∀ p ∈ parts r, p.size ≤ 8000 := fun p hp => by have := parts_le p hp; omega
  have ha1 : a.size ≤ 8000 := hle a (by rw [hp]; simp)
  rcases hg with ⟨rfl, ⟨h0, hc⟩, hr⟩ | ⟨rfl, ⟨h0, hc⟩, hr⟩ | ⟨rfl, h0, hr⟩
  · have hc' : ((s[0].toNat : Int) == 45) = true := by rw [byteAt_eq s 0 h0, hc]; rfl
    clear hc hle
    have hr' := hr
    rw [hr] at hS
    clear hr
    rw [hr'] at hp
    rw [hp] at hS
    clear hr' hrs
    go_enter Try.func19, Try.ntmps19
    go_wp2_with fail
    refine (hS _).mono ?_
    rintro e w1 ⟨v, rfl, hown, hB⟩
    obtain ⟨q, cap, rfl, hq, hql⟩ := hown.form (by simp)
    have c0 := row_cells hown (j := 0) rfl
    simp only [List.length_cons] at *
    go_wp2
    go_ret2
    exact ⟨rfl, hB⟩
  · have hc' : ((s[0].toNat : Int) == 45) = false := by rw [byteAt_eq s 0 h0]; simpa using hc
    clear hc hle
    have hr' := hr
    rw [hr] at hS
    clear hr
    rw [hr'] at hp
    rw [hp] at hS
    clear hr' hrs
    go_enter Try.func19, Try.ntmps19
    go_wp2_with fail
    refine (hS _).mono ?_
    rintro e w1 ⟨v, rfl, hown, hB⟩
    obtain ⟨q, cap, rfl, hq, hql⟩ := hown.form (by simp)
    have c0 := row_cells hown (j := 0) rfl
    simp only [List.length_cons] at *
    go_wp2
    go_ret2
    exact ⟨rfl, hB⟩
  · clear hle
    have hr' := hr
    rw [hr] at hS
    clear hr
    rw [hr'] at hp
    rw [hp] at hS
    clear hr' hrs
    go_enter Try.func19, Try.ntmps19
    go_wp2_with fail
    refine (hS _).mono ?_
    rintro e w1 ⟨v, rfl, hown, hB⟩
    obtain ⟨q, cap, rfl, hq, hql⟩ := hown.form (by simp)
    have c0 := row_cells hown (j := 0) rfl
    simp only [List.length_cons] at *
    go_wp2
    go_ret2
    exact ⟨rfl, hB⟩
set_option maxHeartbeats 400000 in
theorem off_bad (s r : ByteArray) (g : Bool) (w : World) (hs : s.size ≤ 8000) (hm : (s.toList == [45]) = false) (hg : Sign s r g) {a : ByteArray} {l : List ByteArray} (hp : parts r = a :: l) (hl : l.length ≤ 2) (ha : a.size ≤ 3) (hd : digs a = false) :
    Calls Try.prog 19 #[.string s] w fun e w' => e = .returned (.tuple #[.int .i64 0, .bool false]) ∧ Below w.heap.size w w' := by
  have hrs : r.size ≤ s.size := by rcases hg with ⟨_, _, rfl⟩ | ⟨_, _, rfl⟩ | ⟨_, _, rfl⟩ <;> simp [ByteArray.size_extract]
  have hS := fun w => spec_l01Split r w (by omega)
  have hle : ∀ p ∈ parts r, p.size ≤ 8000 := fun p hp => by have := parts_le p hp; omega
  have hD := fun w => spec_l01DigitsM a w (by omega)
  rw [ldM_f hd] at hD
  rcases hg with ⟨rfl, ⟨h0, hc⟩, hr⟩ | ⟨rfl, ⟨h0, hc⟩, hr⟩ | ⟨rfl, h0, hr⟩
  · have hc' : ((s[0].toNat : Int) == 45) = true := by rw [byteAt_eq s 0 h0, hc]; rfl
    clear hc hle
    have hr' := hr
    rw [hr] at hS
    clear hr
    rw [hr'] at hp
    rw [hp] at hS
    clear hr' hrs
    go_enter Try.func19, Try.ntmps19
    go_wp2_with fail
    refine (hS _).mono ?_
    rintro e w1 ⟨v, rfl, hown, hB⟩
    obtain ⟨q, cap, rfl, hq, hql⟩ := hown.form (by simp)
    have c0 := row_cells hown (j := 0) rfl
    simp only [List.length_cons] at *
    go_wp2_with fail
    refine wp_loop_rounds 1 ?_
    rw [rounds_succ]
    go_wp2_with fail
    refine (hD _).mono ?_
    rintro e w2 ⟨rfl, rfl⟩
    go_wp2
    go_ret2
    exact ⟨rfl, hB⟩
  · have hc' : ((s[0].toNat : Int) == 45) = false := by rw [byteAt_eq s 0 h0]; simpa using hc
    clear hc hle
    have hr' := hr
    rw [hr] at hS
    clear hr
    rw [hr'] at hp
    rw [hp] at hS
    clear hr' hrs
    go_enter Try.func19, Try.ntmps19
    go_wp2_with fail
    refine (hS _).mono ?_
    rintro e w1 ⟨v, rfl, hown, hB⟩
    obtain ⟨q, cap, rfl, hq, hql⟩ := hown.form (by simp)
    have c0 := row_cells hown (j := 0) rfl
    simp only [List.length_cons] at *
    go_wp2_with fail
    refine wp_loop_rounds 1 ?_
    rw [rounds_succ]
    go_wp2_with fail
    refine (hD _).mono ?_
    rintro e w2 ⟨rfl, rfl⟩
    go_wp2
    go_ret2
    exact ⟨rfl, hB⟩
  · clear hle
    have hr' := hr
    rw [hr] at hS
    clear hr
    rw [hr'] at hp
    rw [hp] at hS
    clear hr' hrs
    go_enter Try.func19, Try.ntmps19
    go_wp2_with fail
    refine (hS _).mono ?_
    rintro e w1 ⟨v, rfl, hown, hB⟩
    obtain ⟨q, cap, rfl, hq, hql⟩ := hown.form (by simp)
    have c0 := row_cells hown (j := 0) rfl
    simp only [List.length_cons] at *
    go_wp2_with fail
    refine wp_loop_rounds 1 ?_
    rw [rounds_succ]
    go_wp2_with fail
    refine (hD _).mono ?_
    rintro e w2 ⟨rfl, rfl⟩
    go_wp2
    go_ret2
    exact ⟨rfl, hB⟩
set_option maxHeartbeats 400000 in
theorem off_one (s r : ByteArray) (g : Bool) (w : World) (hs : s.size ≤ 8000) (hm : (s.toList == [45]) = false) (hg : Sign s r g) {a : ByteArray} (hp : parts r = [a]) (ha : a.size ≤ 3) (hd : digs a = true) :
    Calls Try.prog 19 #[.string s] w fun e w' => e = .returned (.tuple #[.int .i64 (if g = true then - (drN a * 3600) else drN a * 3600), .bool (decide (drN a * 3600 ≤ 604800))]) ∧ Below w.heap.size w w' := by
  have hrs : r.size ≤ s.size := by rcases hg with ⟨_, _, rfl⟩ | ⟨_, _, rfl⟩ | ⟨_, _, rfl⟩ <;> simp [ByteArray.size_extract]
  have hS := fun w => spec_l01Split r w (by omega)
  have hle : ∀ p ∈ parts r, p.size ≤ 8000 := fun p hp => by have := parts_le p hp; omega
  have hD := fun w => spec_l01DigitsM a w (by omega)
  have e1 := ldM_t (s := a) (by omega) hd
  have e2 := (drN_bd a (by omega)).2
  rw [e1.1] at hD
  have e3 := e1.2
  clear e1
  generalize drN a = n at *
  have hI := fun (m : Int) (w : World) => spec_l01Is_any m w
  rcases hg with ⟨rfl, ⟨h0, hc⟩, hr⟩ | ⟨rfl, ⟨h0, hc⟩, hr⟩ | ⟨rfl, h0, hr⟩
  · have hc' : ((s[0].toNat : Int) == 45) = true := by rw [byteAt_eq s 0 h0, hc]; rfl
    clear hc hle
    have hr' := hr
    rw [hr] at hS
    clear hr
    rw [hr'] at hp
    rw [hp] at hS
    clear hr' hrs
    go_enter Try.func19, Try.ntmps19
    go_wp2_with fail
    refine (hS _).mono ?_
    rintro e w1 ⟨v, rfl, hown, hB⟩
    obtain ⟨q, cap, rfl, hq, hql⟩ := hown.form (by simp)
    have c0 := row_cells hown (j := 0) rfl
    simp only [List.length_cons, List.length_nil] at *
    go_wp2_with fail
    refine wp_loop_rounds 2 ?_
    rw [rounds_succ]
    go_wp2_with fail
    refine (hD _).mono ?_
    rintro e w2 ⟨rfl, rfl⟩
    go_wp2_with fail
    rw [rounds_succ]
    go_wp2_with fail
    refine (hI _ _).mono ?_
    rintro e w3 ⟨rfl, rfl⟩
    go_wp2
    go_ret2
    exact ⟨by simp <;> omega, hB.alloc (Below.size hB) _⟩
  · have hc' : ((s[0].toNat : Int) == 45) = false := by rw [byteAt_eq s 0 h0]; simpa using hc
    clear hc hle
    have hr' := hr
    rw [hr] at hS
    clear hr
    rw [hr'] at hp
    rw [hp] at hS
    clear hr' hrs
    go_enter Try.func19, Try.ntmps19
    go_wp2_with fail
    refine (hS _).mono ?_
    rintro e w1 ⟨v, rfl, hown, hB⟩
    obtain ⟨q, cap, rfl, hq, hql⟩ := hown.form (by simp)
    have c0 := row_cells hown (j := 0) rfl
    simp only [List.length_cons, List.length_nil] at *
    go_wp2_with fail
    refine wp_loop_rounds 2 ?_
    rw [rounds_succ]
    go_wp2_with fail
    refine (hD _).mono ?_
    rintro e w2 ⟨rfl, rfl⟩
    go_wp2_with fail
    rw [rounds_succ]
    go_wp2_with fail
    refine (hI _ _).mono ?_
    rintro e w3 ⟨rfl, rfl⟩
    go_wp2
    go_ret2
    exact ⟨by simp <;> omega, hB.alloc (Below.size hB) _⟩
  · clear hle
    have hr' := hr
    rw [hr] at hS
    clear hr
    rw [hr'] at hp
    rw [hp] at hS
    clear hr' hrs
    go_enter Try.func19, Try.ntmps19
    go_wp2_with fail
    refine (hS _).mono ?_
    rintro e w1 ⟨v, rfl, hown, hB⟩
    obtain ⟨q, cap, rfl, hq, hql⟩ := hown.form (by simp)
    have c0 := row_cells hown (j := 0) rfl
    simp only [List.length_cons, List.length_nil] at *
    go_wp2_with fail
    refine wp_loop_rounds 2 ?_
    rw [rounds_succ]
    go_wp2_with fail
    refine (hD _).mono ?_
    rintro e w2 ⟨rfl, rfl⟩
    go_wp2_with fail
    rw [rounds_succ]
    go_wp2_with fail
    refine (hI _ _).mono ?_
    rintro e w3 ⟨rfl, rfl⟩
    go_wp2
    go_ret2
    exact ⟨by simp <;> omega, hB.alloc (Below.size hB) _⟩
end Go.Proofs.Ytibhbpgnjikjnaa
