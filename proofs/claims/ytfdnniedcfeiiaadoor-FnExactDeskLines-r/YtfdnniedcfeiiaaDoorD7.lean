/- Rows of texts: numbered, held to their numbers. -/
import Derived.Test.YtfdnniedcfeiiaaDoorD6
namespace Go.Proofs.YtfdnniedcfeiiaaDoor
open Go.RowKit Go.Sort

def marks (k n : Nat) : List Value := (List.range n).map fun i => Value.string (mtB (k + i))
theorem marks_at {k n i : Nat} (h : i < n) : (marks k n)[i]? = some (.string (mtB (k + i))) := by unfold marks; rw [List.getElem?_map, List.getElem?_range h]; rfl
theorem marks_len (k n : Nat) : (marks k n).length = n := by unfold marks; rw [List.length_map, List.length_range]
theorem marks_step {k i : Nat} {xs : List Value} (h : i < xs.length) : (marks k i ++ xs.drop i).set i (.string (mtB (k + i))) = marks k (i + 1) ++ xs.drop (i + 1) := by
  rw [List.set_append_right _ _ (by rw [marks_len]; omega), marks_len, Nat.sub_self, List.drop_eq_getElem_cons h, List.set_cons_zero]
  unfold marks
  rw [List.range_succ, List.map_append]
  simp
theorem grown_refl (w : World) (r : Option Nat) : w.grownBy w r := ⟨rfl, rfl, rfl, Nat.le_refl _, fun _ _ _ => rfl⟩
theorem grown_trans {w w1 w2 : World} {r : Option Nat} (h : w.grownBy w1 r) (h2 : w1.grownBy w2 r) : w.grownBy w2 r := ⟨h2.os.trans h.os, h2.tape.trans h.tape, h2.output.trans h.output, Nat.le_trans h.size h2.size, fun k hk hn => (h2.block k (Nat.lt_of_lt_of_le hk h.size) hn).trans (h.block k hk hn)⟩
theorem grown_below {w w1 w2 : World} {r : Option Nat} (h : w.grownBy w1 r) (h2 : Below w1.heap.size w1 w2) : w.grownBy w2 r := grown_trans h ⟨h2.os, h2.tape, h2.output, h2.size, fun k hk _ => h2.block k hk⟩
set_option maxRecDepth 20000 in
set_option maxHeartbeats 4000000 in
theorem laws_markStringS (xs : List Value) (n base k : Nat) (v : Value) (w : World) (h : w.ownsRow base 9 1 v n xs) (h0 : 0 < k) (h1 : k + n < 1000000000) :
    Calls Tryd.prog 7 #[v, .int .i64 k] w fun e w' => e = .returned (.int .i64 ((k + n : Nat) : Int)) ∧ w'.ownsRow base 9 1 v n (marks k n) ∧ w.grownBy w' v.ownBlock := by
  obtain ⟨a1, c1, rfl⟩ := row_slice h
  have hlen : xs.length = n := by have := h.1; omega
  go_enter Tryd.func7, Tryd.ntmps7
  go_wp2
  go_loopw [1, 5] (fun s t wr => ∃ i : Nat, i ≤ n ∧ t = .int .i64 i ∧ s = .int .i64 ((k + i : Nat) : Int) ∧ wr.ownsRow base 9 1 (.slice a1 n c1) n (marks k i ++ xs.drop i) ∧ w.grownBy wr (Value.slice a1 n c1).ownBlock) (fun _ t _ => n - (intOf t).toNat)
  case atStart => exact ⟨0, by omega, rfl, rfl, by simpa [marks] using h, grown_refl _ _⟩
  case round =>
    clear h
    obtain ⟨i, hi, rfl, rfl, hown, hg⟩ := hrel
    by_cases hlt : i < n
    · obtain ⟨x, hx⟩ : ∃ x, (marks k i ++ xs.drop i)[i]? = some x := ⟨_, List.getElem?_eq_getElem (by rw [List.length_append, marks_len, List.length_drop]; omega)⟩
      obtain ⟨g, cap, e, _, _⟩ := row_get hown hx
      injection e with e1 _ e3
      subst e1 e3
      have hM := fun w => laws_markText (k + i) w (by omega) (by omega)
      have HS := @marks_step k i xs (by omega)
      go_wp2_with fail
      refine (hM _).mono ?_
      rintro e w1 ⟨rfl, hb1⟩
      have hown1 := own_below hown hb1
      obtain ⟨_, _, e, hc1, hf1⟩ := row_get hown1 hx
      injection e with e1 _ e3
      injection e1 with e1
      injection e1 with e1 _ _
      subst e1 e3
      obtain ⟨hown2, hg2⟩ := hown1.stored i (.string (mtB (k + i)))
      rw [HS] at hown2
      have hg3 : w.grownBy (w1.setCell ⟨g, i, none⟩ (.string (mtB (k + i)))) (Value.slice (some ⟨g, 0, none⟩) n c1).ownBlock := grown_trans (grown_below hg hb1) hg2
      clear hg2 hown1 hb1 hM HS hx hg
      go_wp2
      go_roundw
      case rel => exact ⟨i + 1, by omega, by go_num, by go_num, hown2, hg3⟩
      case measure => simp [intOf]; omega
    · have e : i = n := by omega
      subst e
      have hd : marks k i ++ xs.drop i = marks k i := by rw [List.drop_of_length_le (by omega), List.append_nil]
      rw [hd] at hown
      go_wp2
      go_ret
      exact ⟨rfl, hown, hg⟩
set_option maxRecDepth 20000 in
set_option maxHeartbeats 4000000 in
theorem laws_heldStringS (n base k : Nat) (v : Value) (w : World) (h : w.ownsRow base 9 1 v n (marks k n)) (h0 : 0 < k) (h1 : k + n < 1000000000) :
    Calls Tryd.prog 8 #[v, .int .i64 k] w fun e w' => e = .returned (.int .i64 ((k + n : Nat) : Int)) ∧ Below w.heap.size w w' := by
  obtain ⟨a1, c1, rfl⟩ := row_slice h
  go_enter Tryd.func8, Tryd.ntmps8
  go_wp2
  go_loopw [1, 5] (fun s t wr => ∃ i : Nat, i ≤ n ∧ t = .int .i64 i ∧ s = .int .i64 ((k + i : Nat) : Int) ∧ Below w.heap.size w wr) (fun _ t _ => n - (intOf t).toNat)
  case atStart => exact ⟨0, by omega, rfl, rfl, Below.refl _ _⟩
  case round =>
    obtain ⟨i, hi, rfl, rfl, hB0⟩ := hrel
    by_cases hlt : i < n
    · obtain ⟨g, cap, e, q1, _⟩ := row_get h (marks_at (k := k) hlt)
      injection e with e1 _ e3
      subst e1 e3
      have p30 := bkeepD hB0 q1
      have HK : Hid (k + (i + 1) = (k + i) + 1) := by simp only [Hid]; omega
      have hc1 : k + i < 1000000000 := by omega
      have hM := fun w => laws_markText (k + i) w (by omega) (by omega)
      generalize k + i = c at *
      have cE3 : ∀ dd os, Calls Tryd.prog _ _ (grow (redrawn wr dd) os) fun e w'' => e = .returned (.string (mtB c)) ∧ ∃ p : Regrown, w'' = grow (redrawn wr p.d) p.os := fun _ _ => Calls.regrown_of (hM _)
      have kc3 := cell_regrown p30
      go_wp2_with fail
      refine wp_region_quiet_below (by kernel_rfl) (by kernel_rfl) ?_
      repeat (quiet_step ((go_at_call 13; exact cE3 _ _)))
      refine wpQuiet_nil ?_
      intro w1 hw'
      obtain ⟨⟨dq0, osq0⟩, hw0⟩ := hw'
      have hb1 : Below wr.heap.size wr w1 := hw0 ▸ below_regrown wr dq0 osq0
      have hB1 := hB0.trans (hb1.mono hB0.size)
      clear hw0 kc3 cE3 hM hb1 q1 p30
      go_wp2
      go_roundw
      case rel => exact ⟨i + 1, by omega, by go_num, by rw [HK.out]; go_num, hB1⟩
      case measure => simp [intOf]; omega
    · have e : i = n := by omega
      subst e
      go_wp2
      go_ret
      exact ⟨rfl, hB0⟩
end Go.Proofs.YtfdnniedcfeiiaaDoor
