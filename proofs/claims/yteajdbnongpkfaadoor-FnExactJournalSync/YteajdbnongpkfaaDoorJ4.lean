/- The model's JournalRight. -/
import Derived.Test.YteajdbnongpkfaaDoorJ2
import Derived.Test.YteajdbnongpkfaaDoorJ3
import Derived.Laws.OwnMore
namespace Go.Proofs.YteajdbnongpkfaaDoor
open Go.RowKit

/-- lines in memory. -/
def LinesAt (w : World) (g : Nat) (l : List ByteArray) : Prop := ∀ (k : Nat) x, l[k]? = some x → w.cell? ⟨g, k, none⟩ = some (.string x)
theorem LinesAt.get {w : World} {g : Nat} {l : List ByteArray} (h : LinesAt w g l) (k : Nat) (hk : k < l.length) : w.cell? ⟨g, k, none⟩ = some (.string l[k]) := h k _ (List.getElem?_eq_getElem hk)
theorem lines_of_own {w : World} {base : Nat} {v : Value} {l : List ByteArray} (h : w.ownsRow base 9 1 v l.length (l.map Value.string)) (hl : 1 ≤ l.length) : ∃ g cap, v = .slice (some ⟨g, 0, none⟩) l.length cap ∧ LinesAt w g l := by
  have h' := h
  rcases h'.2 with ⟨_, h0⟩ | ⟨g, cap, cur, rfl, hg, _⟩
  · omega
  · refine ⟨g, cap, rfl, fun k x hx => ?_⟩
    have hk : k < l.length := (List.getElem?_eq_some_iff.1 hx).1
    rw [h.cellAt k (by omega), List.getElem?_map, hx]; rfl
theorem lns_sz (s : ByteArray) : ∀ x ∈ lns s, x.size ≤ s.size := by
  have h : ∀ k, ∀ x ∈ (lfs s k).1, x.size ≤ s.size := by
    intro k
    induction k with
    | zero => simp [lfs]
    | succ k ih =>
      by_cases hc : byteAt s k = 10
      · rw [lfs_hit hc]
        intro x hx
        simp only [List.mem_append, List.mem_singleton] at hx
        rcases hx with hx | rfl
        · exact ih x hx
        · rw [ByteArray.size_extract]; omega
      · rw [lfs_miss hc]; exact ih
  intro x hx
  unfold lns at hx
  simp only [List.mem_append, List.mem_singleton] at hx
  rcases hx with hx | rfl
  · exact h _ x hx
  · rw [ByteArray.size_extract]; omega
theorem lns_len (s : ByteArray) : 1 ≤ (lns s).length ∧ (lns s).length ≤ s.size + 1 := by
  have := (lfs_bd s s.size).1
  unfold lns; simp; omega
theorem lns_l {s : ByteArray} {k : Nat} (hl : k < (lfs s s.size).1.length) (hk : k < (lns s).length) : (lns s)[k] = (lfs s s.size).1[k] := by
  have e : (lns s)[k]? = (lfs s s.size).1[k]? := by unfold lns; rw [List.getElem?_append_left hl]
  rw [List.getElem?_eq_getElem hk, List.getElem?_eq_getElem hl] at e
  exact Option.some.inj e
theorem lns_r {s : ByteArray} {k : Nat} (hl : ¬ k < (lfs s s.size).1.length) (hk : k < (lns s).length) : (lns s)[k] = s.extract (lfs s s.size).2 s.size := by
  have hlen : (lns s).length = (lfs s s.size).1.length + 1 := by unfold lns; simp
  have e : (lns s)[k]? = some (s.extract (lfs s s.size).2 s.size) := by
    unfold lns; rw [List.getElem?_append_right (by omega), show k - (lfs s s.size).1.length = 0 by omega]; rfl
  rw [List.getElem?_eq_getElem hk] at e
  exact Option.some.inj e
theorem jB_no {s : ByteArray} {y : Int} {k : Nat} (hk : k < (lns s).length) (h : lineB (lns s)[k] = false) : jB s y = false := by
  unfold jB
  by_cases hl : k < (lfs s s.size).1.length
  · have e : (lns s)[k] = (lfs s s.size).1[k] := lns_l hl hk
    rw [e] at h
    have : (lfs s s.size).1.all lineB = false := by
      rw [List.all_eq_false]
      exact ⟨_, List.getElem_mem hl, by rw [h]; decide⟩
    rw [this]; simp
  · have e : (lns s)[k] = s.extract (lfs s s.size).2 s.size := lns_r hl hk
    rw [e] at h
    have : decide ((lfs s s.size).2 = s.size) = false := by
      rw [decide_eq_false_iff_not]
      intro g
      rw [lineB_empty _ (by rw [ByteArray.size_extract]; omega)] at h
      cases h
    rw [this]; simp
theorem jB_last {s : ByteArray} {y : Int} (hi : inB s y = true) (h : ∀ (k : Nat) (hk : k < (lns s).length), lineB (lns s)[k] = true) (hk : (lns s).length - 1 < (lns s).length) : jB s y = decide ((lns s)[(lns s).length - 1].size = 0) := by
  have hlen : (lns s).length = (lfs s s.size).1.length + 1 := by unfold lns; simp
  have ha : (lfs s s.size).1.all lineB = true := by
    rw [List.all_eq_true]
    intro x hx
    obtain ⟨k, hk, rfl⟩ := List.getElem_of_mem hx
    have := h k (by omega)
    rw [lns_l hk] at this; exact this
  have e : (lns s)[(lns s).length - 1] = s.extract (lfs s s.size).2 s.size := lns_r (by omega) hk
  rw [e, ByteArray.size_extract]
  unfold jB
  rw [hi, ha, Bool.true_and, Bool.and_true]
  have := (lfs_bd s s.size).2
  by_cases g : (lfs s s.size).2 = s.size
  · rw [decide_eq_true g, decide_eq_true (by omega)]
  · rw [decide_eq_false g, decide_eq_false (by omega)]
theorem jB_out {s : ByteArray} {y : Int} (h : inB s y = false) : jB s y = false := by unfold jB; rw [h]; rfl
theorem empty_sz (x : ByteArray) : x.toList.isEmpty = decide (x.size = 0) := by
  rw [Bool.eq_iff_iff, decide_eq_true_iff]
  haveI := Classical.propDecidable (x = ByteArray.empty)
  rw [← decide_eq_emptyBytes x, decide_eq_true_iff]
  constructor
  · rintro rfl; rfl
  · intro h
    have h2 : x.data.toList.length = 0 := by rw [← Lib.size_eq]; exact h
    exact data_inj (by rw [List.eq_nil_of_length_eq_zero h2]; rfl)
set_option maxHeartbeats 4000000 in
theorem spec_JournalRight (s : ByteArray) (y : Int) (w : World) :
    Calls Tryd.prog 8 #[.agg #[.string s, .int .i64 y]] w fun e w' => e = .returned (.bool (jB s y)) ∧ Below w.heap.size w w' := by
  have hB0 := (Below.refl w.heap.size w).alloc (Nat.le_refl _) (.cells #[.string s, .int .i64 y] 26)
  by_cases h8 : s.size ≤ 8000
  · by_cases hi : inB s y = true
    · have hin := of_decide_eq_true hi
      have hIs := fun w => spec_l01Is_t y 0 s.size w hin.2.1 hin.2.2
      have hSp := fun w => spec_splitLf s w h8
      obtain ⟨n, hn⟩ : ∃ n, (lns s).length = n + 1 := ⟨(lns s).length - 1, by have := lns_len s; omega⟩
      have hn8 := (lns_len s).2
      rw [hn] at hn8
      have HG : ∀ (k : Nat) (hk : k < n + 1), (lns s).getD k ⟨#[]⟩ = (lns s)[k]'(by omega) := fun k hk => by rw [List.getD_eq_getElem?_getD, List.getElem?_eq_getElem (by omega)]; rfl
      have hLn : ∀ (k : Nat), k < n + 1 → ∀ w, _ := fun k hk w => spec_l07Line ((lns s).getD k ⟨#[]⟩) w (by rw [HG k hk]; exact Nat.le_trans (lns_sz s _ (List.getElem_mem _)) h8)
      have HNo : Hid (∀ (k : Nat), k < n + 1 → lineB ((lns s).getD k ⟨#[]⟩) = false → jB s y = false) := fun k hk h => jB_no (k := k) (by omega) (by rw [← HG k hk]; exact h)
      have HLa : Hid ((∀ (k : Nat), k < n + 1 → lineB ((lns s).getD k ⟨#[]⟩) = true) → jB s y = decide (((lns s).getD n ⟨#[]⟩).size = 0)) := fun h => by
        rw [HG n (by omega), jB_last hi (fun k hk => by rw [← HG k (by omega)]; exact h k (by omega)) (by omega)]
        congr 3
        simp [hn]
      have HLs : Hid (∀ w g, LinesAt w g (lns s) → ∀ k, k < n + 1 → w.cell? ⟨g, k, none⟩ = some (.string ((lns s).getD k ⟨#[]⟩))) := fun w g h k hk => by rw [HG k hk]; exact h.get k (by omega)
      have hsp : ∀ w, Calls Tryd.prog 20 #[.string s, .int .u8 10] w fun e w' => ∃ g cap, e = .returned (.slice (some ⟨g, 0, none⟩) (n + 1 : Nat) cap) ∧ Hid (∀ k, k < n + 1 → w'.cell? ⟨g, k, none⟩ = some (.string ((lns s).getD k ⟨#[]⟩))) ∧ Below w.heap.size w w' := fun w =>
        (hSp w).mono fun e w' ⟨v, hv, hown, hb⟩ => by
          obtain ⟨g, cap, hv', hL⟩ := lines_of_own hown (by omega)
          rw [hn] at hv'
          exact ⟨g, cap, by rw [hv, hv'], HLs.out _ _ hL, hb⟩
      clear hSp HG HLs
      generalize (fun k => (lns s).getD k ⟨#[]⟩) = G at *
      generalize (lns s).getD = G' at *
      generalize jB s y = J at *
      clear hin hi hn
      go_enter Tryd.func8, Tryd.ntmps8
      go_wp2_with (first
        | (go_at_call 19; refine (hIs _).mono ?_; rintro e w' ⟨rfl, rfl⟩)
        | (go_at_call 20; refine (hsp _).mono ?_; rintro e w1 ⟨g, cap, rfl, hLs, hb1⟩
           have hB1 := hB0.trans (hb1.mono hB0.size)
           clear hb1))
      go_loop [4] (fun i => ∃ k : Nat, k ≤ n + 1 ∧ i = .int .i64 k ∧ Hid (∀ (j : Nat), j < k → lineB (G' j ⟨#[]⟩) = true)) (fun i => n + 1 - (intOf i).toNat)
      case atStart => exact ⟨0, by omega, rfl, fun j h => by omega⟩
      case round =>
        obtain ⟨k, hk, rfl, H⟩ := hrel
        by_cases hlt : k < n + 1
        · have hc := hLs.out k hlt
          have hl := hLn k hlt
          have HN := HNo.out k hlt
          cases hb : lineB (G' k ⟨#[]⟩) with
          | false =>
            have HJ : Hid (J = false) := HN hb
            rw [hb] at hl
            clear HN hb
            generalize G' k ⟨#[]⟩ = x at *
            go_wp2_with (go_at_call 21; refine (hl _).mono ?_; rintro e w' ⟨rfl, rfl⟩)
            go_ret
            exact ⟨by rw [HJ.out]; rfl, hB1⟩
          | true =>
            have HA : Hid (∀ (j : Nat), j < k + 1 → lineB (G' j ⟨#[]⟩) = true) := fun j h => by
              rcases Nat.lt_succ_iff_lt_or_eq.1 h with h | rfl
              · exact H.out j h
              · exact hb
            rw [hb] at hl
            clear HN hb
            generalize G' k ⟨#[]⟩ = x at *
            go_wp2_with (go_at_call 21; refine (hl _).mono ?_; rintro e w' ⟨rfl, rfl⟩)
            go_round
            case rel => exact ⟨k + 1, by omega, by go_num, HA⟩
            case measure => simp [intOf]; omega
        · have e : k = n + 1 := by omega
          subst e
          have HJ : Hid (J = decide ((G' n ⟨#[]⟩).size = 0)) := HLa.out (fun j hj => H.out j hj)
          have hc := hLs.out n (by omega)
          generalize G' n ⟨#[]⟩ = x at *
          go_wp2
          go_ret
          exact ⟨by rw [HJ.out, ← empty_sz]; rfl, hB1⟩
    · have hi' : inB s y = false := by simpa using hi
      have hj := jB_out hi'
      rw [hj]
      have hIs := fun w => spec_l01Is_f y 0 s.size w (by have := of_decide_eq_false hi'; omega)
      clear hi hi' hj
      go_enter Tryd.func8, Tryd.ntmps8
      go_wp2_with (go_at_call 19; refine (hIs _).mono ?_; rintro e w' ⟨rfl, rfl⟩)
      go_ret
      exact ⟨rfl, hB0⟩
  · rw [jB_out (decide_eq_false (fun h => h8 h.1))]
    go_enter Tryd.func8, Tryd.ntmps8
    go_wp2
    go_ret
    exact ⟨rfl, hB0⟩
end Go.Proofs.YteajdbnongpkfaaDoor
