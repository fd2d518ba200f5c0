/- The program's JournalRight. -/
import Derived.Test.YteajdbnongpkfaaDoorJ4
import Derived.Test.YteajdbnongpkfaaDoorShelf
import Derived.Shelf.Strings.PiecesUse
namespace Go.Proofs.YteajdbnongpkfaaDoor
open Go.RowKit

def MxA (w : World) : Prop := ∃ m : Int, w.cell? ⟨0, 0, none⟩ = some (.int .i64 m)
theorem MxA.of_below {w w' : World} (h : MxA w) (hb : Below w.heap.size w w') : MxA w' := by
  obtain ⟨m, hm⟩ := h
  exact ⟨m, ((bcell hb).1 _ _ (World.block_lt_of_cell? _ _ hm)).trans hm⟩
theorem allJ_no {l : List ByteArray} {k : Nat} (hk : k < l.length) (h : lineB (l.getD k ⟨#[]⟩) = false) : l.all lineB = false := by
  rw [List.all_eq_false]
  refine ⟨l[k], List.getElem_mem hk, ?_⟩
  rw [List.getD_eq_getElem?_getD, List.getElem?_eq_getElem hk] at h
  simp at h; simp [h]
theorem allJ_yes {l : List ByteArray} (h : ∀ k, k < l.length → lineB (l.getD k ⟨#[]⟩) = true) : l.all lineB = true := by
  rw [List.all_eq_true]
  intro x hx
  obtain ⟨j, hj, rfl⟩ := List.getElem_of_mem hx
  have := h j hj
  rw [List.getD_eq_getElem?_getD, List.getElem?_eq_getElem hj] at this
  simpa using this
set_option maxHeartbeats 2000000 in
theorem impl_allLines (g n cap : Nat) (G : Nat → ByteArray) (w : World) (hn : n ≤ 8001) (hL : Hid (∀ k, k < n → w.cell? ⟨g, k, none⟩ = some (.string (G k)))) (hG : Hid (∀ k, k < n → (G k).size ≤ 8000)) (J : Bool)
    (HNo : Hid (∀ k, k < n → lineB (G k) = false → J = false)) (HYes : Hid ((∀ k, k < n → lineB (G k) = true) → J = true)) :
    Calls Tryd.prog 23 #[.slice (some ⟨g, 0, none⟩) n cap, .func (.func 25) #[] #[]] w fun e w' => e = .returned (.bool J) ∧ w' = w := by
  go_enter Tryd.func23, Tryd.ntmps23
  go_wp2
  go_loop [9] (fun i => ∃ k : Nat, k ≤ n ∧ i = .int .i64 k ∧ Hid (∀ (j : Nat), j < k → lineB (G j) = true)) (fun i => n - (intOf i).toNat)
  case atStart => exact ⟨0, by omega, rfl, fun j h => by omega⟩
  case round =>
    obtain ⟨k, hk, rfl, H⟩ := hrel
    by_cases hlt : k < n
    · have hc := hL.out k hlt
      have hl := fun w => impl_lineRight (G k) w (hG.out k hlt)
      have HN := HNo.out k hlt
      cases hb : lineB (G k) with
      | false =>
        have HJ : Hid (J = false) := HN hb
        rw [hb] at hl
        clear HN hb
        generalize G k = x at *
        go_wp2_with (go_at_call 25; refine (hl _).mono ?_; rintro e w' ⟨rfl, rfl⟩)
        go_ret
        exact ⟨by rw [HJ.out]; rfl, rfl⟩
      | true =>
        have HA : Hid (∀ (j : Nat), j < k + 1 → lineB (G j) = true) := fun j h => by
          rcases Nat.lt_succ_iff_lt_or_eq.1 h with h | rfl
          · exact H.out j h
          · exact hb
        rw [hb] at hl
        clear HN hb
        generalize G k = x at *
        go_wp2_with (go_at_call 25; refine (hl _).mono ?_; rintro e w' ⟨rfl, rfl⟩)
        go_round
        case rel => exact ⟨k + 1, by omega, by go_num, HA⟩
        case measure => simp [intOf]; omega
    · have e : k = n := by omega
      subst e
      have HJ : Hid (J = true) := HYes.out (fun j hj => H.out j hj)
      go_wp2
      go_ret
      exact ⟨by rw [HJ.out]; rfl, rfl⟩
set_option maxHeartbeats 2000000 in
theorem impl_lines (s : ByteArray) (w : World) (hM : MxA w) (hs : s.size ≤ 8000) :
    Calls Tryd.prog 24 #[.string s] w fun e w' => ∃ cap, e = .returned (.slice (some ⟨w.heap.size, 0, none⟩) ((lfs s s.size).1.length : Nat) cap) ∧ Hid (∀ k, k < (lfs s s.size).1.length → w'.cell? ⟨w.heap.size, k, none⟩ = some (.string ((lfs s s.size).1.getD k ⟨#[]⟩))) ∧ Below w.heap.size w w' := by
  obtain ⟨m, hm⟩ := hM
  have hSp := Tryd.strings_Split s ⟨#[10]⟩ m w (by omega) hm (by decide)
  rw [split_lns, lns_length] at hSp
  have hb := (lfs_bd s s.size).1
  have HC : Hid (∀ k, k < (lfs s s.size).1.length → (w.alloc (.cells ((lns s).map Value.string).toArray 9)).cell? ⟨w.heap.size, k, none⟩ = some (.string ((lfs s s.size).1.getD k ⟨#[]⟩))) := fun k hk => by
    refine Lib.pieces_cell_at w (lns s) _ k _ ?_
    unfold lns
    rw [List.getElem?_append_left hk, List.getD_eq_getElem?_getD, List.getElem?_eq_getElem hk]
    rfl
  have hB := (Below.refl w.heap.size w).alloc (Nat.le_refl _) (.cells ((lns s).map Value.string).toArray 9)
  generalize w.alloc (.cells ((lns s).map Value.string).toArray 9) = W1 at *
  generalize (lfs s s.size).1.length = n at *
  generalize (lfs s s.size).1 = L at *
  clear hm
  go_enter Tryd.func24, Tryd.ntmps24
  go_wp2_with (go_at_call 30; refine hSp.mono ?_; rintro e w1 ⟨rfl, rfl⟩)
  go_ret
  exact ⟨_, rfl, HC, hB⟩
end Go.Proofs.YteajdbnongpkfaaDoor
