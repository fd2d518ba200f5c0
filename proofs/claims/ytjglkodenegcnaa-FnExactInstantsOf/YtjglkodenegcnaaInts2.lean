/- Rows of numbers and tables of one's own: numbered. -/
import Derived.Test.YtjglkodenegcnaaInts
import Derived.Test.YtjglkodenegcnaaMarkTurn
namespace Go.Proofs.Ytjglkodenegcnaa
open Go.RowKit

theorem RowAt.touch {S : Nat → Prop} {w w' : World} {v : Value} {L : List Int} (h : RowAt w v L) (ht : Touch S w w') (hs : ∀ g, v.ownBlock = some g → ¬ S g) : RowAt w' v L := by
  obtain ⟨a, c, rfl, h⟩ := h
  refine ⟨a, c, rfl, ?_⟩
  rcases h with h | ⟨g, rfl, hg, h⟩
  · exact .inl h
  · exact .inr ⟨g, rfl, by have := ht.size; omega, fun i x hx => ht.cell (hs g rfl) (h i x hx)⟩
theorem owns_touch {S : Nat → Prop} {w w' : World} {base : Nat} {e : TypeId} {size : Nat} {v : Value} {n : Nat} {xs : List Value} (h : w.ownsRow base e size v n xs) (ht : Touch S w w') (hs : ∀ g, v.ownBlock = some g → ¬ S g) : w'.ownsRow base e size v n xs := by
  refine ⟨h.1, ?_⟩
  rcases h.2 with h | ⟨g, cap, cur, rfl, e2, e3, e4⟩
  · exact .inl h
  · exact .inr ⟨g, cap, cur, rfl, e2, (ht.block g (Array.getElem?_eq_some_iff.1 e3).1 (hs g rfl)).trans e3, e4⟩
theorem owns_below {w w' : World} {base : Nat} {e : TypeId} {size : Nat} {v : Value} {n : Nat} {xs : List Value} (h : w.ownsRow base e size v n xs) (hb : Below w.heap.size w w') : w'.ownsRow base e size v n xs :=
  owns_touch h (Touch.of_below (S := fun _ => False) hb) (fun _ _ hf => hf)
def partI (k i : Nat) (L : List Int) : List Int := marksI k i ++ L.drop i
theorem marksI_succ (k i : Nat) : marksI k (i + 1) = marksI k i ++ [((k + i : Nat) : Int)] := by simp [marksI, List.range_succ]
theorem partI_set {k i : Nat} {L : List Int} (h : i < L.length) : (partI k i L).set i ((k + i : Nat) : Int) = partI k (i + 1) L := by
  unfold partI
  rw [List.set_append_right _ _ (by rw [marksI_len]; exact Nat.le_refl _), marksI_len, Nat.sub_self, List.drop_eq_getElem_cons h, List.set_cons_zero, marksI_succ, List.append_assoc]
  rfl
theorem partI_zero (k : Nat) (L : List Int) : partI k 0 L = L := by simp [partI, marksI]
theorem partI_all (k : Nat) (L : List Int) : partI k L.length L = marksI k L.length := by simp [partI]
theorem partI_len {k i : Nat} {L : List Int} (h : i ≤ L.length) : (partI k i L).length = L.length := by simp [partI, marksI_len]; omega
set_option maxHeartbeats 2000000 in
theorem laws_markInt64S (k : Nat) (L : List Int) (v : Value) (base : Nat) (w : World) (h : w.ownsRow base 2 1 v L.length (L.map (Value.int .i64))) (h1 : k + L.length < 1000000000) :
    Calls Try.prog 30 #[v, .int .i64 k] w fun e w' => e = .returned (.int .i64 ((k + L.length : Nat) : Int)) ∧ w'.ownsRow base 2 1 v L.length ((marksI k L.length).map (Value.int .i64)) ∧ Touch (fun b => v.ownBlock = some b) w w' := by
  obtain ⟨a, c, rfl⟩ := row_shape h
  have HP : Hid (partI k L.length L = marksI k L.length) := partI_all k L
  have HP0 : Hid (partI k 0 L = L) := partI_zero k L
  go_enter Try.func30, Try.ntmps30
  go_wp2
  go_loopw [1, 5] (fun s t wr => ∃ i : Nat, i ≤ L.length ∧ t = .int .i64 i ∧ s = .int .i64 ((k + i : Nat) : Int) ∧ wr.ownsRow base 2 1 (.slice a L.length c) L.length ((partI k i L).map (Value.int .i64)) ∧ Touch (fun b => (Value.slice a L.length c).ownBlock = some b) w wr) (fun _ t _ => L.length - (intOf t).toNat)
  case atStart => exact ⟨0, by omega, rfl, rfl, by rw [HP0.out]; exact h, Touch.refl _ _⟩
  case round =>
    clear h
    obtain ⟨i, hi, rfl, rfl, hO, hTc⟩ := hrel
    by_cases hlt : i < L.length
    · obtain ⟨m, hm⟩ : ∃ m, L.length = m + 1 := ⟨L.length - 1, by omega⟩
      have hO' := hO
      rw [hm] at hO'
      obtain ⟨g, cap, e⟩ := ownsRow_succ hO'
      injection e with e1 e2 e3
      subst e1 e3
      obtain ⟨x, hx⟩ : ∃ x, (partI k i L)[i]? = some x := ⟨_, List.getElem?_eq_getElem (by rw [partI_len hi]; exact hlt)⟩
      have k1 : wr.cell? ⟨g, i, none⟩ = some (.int .i64 x) := by rw [hO.cellAt i (by omega), List.getElem?_map, hx]; rfl
      have k2 := hO.frozenAt i
      obtain ⟨hO1, _⟩ := hO.stored i (.int .i64 ((k + i : Nat) : Int))
      have HO : Hid ((wr.setCell ⟨g, i, none⟩ (.int .i64 ((k + i : Nat) : Int))).ownsRow base 2 1 (.slice (some ⟨g, 0, none⟩) L.length c) L.length ((partI k (i + 1) L).map (Value.int .i64))) := by
        simp only [Hid]
        rw [← partI_set hlt, List.map_set]
        exact hO1
      have HT : Hid (Touch (fun b => (Value.slice (some ⟨g, 0, none⟩) L.length c).ownBlock = some b) w (wr.setCell ⟨g, i, none⟩ (.int .i64 ((k + i : Nat) : Int)))) := hTc.set rfl _
      have HK : Hid (k + (i + 1) = k + i + 1) := rfl
      have hci : k + i + 1 < 1000000000 := by omega
      clear hO hO1 hO' hx hm
      generalize k + i = d at *
      go_wp2
      go_roundw
      case rel => exact ⟨i + 1, by omega, by go_num, by rw [HK.out]; go_num, HO.out, HT.out⟩
      case measure => simp [intOf]; omega
    · obtain rfl : i = L.length := by omega
      go_wp2
      go_ret
      exact ⟨rfl, by rw [← HP.out]; exact hO, hTc⟩
set_option maxHeartbeats 2000000 in
theorem laws_markTable (n g cap k : Nat) (w : World) (hR0 : Room w g (n * 4)) (h0 : 0 < k) (h1 : k + 4 * n < 1000000000) :
    Calls Try.prog 29 #[.agg #[.slice (some ⟨g, 0, none⟩) n cap], .int .i64 k] w fun e w' => e = .returned (.int .i64 ((k + 4 * n : Nat) : Int)) ∧ Touch (fun b => b = g ∧ 0 < n) w w' := by
  have hM := fun w h => laws_markTurnS n g cap k w h h0 h1
  have hb0 := fun o => (Below.refl w.heap.size w).alloc (Nat.le_refl _) o
  generalize k + 4 * n = d at *
  go_enter Try.func29, Try.ntmps29
  go_wp2_with fail
  refine (hM _ (hR0.below (hb0 _))).mono ?_
  rintro e w1 ⟨rfl, _, _, hT⟩
  have hT1 : Touch (fun b => b = g ∧ 0 < n) w w1 := (Touch.of_below (hb0 _)).trans hT
  clear hT
  go_wp2
  go_ret
  exact ⟨rfl, hT1⟩
theorem instD_le (l : List TurnD) (n : Int) : (instD l n).length ≤ 600 := by
  cases ht : tabB l
  · rw [instD_no1 ht]; simp
  · cases hn : isB n (-62135596800) 253402300799
    · rw [instD_no2 hn]; simp
    · rw [instD_yes ht hn]
      have := inst_le l n
      have := (tab_of ht).len
      omega
end Go.Proofs.Ytjglkodenegcnaa
