/- Lists of Turns: numbered, and the numbers found again. -/
import Derived.Test.YtjfonbnmdcpepaaTouch
import Derived.Test.YtjfonbnmdcpepaaMark0
import Derived.Lib.QuietBelow
namespace Go.Proofs.Ytjfonbnmdcpepaa
open Go.RowKit Go.Sort

def mkTurn (c : Nat) : List Value := [.int .i64 (c : Nat), .int .i64 (c + 1 : Nat), .int .i64 (c + 2 : Nat), .string (mtB (c + 3))]
def mksTurn (c n : Nat) : List (List Value) := (List.range n).map fun i => mkTurn (c + 4 * i)
theorem mksTurn_at {c n i : Nat} (h : i < n) : (mksTurn c n)[i]? = some (mkTurn (c + 4 * i)) := by unfold mksTurn; rw [List.getElem?_map, List.getElem?_range h]; rfl
theorem mksTurn_len {c n : Nat} : ∀ r ∈ mksTurn c n, r.length = 4 := fun r hr => by
  unfold mksTurn at hr
  obtain ⟨i, _, rfl⟩ := List.mem_map.mp hr
  rfl
set_option maxRecDepth 20000 in
set_option maxHeartbeats 4000000 in
theorem laws_markTurnS (n g cap k : Nat) (w : World) (hR0 : Room w g (n * 4)) (h0 : 0 < k) (h1 : k + 4 * n < 1000000000) :
    Calls Try.prog 68 #[.slice (some ⟨g, 0, none⟩) n cap, .int .i64 k] w fun e w' => e = .returned (.int .i64 ((k + 4 * n : Nat) : Int)) ∧ SeqAt w' (some ⟨g, 0, none⟩) 4 (mksTurn k n) ∧ Room w' g (n * 4) ∧ Touch (fun b => b = g ∧ 0 < n) w w' := by
  have hlen := @mksTurn_len k n
  go_enter Try.func68, Try.ntmps68
  go_wp2
  go_loopw [1, 5] (fun s t wr => ∃ i : Nat, i ≤ n ∧ t = .int .i64 i ∧ s = .int .i64 ((k + 4 * i : Nat) : Int) ∧ Room wr g (n * 4) ∧ Filled wr g 4 i (mksTurn k n) ∧ Touch (fun b => b = g ∧ 0 < n) w wr) (fun _ t _ => n - (intOf t).toNat)
  case atStart => exact ⟨0, by omega, rfl, rfl, hR0, fun i j r c h => by omega, Touch.refl _ _⟩
  case round =>
    clear hR0
    obtain ⟨i, hi, rfl, rfl, hR0, hF0, hT0⟩ := hrel
    by_cases hlt : i < n
    · have hrow := mksTurn_at (c := k) hlt
      have HK : Hid (k + 4 * (i + 1) = (k + 4 * i) + 4) := by simp only [Hid]; omega
      have hc0 : 0 < k + 4 * i := by omega
      have hc1 : k + 4 * i + 4 < 1000000000 := by omega
      generalize k + 4 * i = c at *
      have hP0 : Part wr g (i * 4) [] := Part.nil _ _ _
      obtain ⟨⟨u0, hu0⟩, hf0⟩ := hR0 (i * 4) (by omega)
      have hR1 : Room (wr.setCell ⟨g, i * 4, none⟩ (.int .i64 (c : Int))) g (n * 4) := hR0.set _ _
      have hF1 : Filled (wr.setCell ⟨g, i * 4, none⟩ (.int .i64 (c : Int))) g 4 i (mksTurn k n) := by simpa using hF0.store hlen 0 (.int .i64 (c : Int))
      have hP1 : Part (wr.setCell ⟨g, i * 4, none⟩ (.int .i64 (c : Int))) g (i * 4) [.int .i64 (c : Int)] := by simpa using hP0.store hR0 (n := 0) rfl (by omega) (.int .i64 (c : Int))
      have hT1 : Touch (fun b => b = g ∧ 0 < n) w (wr.setCell ⟨g, i * 4, none⟩ (.int .i64 (c : Int))) := hT0.set ⟨rfl, by omega⟩ _
      obtain ⟨⟨u1, hu1⟩, hf1⟩ := hR1 (i * 4 + 1) (by omega)
      have hR2 : Room ((wr.setCell ⟨g, i * 4, none⟩ (.int .i64 (c : Int))).setCell ⟨g, i * 4 + 1, none⟩ (.int .i64 ((c : Int) + 1))) g (n * 4) := hR1.set _ _
      have hF2 : Filled ((wr.setCell ⟨g, i * 4, none⟩ (.int .i64 (c : Int))).setCell ⟨g, i * 4 + 1, none⟩ (.int .i64 ((c : Int) + 1))) g 4 i (mksTurn k n) := by simpa using hF1.store hlen 1 (.int .i64 ((c : Int) + 1))
      have hP2 : Part ((wr.setCell ⟨g, i * 4, none⟩ (.int .i64 (c : Int))).setCell ⟨g, i * 4 + 1, none⟩ (.int .i64 ((c : Int) + 1))) g (i * 4) [.int .i64 (c : Int), .int .i64 ((c : Int) + 1)] := by simpa using hP1.store hR1 (n := 1) rfl (by omega) (.int .i64 ((c : Int) + 1))
      have hT2 : Touch (fun b => b = g ∧ 0 < n) w ((wr.setCell ⟨g, i * 4, none⟩ (.int .i64 (c : Int))).setCell ⟨g, i * 4 + 1, none⟩ (.int .i64 ((c : Int) + 1))) := hT1.set ⟨rfl, by omega⟩ _
      obtain ⟨⟨u2, hu2⟩, hf2⟩ := hR2 (i * 4 + 2) (by omega)
      have hR3 : Room (((wr.setCell ⟨g, i * 4, none⟩ (.int .i64 (c : Int))).setCell ⟨g, i * 4 + 1, none⟩ (.int .i64 ((c : Int) + 1))).setCell ⟨g, i * 4 + 2, none⟩ (.int .i64 ((c : Int) + 1 + 1))) g (n * 4) := hR2.set _ _
      have hF3 : Filled (((wr.setCell ⟨g, i * 4, none⟩ (.int .i64 (c : Int))).setCell ⟨g, i * 4 + 1, none⟩ (.int .i64 ((c : Int) + 1))).setCell ⟨g, i * 4 + 2, none⟩ (.int .i64 ((c : Int) + 1 + 1))) g 4 i (mksTurn k n) := by simpa using hF2.store hlen 2 (.int .i64 ((c : Int) + 1 + 1))
      have hP3 : Part (((wr.setCell ⟨g, i * 4, none⟩ (.int .i64 (c : Int))).setCell ⟨g, i * 4 + 1, none⟩ (.int .i64 ((c : Int) + 1))).setCell ⟨g, i * 4 + 2, none⟩ (.int .i64 ((c : Int) + 1 + 1))) g (i * 4) [.int .i64 (c : Int), .int .i64 ((c : Int) + 1), .int .i64 ((c : Int) + 1 + 1)] := by simpa using hP2.store hR2 (n := 2) rfl (by omega) (.int .i64 ((c : Int) + 1 + 1))
      have hT3 : Touch (fun b => b = g ∧ 0 < n) w (((wr.setCell ⟨g, i * 4, none⟩ (.int .i64 (c : Int))).setCell ⟨g, i * 4 + 1, none⟩ (.int .i64 ((c : Int) + 1))).setCell ⟨g, i * 4 + 2, none⟩ (.int .i64 ((c : Int) + 1 + 1))) := hT2.set ⟨rfl, by omega⟩ _
      have hM3 := fun w => laws_markText (c + 3) w (by omega) (by omega)
      rw [show ((c + 3 : Nat) : Int) = (c : Int) + 1 + 1 + 1 by omega] at hM3
      go_wp2_with fail
      refine (hM3 _).mono ?_
      rintro e w1 ⟨rfl, hb1⟩
      have hR3a := hR3.below hb1
      have hF3a := hF3.below hb1
      have hP3a := hP3.below hb1
      have hT3a := hT3.trans (Touch.of_below (S := fun b => b = g ∧ 0 < n) hb1)
      clear hb1 hR3 hF3 hP3 hT3 hM3
      obtain ⟨⟨u3, hu3⟩, hf3⟩ := hR3a (i * 4 + 3) (by omega)
      have hR4 : Room (w1.setCell ⟨g, i * 4 + 3, none⟩ (.string (mtB (c + 3)))) g (n * 4) := hR3a.set _ _
      have hF4 : Filled (w1.setCell ⟨g, i * 4 + 3, none⟩ (.string (mtB (c + 3)))) g 4 i (mksTurn k n) := by simpa using hF3a.store hlen 3 (.string (mtB (c + 3)))
      have hP4 : Part (w1.setCell ⟨g, i * 4 + 3, none⟩ (.string (mtB (c + 3)))) g (i * 4) [.int .i64 (c : Int), .int .i64 ((c : Int) + 1), .int .i64 ((c : Int) + 1 + 1), .string (mtB (c + 3))] := by simpa using hP3a.store hR3a (n := 3) rfl (by omega) (.string (mtB (c + 3)))
      have hT4 : Touch (fun b => b = g ∧ 0 < n) w (w1.setCell ⟨g, i * 4 + 3, none⟩ (.string (mtB (c + 3)))) := hT3a.set ⟨rfl, by omega⟩ _
      have hF : Filled _ g 4 (i + 1) (mksTurn k n) := hF4.step hP4 (by rw [hrow]; simp [mkTurn, Int.add_assoc])
      clear hF4 hP4
      go_wp2
      go_roundw
      case rel => exact ⟨i + 1, by omega, by go_num, by rw [HK.out]; go_num, hR4, hF, hT4⟩
      case measure => simp [intOf]; omega
    · have e : i = n := by omega
      subst e
      go_wp2
      go_ret
      exact ⟨rfl, Filled.seq (by unfold mksTurn; rw [List.length_map, List.length_range]; exact hF0), hR0, hT0⟩
end Go.Proofs.Ytjfonbnmdcpepaa
