/- Lists of Spans: numbered, and the numbers found again. -/
import Derived.Test.YtjfonbnmdcpepaaTouch
import Derived.Test.YtjfonbnmdcpepaaMark0
import Derived.Lib.QuietBelow
namespace Go.Proofs.Ytjfonbnmdcpepaa
open Go.RowKit Go.Sort

def mkSpan (c : Nat) : List Value := [.int .i64 (c : Nat), .int .i64 (c + 1 : Nat)]
def mksSpan (c n : Nat) : List (List Value) := (List.range n).map fun i => mkSpan (c + 2 * i)
theorem mksSpan_at {c n i : Nat} (h : i < n) : (mksSpan c n)[i]? = some (mkSpan (c + 2 * i)) := by unfold mksSpan; rw [List.getElem?_map, List.getElem?_range h]; rfl
theorem mksSpan_len {c n : Nat} : ∀ r ∈ mksSpan c n, r.length = 2 := fun r hr => by
  unfold mksSpan at hr
  obtain ⟨i, _, rfl⟩ := List.mem_map.mp hr
  rfl
set_option maxRecDepth 20000 in
set_option maxHeartbeats 4000000 in
theorem laws_markSpanS (n g cap k : Nat) (w : World) (hR0 : Room w g (n * 2)) (h0 : 0 < k) (h1 : k + 2 * n < 1000000000) :
    Calls Try.prog 29 #[.slice (some ⟨g, 0, none⟩) n cap, .int .i64 k] w fun e w' => e = .returned (.int .i64 ((k + 2 * n : Nat) : Int)) ∧ SeqAt w' (some ⟨g, 0, none⟩) 2 (mksSpan k n) ∧ Room w' g (n * 2) ∧ Touch (fun b => b = g ∧ 0 < n) w w' := by
  have hlen := @mksSpan_len k n
  go_enter Try.func29, Try.ntmps29
  go_wp2
  go_loopw [1, 5] (fun s t wr => ∃ i : Nat, i ≤ n ∧ t = .int .i64 i ∧ s = .int .i64 ((k + 2 * i : Nat) : Int) ∧ Room wr g (n * 2) ∧ Filled wr g 2 i (mksSpan k n) ∧ Touch (fun b => b = g ∧ 0 < n) w wr) (fun _ t _ => n - (intOf t).toNat)
  case atStart => exact ⟨0, by omega, rfl, rfl, hR0, fun i j r c h => by omega, Touch.refl _ _⟩
  case round =>
    clear hR0
    obtain ⟨i, hi, rfl, rfl, hR0, hF0, hT0⟩ := hrel
    by_cases hlt : i < n
    · have hrow := mksSpan_at (c := k) hlt
      have HK : Hid (k + 2 * (i + 1) = (k + 2 * i) + 2) := by simp only [Hid]; omega
      have hc0 : 0 < k + 2 * i := by omega
      have hc1 : k + 2 * i + 2 < 1000000000 := by omega
      generalize k + 2 * i = c at *
      have hP0 : Part wr g (i * 2) [] := Part.nil _ _ _
      obtain ⟨⟨u0, hu0⟩, hf0⟩ := hR0 (i * 2) (by omega)
      have hR1 : Room (wr.setCell ⟨g, i * 2, none⟩ (.int .i64 (c : Int))) g (n * 2) := hR0.set _ _
      have hF1 : Filled (wr.setCell ⟨g, i * 2, none⟩ (.int .i64 (c : Int))) g 2 i (mksSpan k n) := by simpa using hF0.store hlen 0 (.int .i64 (c : Int))
      have hP1 : Part (wr.setCell ⟨g, i * 2, none⟩ (.int .i64 (c : Int))) g (i * 2) [.int .i64 (c : Int)] := by simpa using hP0.store hR0 (n := 0) rfl (by omega) (.int .i64 (c : Int))
      have hT1 : Touch (fun b => b = g ∧ 0 < n) w (wr.setCell ⟨g, i * 2, none⟩ (.int .i64 (c : Int))) := hT0.set ⟨rfl, by omega⟩ _
      obtain ⟨⟨u1, hu1⟩, hf1⟩ := hR1 (i * 2 + 1) (by omega)
      have hR2 : Room ((wr.setCell ⟨g, i * 2, none⟩ (.int .i64 (c : Int))).setCell ⟨g, i * 2 + 1, none⟩ (.int .i64 ((c : Int) + 1))) g (n * 2) := hR1.set _ _
      have hF2 : Filled ((wr.setCell ⟨g, i * 2, none⟩ (.int .i64 (c : Int))).setCell ⟨g, i * 2 + 1, none⟩ (.int .i64 ((c : Int) + 1))) g 2 i (mksSpan k n) := by simpa using hF1.store hlen 1 (.int .i64 ((c : Int) + 1))
      have hP2 : Part ((wr.setCell ⟨g, i * 2, none⟩ (.int .i64 (c : Int))).setCell ⟨g, i * 2 + 1, none⟩ (.int .i64 ((c : Int) + 1))) g (i * 2) [.int .i64 (c : Int), .int .i64 ((c : Int) + 1)] := by simpa using hP1.store hR1 (n := 1) rfl (by omega) (.int .i64 ((c : Int) + 1))
      have hT2 : Touch (fun b => b = g ∧ 0 < n) w ((wr.setCell ⟨g, i * 2, none⟩ (.int .i64 (c : Int))).setCell ⟨g, i * 2 + 1, none⟩ (.int .i64 ((c : Int) + 1))) := hT1.set ⟨rfl, by omega⟩ _
      have hF : Filled _ g 2 (i + 1) (mksSpan k n) := hF2.step hP2 (by rw [hrow]; simp [mkSpan])
      clear hF2 hP2
      go_wp2
      go_roundw
      case rel => exact ⟨i + 1, by omega, by go_num, by rw [HK.out]; go_num, hR2, hF, hT2⟩
      case measure => simp [intOf]; omega
    · have e : i = n := by omega
      subst e
      go_wp2
      go_ret
      exact ⟨rfl, Filled.seq (by unfold mksSpan; rw [List.length_map, List.length_range]; exact hF0), hR0, hT0⟩
set_option maxRecDepth 20000 in
set_option maxHeartbeats 4000000 in
theorem laws_heldSpanS (n cap k : Nat) (a : Option Addr) (w : World) (hA : SeqAt w a 2 (mksSpan k n)) (h0 : 0 < k) (h1 : k + 2 * n < 1000000000) :
    Calls Try.prog 30 #[.slice a n cap, .int .i64 k] w fun e w' => e = .returned (.int .i64 ((k + 2 * n : Nat) : Int)) ∧ Below w.heap.size w w' := by
  go_enter Try.func30, Try.ntmps30
  go_wp2
  go_loopw [1, 5] (fun s t wr => ∃ i : Nat, i ≤ n ∧ t = .int .i64 i ∧ s = .int .i64 ((k + 2 * i : Nat) : Int) ∧ Below w.heap.size w wr) (fun _ t _ => n - (intOf t).toNat)
  case atStart => exact ⟨0, by omega, rfl, rfl, Below.refl _ _⟩
  case round =>
    obtain ⟨i, hi, rfl, rfl, hB0⟩ := hrel
    by_cases hlt : i < n
    · obtain ⟨b, o, rfl, hc⟩ := (hA.below hB0).at (mksSpan_at (c := k) hlt)
      have HK : Hid (k + 2 * (i + 1) = (k + 2 * i) + 2) := by simp only [Hid]; omega
      have hc0 : 0 < k + 2 * i := by omega
      have hc1 : k + 2 * i + 2 < 1000000000 := by omega
      generalize k + 2 * i = c at *
      have p00 : wr.cell? ⟨b, o + i * 2, none⟩ = some (.int .i64 (c : Int)) := by simpa using hc 0 _ rfl
      have p10 : wr.cell? ⟨b, o + i * 2 + 1, none⟩ = some (.int .i64 ((c : Int) + 1)) := by simpa using hc 1 _ rfl
      clear hc
      go_wp2
      go_roundw
      case rel => exact ⟨i + 1, by omega, by go_num, by rw [HK.out]; go_num, hB0⟩
      case measure => simp [intOf]; omega
    · have e : i = n := by omega
      subst e
      go_wp2
      go_ret
      exact ⟨rfl, hB0⟩
end Go.Proofs.Ytjfonbnmdcpepaa
