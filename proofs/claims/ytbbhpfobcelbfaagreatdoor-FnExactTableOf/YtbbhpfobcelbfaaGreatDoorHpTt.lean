/- Packed: MarkHap Hp18. -/
import Derived.Test.YtbbhpfobcelbfaaGreatDoorMarkPt
import Derived.Lib.QuietBelow
import Derived.Test.YtbbhpfobcelbfaaGreatDoorHpQt
namespace Go.Proofs.YtbbhpfobcelbfaaGreatDoor
open Go.RowKit Go.Sort

def mkHap (c : Nat) : List Value := [.int .i64 (c : Nat), .int .i64 (c + 1 : Nat), .string (mtB (c + 2))]
def mksHap (c n : Nat) : List (List Value) := (List.range n).map fun i => mkHap (c + 3 * i)
theorem mksHap_at {c n i : Nat} (h : i < n) : (mksHap c n)[i]? = some (mkHap (c + 3 * i)) := by unfold mksHap; rw [List.getElem?_map, List.getElem?_range h]; rfl
theorem mksHap_len {c n : Nat} : ∀ r ∈ mksHap c n, r.length = 3 := fun r hr => by
  unfold mksHap at hr
  obtain ⟨i, _, rfl⟩ := List.mem_map.mp hr
  rfl
set_option maxRecDepth 20000 in
set_option maxHeartbeats 4000000 in
theorem laws_markHapS (n g cap k : Nat) (w : World) (hR0 : Room w g (n * 3)) (h0 : 0 < k) (h1 : k + 3 * n < 1000000000) :
    Calls Tryz.prog 25 #[.slice (some ⟨g, 0, none⟩) n cap, .int .i64 k] w fun e w' => e = .returned (.int .i64 ((k + 3 * n : Nat) : Int)) ∧ SeqAt w' (some ⟨g, 0, none⟩) 3 (mksHap k n) ∧ Room w' g (n * 3) ∧ Touch (fun b => b = g ∧ 0 < n) w w' := by
  have hlen := @mksHap_len k n
  go_enter Tryz.func25, Tryz.ntmps25
  go_wp2
  go_loopw [1, 5] (fun s t wr => ∃ i : Nat, i ≤ n ∧ t = .int .i64 i ∧ s = .int .i64 ((k + 3 * i : Nat) : Int) ∧ Room wr g (n * 3) ∧ Filled wr g 3 i (mksHap k n) ∧ Touch (fun b => b = g ∧ 0 < n) w wr) (fun _ t _ => n - (intOf t).toNat)
  case atStart => exact ⟨0, by omega, rfl, rfl, hR0, fun i j r c h => by omega, Touch.refl _ _⟩
  case round =>
    clear hR0
    obtain ⟨i, hi, rfl, rfl, hR0, hF0, hT0⟩ := hrel
    by_cases hlt : i < n
    · have hrow := mksHap_at (c := k) hlt
      have HK : Hid (k + 3 * (i + 1) = (k + 3 * i) + 3) := by simp only [Hid]; omega
      have hc0 : 0 < k + 3 * i := by omega
      have hc1 : k + 3 * i + 3 < 1000000000 := by omega
      generalize k + 3 * i = c at *
      have hP0 : Part wr g (i * 3) [] := Part.nil _ _ _
      obtain ⟨⟨u0, hu0⟩, hf0⟩ := hR0 (i * 3) (by omega)
      have hR1 : Room (wr.setCell ⟨g, i * 3, none⟩ (.int .i64 (c : Int))) g (n * 3) := hR0.set _ _
      have hF1 : Filled (wr.setCell ⟨g, i * 3, none⟩ (.int .i64 (c : Int))) g 3 i (mksHap k n) := by simpa using hF0.store hlen 0 (.int .i64 (c : Int))
      have hP1 : Part (wr.setCell ⟨g, i * 3, none⟩ (.int .i64 (c : Int))) g (i * 3) [.int .i64 (c : Int)] := by simpa using hP0.store hR0 (n := 0) rfl (by omega) (.int .i64 (c : Int))
      have hT1 : Touch (fun b => b = g ∧ 0 < n) w (wr.setCell ⟨g, i * 3, none⟩ (.int .i64 (c : Int))) := hT0.set ⟨rfl, by omega⟩ _
      obtain ⟨⟨u1, hu1⟩, hf1⟩ := hR1 (i * 3 + 1) (by omega)
      have hR2 : Room ((wr.setCell ⟨g, i * 3, none⟩ (.int .i64 (c : Int))).setCell ⟨g, i * 3 + 1, none⟩ (.int .i64 ((c : Int) + 1))) g (n * 3) := hR1.set _ _
      have hF2 : Filled ((wr.setCell ⟨g, i * 3, none⟩ (.int .i64 (c : Int))).setCell ⟨g, i * 3 + 1, none⟩ (.int .i64 ((c : Int) + 1))) g 3 i (mksHap k n) := by simpa using hF1.store hlen 1 (.int .i64 ((c : Int) + 1))
      have hP2 : Part ((wr.setCell ⟨g, i * 3, none⟩ (.int .i64 (c : Int))).setCell ⟨g, i * 3 + 1, none⟩ (.int .i64 ((c : Int) + 1))) g (i * 3) [.int .i64 (c : Int), .int .i64 ((c : Int) + 1)] := by simpa using hP1.store hR1 (n := 1) rfl (by omega) (.int .i64 ((c : Int) + 1))
      have hT2 : Touch (fun b => b = g ∧ 0 < n) w ((wr.setCell ⟨g, i * 3, none⟩ (.int .i64 (c : Int))).setCell ⟨g, i * 3 + 1, none⟩ (.int .i64 ((c : Int) + 1))) := hT1.set ⟨rfl, by omega⟩ _
      have hM2 := fun w => laws_markText (c + 2) w (by omega) (by omega)
      rw [show ((c + 2 : Nat) : Int) = (c : Int) + 1 + 1 by omega] at hM2
      go_wp2_with fail
      refine (hM2 _).mono ?_
      rintro e w1 ⟨rfl, hb1⟩
      have hR2a := hR2.below hb1
      have hF2a := hF2.below hb1
      have hP2a := hP2.below hb1
      have hT2a := hT2.trans (Touch.of_below (S := fun b => b = g ∧ 0 < n) hb1)
      clear hb1 hR2 hF2 hP2 hT2 hM2
      obtain ⟨⟨u2, hu2⟩, hf2⟩ := hR2a (i * 3 + 2) (by omega)
      have hR3 : Room (w1.setCell ⟨g, i * 3 + 2, none⟩ (.string (mtB (c + 2)))) g (n * 3) := hR2a.set _ _
      have hF3 : Filled (w1.setCell ⟨g, i * 3 + 2, none⟩ (.string (mtB (c + 2)))) g 3 i (mksHap k n) := by simpa using hF2a.store hlen 2 (.string (mtB (c + 2)))
      have hP3 : Part (w1.setCell ⟨g, i * 3 + 2, none⟩ (.string (mtB (c + 2)))) g (i * 3) [.int .i64 (c : Int), .int .i64 ((c : Int) + 1), .string (mtB (c + 2))] := by simpa using hP2a.store hR2a (n := 2) rfl (by omega) (.string (mtB (c + 2)))
      have hT3 : Touch (fun b => b = g ∧ 0 < n) w (w1.setCell ⟨g, i * 3 + 2, none⟩ (.string (mtB (c + 2)))) := hT2a.set ⟨rfl, by omega⟩ _
      have hF : Filled _ g 3 (i + 1) (mksHap k n) := hF3.step hP3 (by rw [hrow]; simp [mkHap])
      clear hF3 hP3
      go_wp2
      go_roundw
      case rel => exact ⟨i + 1, by omega, by go_num, by rw [HK.out]; go_num, hR3, hF, hT3⟩
      case measure => simp [intOf]; omega
    · have e : i = n := by omega
      subst e
      go_wp2
      go_ret
      exact ⟨rfl, Filled.seq (by unfold mksHap; rw [List.length_map, List.length_range]; exact hF0), hR0, hT0⟩
set_option maxRecDepth 20000 in
set_option maxHeartbeats 4000000 in
theorem laws_heldHapS (n cap k : Nat) (a : Option Addr) (w : World) (hA : SeqAt w a 3 (mksHap k n)) (h0 : 0 < k) (h1 : k + 3 * n < 1000000000) :
    Calls Tryz.prog 26 #[.slice a n cap, .int .i64 k] w fun e w' => e = .returned (.int .i64 ((k + 3 * n : Nat) : Int)) ∧ Below w.heap.size w w' := by
  go_enter Tryz.func26, Tryz.ntmps26
  go_wp2
  go_loopw [1, 5] (fun s t wr => ∃ i : Nat, i ≤ n ∧ t = .int .i64 i ∧ s = .int .i64 ((k + 3 * i : Nat) : Int) ∧ Below w.heap.size w wr) (fun _ t _ => n - (intOf t).toNat)
  case atStart => exact ⟨0, by omega, rfl, rfl, Below.refl _ _⟩
  case round =>
    obtain ⟨i, hi, rfl, rfl, hB0⟩ := hrel
    by_cases hlt : i < n
    · obtain ⟨b, o, rfl, hc⟩ := (hA.below hB0).at (mksHap_at (c := k) hlt)
      have HK : Hid (k + 3 * (i + 1) = (k + 3 * i) + 3) := by simp only [Hid]; omega
      have hc0 : 0 < k + 3 * i := by omega
      have hc1 : k + 3 * i + 3 < 1000000000 := by omega
      generalize k + 3 * i = c at *
      have p00 : wr.cell? ⟨b, o + i * 3, none⟩ = some (.int .i64 (c : Int)) := by simpa using hc 0 _ rfl
      have p10 : wr.cell? ⟨b, o + i * 3 + 1, none⟩ = some (.int .i64 ((c : Int) + 1)) := by simpa using hc 1 _ rfl
      have p20 : wr.cell? ⟨b, o + i * 3 + 2, none⟩ = some (.string (mtB (c + 2))) := by simpa using hc 2 _ rfl
      clear hc
      have hM2 := fun w => laws_markText (c + 2) w (by omega) (by omega)
      rw [show ((c + 2 : Nat) : Int) = (c : Int) + 2 by omega] at hM2
      have cE2 : ∀ dd os, Calls Tryz.prog _ _ (grow (redrawn wr dd) os) fun e w'' => e = .returned (.string (mtB (c + 2))) ∧ ∃ p : Regrown, w'' = grow (redrawn wr p.d) p.os := fun _ _ => Calls.regrown_of (hM2 _)
      have kc2 := cell_regrown p20
      go_wp2_with fail
      refine wp_region_quiet_below (by kernel_rfl) (by kernel_rfl) ?_
      repeat (quiet_step ((go_at_call 64; exact cE2 _ _)))
      refine wpQuiet_nil ?_
      intro w1 hw'
      obtain ⟨⟨dq0, osq0⟩, hw0⟩ := hw'
      have hb1 : Below wr.heap.size wr w1 := hw0 ▸ below_regrown wr dq0 osq0
      have hB1 := hB0.trans (hb1.mono hB0.size)
      clear hw0 kc2 cE2 hM2 hb1
      go_wp2
      go_roundw
      case rel => exact ⟨i + 1, by omega, by go_num, by rw [HK.out]; go_num, hB1⟩
      case measure => simp [intOf]; omega
    · have e : i = n := by omega
      subst e
      go_wp2
      go_ret
      exact ⟨rfl, hB0⟩
end Go.Proofs.YtbbhpfobcelbfaaGreatDoor
namespace Go.Proofs.YtbbhpfobcelbfaaGreatDoor
open Go.RowKit

theorem OwnsH.seq {w : World} {base : Nat} {v : Value} {P : List HapD} (h : OwnsH w base v P) : ∃ a cap, v = .slice a P.length cap ∧ SeqAt w a 3 (P.map HapD.cs) := by
  obtain ⟨a, cap, h1, h2, h3⟩ := seq_of_owns (rows := P.map HapD.cs) (by rw [List.length_map]; exact h) hap_len
  rw [List.length_map] at h1 h3
  exact ⟨a, cap, h1, h2⟩
/-- a list of nothing, numbered. -/
theorem laws_markHap0 (a : Option Addr) (cap k : Nat) (w : World) : Calls Tryz.prog 25 #[.slice a 0 cap, .int .i64 k] w fun e w' => e = .returned (.int .i64 k) ∧ w' = w := by
  go_enter Tryz.func25, Tryz.ntmps25
  go_wp2
  go_loopw [1, 5] (fun s t wr => t = .int .i64 0 ∧ s = .int .i64 k ∧ wr = w) (fun _ _ _ => 0)
  case atStart => exact ⟨rfl, rfl, rfl⟩
  case round =>
    obtain ⟨rfl, rfl, hw⟩ := hrel
    have hw := hw.symm
    subst hw
    go_wp2
    go_ret
    exact ⟨rfl, rfl⟩
/-- what happens, of one's own, numbered. -/
theorem mark_haps (X : List HapD) (v : Value) (base k : Nat) (w : World) (h : OwnsH w base v X) (h0 : 0 < k) (h1 : k + 3 * X.length < 1000000000) :
    Calls Tryz.prog 25 #[v, .int .i64 k] w fun e w' => e = .returned (.int .i64 ((k + 3 * X.length : Nat) : Int)) ∧ (∃ a cap, v = .slice a X.length cap ∧ SeqAt w' a 3 (mksHap k X.length)) ∧ Touch (fun b => v.ownBlock = some b) w w' := by
  rcases h.2 with ⟨hv, hn⟩ | ⟨g, cap, cur, hv, _⟩
  · subst hv
    rw [hn]
    refine (laws_markHap0 none 0 k w).mono ?_
    rintro e w' ⟨rfl, rfl⟩
    exact ⟨rfl, ⟨_, _, rfl, .inl rfl⟩, Touch.refl _ _⟩
  · subst hv
    refine (laws_markHapS X.length g cap k w (room_of_owns h) h0 h1).mono ?_
    rintro e w' ⟨rfl, hS, _, ht⟩
    exact ⟨rfl, ⟨_, _, rfl, hS⟩, ht.mono fun b _ hb => by rw [hb.1]; rfl⟩
theorem SeqAt.touchH {S : Nat → Prop} {w w' : World} {a : Option Addr} {n cap k : Nat} {rows : List (List Value)} (h : SeqAt w a k rows) (ht : Touch S w w') (hs : ∀ g, (Value.slice a n cap).ownBlock = some g → ¬ S g) : SeqAt w' a k rows := by
  rcases h with h | ⟨b, o, rfl, h⟩
  · exact .inl h
  · exact .inr ⟨b, o, rfl, fun i j r c hi hj => ht.cell (hs b rfl) (h i j r c hi hj)⟩
end Go.Proofs.YtbbhpfobcelbfaaGreatDoor
