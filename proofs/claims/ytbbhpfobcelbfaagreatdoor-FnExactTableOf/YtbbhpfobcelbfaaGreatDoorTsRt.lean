/- Packed: MarkTurn TabRel Ts9. -/
import Derived.Test.YtbbhpfobcelbfaaGreatDoorMarkPt
import Derived.Lib.QuietBelow
import Derived.Test.YtbbhpfobcelbfaaGreatDoorAbbrPt
import Derived.Test.YtbbhpfobcelbfaaGreatDoorTb11t
import Derived.Test.YtbbhpfobcelbfaaGreatDoorHpTt
import Derived.Test.YtbbhpfobcelbfaaGreatDoorHp20t
namespace Go.Proofs.YtbbhpfobcelbfaaGreatDoor
open Go.RowKit Go.Sort

def mkTurn (c : Nat) : List Value := [.int .i64 (c : Nat), .int .i64 (c + 1 : Nat), .int .i64 (c + 2 : Nat), .string (mtB (c + 3))]
def mksTurn (c n : Nat) : List (List Value) := (List.range n).map fun i => mkTurn (c + 4 * i)
theorem mksTurn_at {c n i : Nat} (h : i < n) : (mksTurn c n)[i]? = some (mkTurn (c + 4 * i)) := by unfold mksTurn; rw [List.getElem?_map, List.getElem?_range h]; rfl
theorem mksTurn_len {c n : Nat} : ∀ r ∈ mksTurn c n, r.length = 4 := fun r hr => by
  unfold mksTurn at hr
  obtain ⟨i, _, rfl⟩ := List.mem_map.mp hr
  rfl
set_option maxRecDepth 20000 in
set_option maxHeartbeats 4000000 in
theorem laws_markTurnS (n g cap k : Nat) (w : World) (hR0 : Room w g (n * 4)) (h0 : 0 < k) (h1 : k + 4 * n < 1000000000) :
    Calls Tryz.prog 114 #[.slice (some ⟨g, 0, none⟩) n cap, .int .i64 k] w fun e w' => e = .returned (.int .i64 ((k + 4 * n : Nat) : Int)) ∧ SeqAt w' (some ⟨g, 0, none⟩) 4 (mksTurn k n) ∧ Room w' g (n * 4) ∧ Touch (fun b => b = g ∧ 0 < n) w w' := by
  have hlen := @mksTurn_len k n
  go_enter Tryz.func114, Tryz.ntmps114
  go_wp2
  go_loopw [1, 5] (fun s t wr => ∃ i : Nat, i ≤ n ∧ t = .int .i64 i ∧ s = .int .i64 ((k + 4 * i : Nat) : Int) ∧ Room wr g (n * 4) ∧ Filled wr g 4 i (mksTurn k n) ∧ Touch (fun b => b = g ∧ 0 < n) w wr) (fun _ t _ => n - (intOf t).toNat)
  case atStart => exact ⟨0, by omega, rfl, rfl, hR0, fun i j r c h => by omega, Touch.refl _ _⟩
  case round =>
    clear hR0
    obtain ⟨i, hi, rfl, rfl, hR0, hF0, hT0⟩ := hrel
    by_cases hlt : i < n
    · have hrow := mksTurn_at (c := k) hlt
      have HK : Hid (k + 4 * (i + 1) = (k + 4 * i) + 4) := by simp only [Hid]; omega
      have hc0 : 0 < k + 4 * i := by omega
      have hc1 : k + 4 * i + 4 < 1000000000 := by omega
      generalize k + 4 * i = c at *
      have hP0 : Part wr g (i * 4) [] := Part.nil _ _ _
      obtain ⟨⟨u0, hu0⟩, hf0⟩ := hR0 (i * 4) (by omega)
      have hR1 : Room (wr.setCell ⟨g, i * 4, none⟩ (.int .i64 (c : Int))) g (n * 4) := hR0.set _ _
      have hF1 : Filled (wr.setCell ⟨g, i * 4, none⟩ (.int .i64 (c : Int))) g 4 i (mksTurn k n) := by simpa using hF0.store hlen 0 (.int .i64 (c : Int))
      have hP1 : Part (wr.setCell ⟨g, i * 4, none⟩ (.int .i64 (c : Int))) g (i * 4) [.int .i64 (c : Int)] := by simpa using hP0.store hR0 (n := 0) rfl (by omega) (.int .i64 (c : Int))
      have hT1 : Touch (fun b => b = g ∧ 0 < n) w (wr.setCell ⟨g, i * 4, none⟩ (.int .i64 (c : Int))) := hT0.set ⟨rfl, by omega⟩ _
      obtain ⟨⟨u1, hu1⟩, hf1⟩ := hR1 (i * 4 + 1) (by omega)
      have hR2 : Room ((wr.setCell ⟨g, i * 4, none⟩ (.int .i64 (c : Int))).setCell ⟨g, i * 4 + 1, none⟩ (.int .i64 ((c : Int) + 1))) g (n * 4) := hR1.set _ _
      have hF2 : Filled ((wr.setCell ⟨g, i * 4, none⟩ (.int .i64 (c : Int))).setCell ⟨g, i * 4 + 1, none⟩ (.int .i64 ((c : Int) + 1))) g 4 i (mksTurn k n) := by simpa using hF1.store hlen 1 (.int .i64 ((c : Int) + 1))
      have hP2 : Part ((wr.setCell ⟨g, i * 4, none⟩ (.int .i64 (c : Int))).setCell ⟨g, i * 4 + 1, none⟩ (.int .i64 ((c : Int) + 1))) g (i * 4) [.int .i64 (c : Int), .int .i64 ((c : Int) + 1)] := by simpa using hP1.store hR1 (n := 1) rfl (by omega) (.int .i64 ((c : Int) + 1))
      have hT2 : Touch (fun b => b = g ∧ 0 < n) w ((wr.setCell ⟨g, i * 4, none⟩ (.int .i64 (c : Int))).setCell ⟨g, i * 4 + 1, none⟩ (.int .i64 ((c : Int) + 1))) := hT1.set ⟨rfl, by omega⟩ _
      obtain ⟨⟨u2, hu2⟩, hf2⟩ := hR2 (i * 4 + 2) (by omega)
      have hR3 : Room (((wr.setCell ⟨g, i * 4, none⟩ (.int .i64 (c : Int))).setCell ⟨g, i * 4 + 1, none⟩ (.int .i64 ((c : Int) + 1))).setCell ⟨g, i * 4 + 2, none⟩ (.int .i64 ((c : Int) + 1 + 1))) g (n * 4) := hR2.set _ _
      have hF3 : Filled (((wr.setCell ⟨g, i * 4, none⟩ (.int .i64 (c : Int))).setCell ⟨g, i * 4 + 1, none⟩ (.int .i64 ((c : Int) + 1))).setCell ⟨g, i * 4 + 2, none⟩ (.int .i64 ((c : Int) + 1 + 1))) g 4 i (mksTurn k n) := by simpa using hF2.store hlen 2 (.int .i64 ((c : Int) + 1 + 1))
      have hP3 : Part (((wr.setCell ⟨g, i * 4, none⟩ (.int .i64 (c : Int))).setCell ⟨g, i * 4 + 1, none⟩ (.int .i64 ((c : Int) + 1))).setCell ⟨g, i * 4 + 2, none⟩ (.int .i64 ((c : Int) + 1 + 1))) g (i * 4) [.int .i64 (c : Int), .int .i64 ((c : Int) + 1), .int .i64 ((c : Int) + 1 + 1)] := by simpa using hP2.store hR2 (n := 2) rfl (by omega) (.int .i64 ((c : Int) + 1 + 1))
      have hT3 : Touch (fun b => b = g ∧ 0 < n) w (((wr.setCell ⟨g, i * 4, none⟩ (.int .i64 (c : Int))).setCell ⟨g, i * 4 + 1, none⟩ (.int .i64 ((c : Int) + 1))).setCell ⟨g, i * 4 + 2, none⟩ (.int .i64 ((c : Int) + 1 + 1))) := hT2.set ⟨rfl, by omega⟩ _
      have hM3 := fun w => laws_markText (c + 3) w (by omega) (by omega)
      rw [show ((c + 3 : Nat) : Int) = (c : Int) + 1 + 1 + 1 by omega] at hM3
      go_wp2_with fail
      refine (hM3 _).mono ?_
      rintro e w1 ⟨rfl, hb1⟩
      have hR3a := hR3.below hb1
      have hF3a := hF3.below hb1
      have hP3a := hP3.below hb1
      have hT3a := hT3.trans (Touch.of_below (S := fun b => b = g ∧ 0 < n) hb1)
      clear hb1 hR3 hF3 hP3 hT3 hM3
      obtain ⟨⟨u3, hu3⟩, hf3⟩ := hR3a (i * 4 + 3) (by omega)
      have hR4 : Room (w1.setCell ⟨g, i * 4 + 3, none⟩ (.string (mtB (c + 3)))) g (n * 4) := hR3a.set _ _
      have hF4 : Filled (w1.setCell ⟨g, i * 4 + 3, none⟩ (.string (mtB (c + 3)))) g 4 i (mksTurn k n) := by simpa using hF3a.store hlen 3 (.string (mtB (c + 3)))
      have hP4 : Part (w1.setCell ⟨g, i * 4 + 3, none⟩ (.string (mtB (c + 3)))) g (i * 4) [.int .i64 (c : Int), .int .i64 ((c : Int) + 1), .int .i64 ((c : Int) + 1 + 1), .string (mtB (c + 3))] := by simpa using hP3a.store hR3a (n := 3) rfl (by omega) (.string (mtB (c + 3)))
      have hT4 : Touch (fun b => b = g ∧ 0 < n) w (w1.setCell ⟨g, i * 4 + 3, none⟩ (.string (mtB (c + 3)))) := hT3a.set ⟨rfl, by omega⟩ _
      have hF : Filled _ g 4 (i + 1) (mksTurn k n) := hF4.step hP4 (by rw [hrow]; simp [mkTurn, Int.add_assoc])
      clear hF4 hP4
      go_wp2
      go_roundw
      case rel => exact ⟨i + 1, by omega, by go_num, by rw [HK.out]; go_num, hR4, hF, hT4⟩
      case measure => simp [intOf]; omega
    · have e : i = n := by omega
      subst e
      go_wp2
      go_ret
      exact ⟨rfl, Filled.seq (by unfold mksTurn; rw [List.length_map, List.length_range]; exact hF0), hR0, hT0⟩
set_option maxRecDepth 20000 in
set_option maxHeartbeats 4000000 in
theorem laws_heldTurnS (n cap k : Nat) (a : Option Addr) (w : World) (hA : SeqAt w a 4 (mksTurn k n)) (h0 : 0 < k) (h1 : k + 4 * n < 1000000000) :
    Calls Tryz.prog 115 #[.slice a n cap, .int .i64 k] w fun e w' => e = .returned (.int .i64 ((k + 4 * n : Nat) : Int)) ∧ Below w.heap.size w w' := by
  go_enter Tryz.func115, Tryz.ntmps115
  go_wp2
  go_loopw [1, 5] (fun s t wr => ∃ i : Nat, i ≤ n ∧ t = .int .i64 i ∧ s = .int .i64 ((k + 4 * i : Nat) : Int) ∧ Below w.heap.size w wr) (fun _ t _ => n - (intOf t).toNat)
  case atStart => exact ⟨0, by omega, rfl, rfl, Below.refl _ _⟩
  case round =>
    obtain ⟨i, hi, rfl, rfl, hB0⟩ := hrel
    by_cases hlt : i < n
    · obtain ⟨b, o, rfl, hc⟩ := (hA.below hB0).at (mksTurn_at (c := k) hlt)
      have HK : Hid (k + 4 * (i + 1) = (k + 4 * i) + 4) := by simp only [Hid]; omega
      have hc0 : 0 < k + 4 * i := by omega
      have hc1 : k + 4 * i + 4 < 1000000000 := by omega
      generalize k + 4 * i = c at *
      have p00 : wr.cell? ⟨b, o + i * 4, none⟩ = some (.int .i64 (c : Int)) := by simpa using hc 0 _ rfl
      have p10 : wr.cell? ⟨b, o + i * 4 + 1, none⟩ = some (.int .i64 ((c : Int) + 1)) := by simpa using hc 1 _ rfl
      have p20 : wr.cell? ⟨b, o + i * 4 + 2, none⟩ = some (.int .i64 ((c : Int) + 2)) := by simpa using hc 2 _ rfl
      have p30 : wr.cell? ⟨b, o + i * 4 + 3, none⟩ = some (.string (mtB (c + 3))) := by simpa using hc 3 _ rfl
      clear hc
      have hM3 := fun w => laws_markText (c + 3) w (by omega) (by omega)
      rw [show ((c + 3 : Nat) : Int) = (c : Int) + 3 by omega] at hM3
      have cE3 : ∀ dd os, Calls Tryz.prog _ _ (grow (redrawn wr dd) os) fun e w'' => e = .returned (.string (mtB (c + 3))) ∧ ∃ p : Regrown, w'' = grow (redrawn wr p.d) p.os := fun _ _ => Calls.regrown_of (hM3 _)
      have kc3 := cell_regrown p30
      go_wp2_with fail
      refine wp_region_quiet_below (by kernel_rfl) (by kernel_rfl) ?_
      repeat (quiet_step ((go_at_call 64; exact cE3 _ _)))
      refine wpQuiet_nil ?_
      intro w1 hw'
      obtain ⟨⟨dq0, osq0⟩, hw0⟩ := hw'
      have hb1 : Below wr.heap.size wr w1 := hw0 ▸ below_regrown wr dq0 osq0
      have hB1 := hB0.trans (hb1.mono hB0.size)
      clear hw0 kc3 cE3 hM3 hb1
      go_wp2
      go_roundw
      case rel => exact ⟨i + 1, by omega, by go_num, by rw [HK.out]; go_num, hB1⟩
      case measure => simp [intOf]; omega
    · have e : i = n := by omega
      subst e
      go_wp2
      go_ret
      exact ⟨rfl, hB0⟩
end Go.Proofs.YtbbhpfobcelbfaaGreatDoor
namespace Go.Proofs.YtbbhpfobcelbfaaGreatDoor
open Go.RowKit Go.Sort

/-- a table in memory: a list of turns. -/
def TabAt (w : World) (v : Value) (l : List TurnD) : Prop := ∃ a cap, v = .agg #[.slice a l.length cap] ∧ SeqAt w a 4 (l.map TurnD.cs)
theorem TabAt.below {w w' : World} {v : Value} {l : List TurnD} (h : TabAt w v l) (hb : Below w.heap.size w w') : TabAt w' v l := by
  obtain ⟨a, cap, rfl, hA⟩ := h
  exact ⟨a, cap, rfl, hA.below hb⟩
/-- a table of one's own memory, from a block on. -/
def OwnTab (w : World) (B : Nat) (v : Value) (l : List TurnD) : Prop := ∃ g, v = .agg #[.slice (some ⟨g, 0, none⟩) l.length l.length] ∧ B ≤ g ∧ SeqAt w (some ⟨g, 0, none⟩) 4 (l.map TurnD.cs) ∧ Room w g (l.length * 4)
theorem OwnTab.tab {w : World} {B : Nat} {v : Value} {l : List TurnD} (h : OwnTab w B v l) : TabAt w v l := by
  obtain ⟨g, hv, _, h1, _⟩ := h
  exact ⟨_, _, hv, h1⟩
theorem OwnTab.below {w w' : World} {B : Nat} {v : Value} {l : List TurnD} (h : OwnTab w B v l) (hb : Below w.heap.size w w') : OwnTab w' B v l := by
  obtain ⟨g, hv, hg, h1, h2⟩ := h
  exact ⟨g, hv, hg, h1.below hb, h2.below hb⟩
theorem ne_blk2T {p q i j : Nat} (h : p ≠ q) : (⟨p, i, none⟩ : Addr) ≠ ⟨q, j, none⟩ := fun e => by injection e with e1; exact h e1
theorem SeqAt.keepT {w w' : World} {g k : Nat} {rows : List (List Value)} (h : SeqAt w (some ⟨g, 0, none⟩) k rows) (hc : ∀ x, w'.cell? ⟨g, x, none⟩ = w.cell? ⟨g, x, none⟩) : SeqAt w' (some ⟨g, 0, none⟩) k rows := by
  rcases h with h | ⟨b, o, ha, hh⟩
  · exact .inl h
  · injection ha with ha
    injection ha with h1 h2
    subst h1 h2
    exact .inr ⟨_, _, rfl, fun i j r c hi hj => by rw [hc]; exact hh i j r c hi hj⟩
theorem Room.keepT {w w' : World} {g m : Nat} (h : Room w g m) (hc : ∀ x, w'.cell? ⟨g, x, none⟩ = w.cell? ⟨g, x, none⟩) (hf : ∀ x, w'.frozen? ⟨g, x, none⟩ = w.frozen? ⟨g, x, none⟩) : Room w' g m := fun x hx => by
  obtain ⟨⟨v, hv⟩, hz⟩ := h x hx
  exact ⟨⟨v, by rw [hc]; exact hv⟩, by rw [hf]; exact hz⟩
set_option maxHeartbeats 1000000 in
theorem laws_eqTable (l : List TurnD) (v v2 : Value) (w : World) (hv : TabAt w v l) (hv2 : TabAt w v2 l) (hl : l.length ≤ 1048576) :
    Calls Tryz.prog 65 #[v, v2] w fun e w' => e = .returned (.bool true) ∧ Below w.heap.size w w' := by
  obtain ⟨a, cap, rfl, hA⟩ := hv
  obtain ⟨a2, cap2, rfl, hA2⟩ := hv2
  have hR := fun w (h : SeqAt w a 4 (l.map TurnD.cs)) (h2 : SeqAt w a2 4 (l.map TurnD.cs)) => laws_eqTurnS l a a2 cap cap2 w h h2 hl
  have hb0 : ∀ o o2, Below w.heap.size w ((w.alloc o).alloc o2) := fun o o2 => ((Below.refl _ _).alloc (Nat.le_refl _) o).alloc (by simp) o2
  go_enter Tryz.func65, Tryz.ntmps65
  go_wp2_with fail
  refine (hR _ (hA.below (hb0 _ _)) (hA2.below (hb0 _ _))).mono ?_
  rintro e w1 ⟨rfl, hb1⟩
  go_wp2
  go_ret
  exact ⟨rfl, (hb0 _ _).trans (hb1.mono (by simp; omega))⟩
end Go.Proofs.YtbbhpfobcelbfaaGreatDoor
namespace Go.Proofs.YtbbhpfobcelbfaaGreatDoor
open Go.RowKit Go.Sort

theorem tabD_len (r : RelD) (nm : ByteArray) : (tabD r nm).2.length ≤ 600 := by
  unfold tabD
  split
  · split
    · split
      · simp
      · split
        · rename_i h
          unfold tabE at h ⊢
          split at h
          · rename_i h2
            rw [if_pos h2]
            exact of_decide_eq_true h
          · cases h
        · simp
    · simp
  · simp
/-- a list of no turns, numbered. -/
theorem laws_markTurn0 (a : Option Addr) (cap k : Nat) (w : World) : Calls Tryz.prog 114 #[.slice a 0 cap, .int .i64 k] w fun e w' => e = .returned (.int .i64 k) ∧ w' = w := by
  go_enter Tryz.func114, Tryz.ntmps114
  go_wp2
  go_loopw [1, 5] (fun s t wr => t = .int .i64 0 ∧ s = .int .i64 k ∧ wr = w) (fun _ _ _ => 0)
  case atStart => exact ⟨rfl, rfl, rfl⟩
  case round =>
    obtain ⟨rfl, rfl, hw⟩ := hrel
    have hw := hw.symm
    subst hw
    go_wp2
    go_ret
    exact ⟨rfl, rfl⟩
/-- turns of one's own, numbered. -/
theorem mark_turns (X : List TurnD) (v : Value) (base k : Nat) (w : World) (h : OwnsT w base v X) (h0 : 0 < k) (h1 : k + 4 * X.length < 1000000000) :
    Calls Tryz.prog 114 #[v, .int .i64 k] w fun e w' => e = .returned (.int .i64 ((k + 4 * X.length : Nat) : Int)) ∧ (∃ a cap, v = .slice a X.length cap ∧ SeqAt w' a 4 (mksTurn k X.length)) ∧ Touch (fun b => v.ownBlock = some b) w w' := by
  rcases h.2 with ⟨hv, hn⟩ | ⟨g, cap, cur, hv, _⟩
  · subst hv
    rw [hn]
    refine (laws_markTurn0 none 0 k w).mono ?_
    rintro e w' ⟨rfl, rfl⟩
    exact ⟨rfl, ⟨_, _, rfl, .inl rfl⟩, Touch.refl _ _⟩
  · subst hv
    refine (laws_markTurnS X.length g cap k w (room_of_owns h) h0 h1).mono ?_
    rintro e w' ⟨rfl, hS, _, ht⟩
    exact ⟨rfl, ⟨_, _, rfl, hS⟩, ht.mono fun b _ hb => by rw [hb.1]; rfl⟩
set_option maxHeartbeats 1000000 in
theorem laws_eqTableOut (l : List TurnD) (a a2 : Option Addr) (c c2 : Nat) (cd : Int) (w : World) (hA : SeqAt w a 4 (l.map TurnD.cs)) (hA2 : SeqAt w a2 4 (l.map TurnD.cs)) (hl : l.length ≤ 1048576) :
    Calls Tryz.prog 27 #[.agg #[.slice a l.length c, .int .i64 cd], .agg #[.slice a2 l.length c2, .int .i64 cd]] w fun e w' => e = .returned (.bool true) ∧ Below w.heap.size w w' := by
  have hR := fun w (h : SeqAt w a 4 (l.map TurnD.cs)) (h2 : SeqAt w a2 4 (l.map TurnD.cs)) => laws_eqTable l _ _ w ⟨a, c, rfl, h⟩ ⟨a2, c2, rfl, h2⟩ hl
  have hb0 := ((Below.refl w.heap.size w).alloc (Nat.le_refl _) (.cells #[.slice a l.length c, .int .i64 cd] 44)).alloc (by simp) (.cells #[.slice a2 l.length c2, .int .i64 cd] 44)
  have x1 : ((w.alloc (.cells #[.slice a l.length c, .int .i64 cd] 44)).alloc (.cells #[.slice a2 l.length c2, .int .i64 cd] 44)).cell? ⟨w.heap.size, 1, none⟩ = some (.int .i64 cd) := by simp [go_sem]
  have y1 : ((w.alloc (.cells #[.slice a l.length c, .int .i64 cd] 44)).alloc (.cells #[.slice a2 l.length c2, .int .i64 cd] 44)).cell? ⟨w.heap.size + 1, 1, none⟩ = some (.int .i64 cd) := by simp [go_sem]
  go_enter Tryz.func27, Tryz.ntmps27
  go_wp2_with fail
  refine (hR _ (hA.below hb0) (hA2.below hb0)).mono ?_
  rintro e w1 ⟨rfl, hb1⟩
  have x2 := keepC hb1 x1
  have y2 := keepC hb1 y1
  go_wp2
  go_ret
  exact ⟨rfl, hb0.trans (hb1.mono hb0.size)⟩
set_option maxHeartbeats 1000000 in
theorem laws_markTable (X : List TurnD) (v : Value) (base k : Nat) (w : World) (h : OwnsT w base v X) (h0 : 0 < k) (h1 : k + 4 * X.length < 1000000000) :
    Calls Tryz.prog 66 #[.agg #[v], .int .i64 k] w fun e w' => e = .returned (.int .i64 ((k + 4 * X.length : Nat) : Int)) ∧ (∃ a cap, v = .slice a X.length cap ∧ SeqAt w' a 4 (mksTurn k X.length)) ∧ Touch (fun b => v.ownBlock = some b) w w' := by
  obtain ⟨a, cap, rfl, _⟩ := h.seq
  have hb0 := (Below.refl w.heap.size w).alloc (Nat.le_refl _) (.cells #[.slice a X.length cap] 42)
  have hM := mark_turns X _ base k (w.alloc (.cells #[.slice a X.length cap] 42)) (owns_below h hb0) h0 h1
  generalize hd : k + 4 * X.length = d at *
  go_enter Tryz.func66, Tryz.ntmps66
  go_wp2_with fail
  refine hM.mono ?_
  rintro e w1 ⟨rfl, hs, ht⟩
  have HS : Hid (∃ a' cap', Value.slice a X.length cap = .slice a' X.length cap' ∧ SeqAt w1 a' 4 (mksTurn k X.length)) := hs
  clear hs hM
  go_wp2
  go_ret
  exact ⟨rfl, HS.out, (Touch.of_below hb0).trans ht⟩
set_option maxHeartbeats 1000000 in
theorem laws_markTableOut (X : List TurnD) (v : Value) (cd : Int) (base k : Nat) (w : World) (h : OwnsT w base v X) (h0 : 0 < k) (h1 : k + 4 * X.length < 1000000000) :
    Calls Tryz.prog 28 #[.agg #[v, .int .i64 cd], .int .i64 k] w fun e w' => e = .returned (.int .i64 ((k + 4 * X.length : Nat) : Int)) ∧ (∃ a cap, v = .slice a X.length cap ∧ SeqAt w' a 4 (mksTurn k X.length)) ∧ Touch (fun b => v.ownBlock = some b) w w' := by
  obtain ⟨a, cap, rfl, _⟩ := h.seq
  have hb0 := (Below.refl w.heap.size w).alloc (Nat.le_refl _) (.cells #[.slice a X.length cap, .int .i64 cd] 44)
  have hM := laws_markTable X _ base k (w.alloc (.cells #[.slice a X.length cap, .int .i64 cd] 44)) (owns_below h hb0) h0 h1
  generalize hd : k + 4 * X.length = d at *
  go_enter Tryz.func28, Tryz.ntmps28
  go_wp2_with fail
  refine hM.mono ?_
  rintro e w1 ⟨rfl, hs, ht⟩
  have HS : Hid (∃ a' cap', Value.slice a X.length cap = .slice a' X.length cap' ∧ SeqAt w1 a' 4 (mksTurn k X.length)) := hs
  clear hs hM
  go_wp2
  go_ret
  exact ⟨rfl, HS.out, (Touch.of_below hb0).trans ht⟩
set_option maxHeartbeats 1000000 in
theorem laws_heldTable (n cap k : Nat) (a : Option Addr) (w : World) (hA : SeqAt w a 4 (mksTurn k n)) (h0 : 0 < k) (h1 : k + 4 * n < 1000000000) :
    Calls Tryz.prog 67 #[.agg #[.slice a n cap], .int .i64 k] w fun e w' => e = .returned (.int .i64 ((k + 4 * n : Nat) : Int)) ∧ Below w.heap.size w w' := by
  have hb0 := (Below.refl w.heap.size w).alloc (Nat.le_refl _) (.cells #[.slice a n cap] 42)
  have hM := laws_heldTurnS n cap k a (w.alloc (.cells #[.slice a n cap] 42)) (hA.below hb0) h0 h1
  have hd3 : (0 : Int) ≤ ((k + 4 * n : Nat) : Int) := by omega
  generalize hd : k + 4 * n = d at *
  go_enter Tryz.func67, Tryz.ntmps67
  go_wp2_with fail
  refine hM.mono ?_
  rintro e w1 ⟨rfl, hb1⟩
  go_wp2
  go_ret
  exact ⟨rfl, hb0.trans (hb1.mono hb0.size)⟩
set_option maxHeartbeats 1000000 in
theorem laws_heldTableOut (n cap k : Nat) (cd : Int) (a : Option Addr) (w : World) (hA : SeqAt w a 4 (mksTurn k n)) (h0 : 0 < k) (h1 : k + 4 * n < 1000000000) :
    Calls Tryz.prog 29 #[.agg #[.slice a n cap, .int .i64 cd], .int .i64 k] w fun e w' => e = .returned (.int .i64 ((k + 4 * n : Nat) : Int)) ∧ Below w.heap.size w w' := by
  have hb0 := (Below.refl w.heap.size w).alloc (Nat.le_refl _) (.cells #[.slice a n cap, .int .i64 cd] 44)
  have hM := laws_heldTable n cap k a (w.alloc (.cells #[.slice a n cap, .int .i64 cd] 44)) (hA.below hb0) h0 h1
  have hd3 : (0 : Int) ≤ ((k + 4 * n : Nat) : Int) := by omega
  generalize hd : k + 4 * n = d at *
  go_enter Tryz.func29, Tryz.ntmps29
  go_wp2_with fail
  refine hM.mono ?_
  rintro e w1 ⟨rfl, hb1⟩
  go_wp2
  go_ret
  exact ⟨rfl, hb0.trans (hb1.mono hb0.size)⟩
end Go.Proofs.YtbbhpfobcelbfaaGreatDoor
