/- Does a wall time resolve otherwise by another table: the program's. -/
import Derived.Test.YtjfonbnmdcpepaaStr9
import Derived.Lib.QuietBelow
import Derived.Laws.StructEq
namespace Go.Proofs.Ytjfonbnmdcpepaa
open Go.RowKit Go.Sort

def changedD (la lb : List TurnD) (n g f : Int) : Bool := tabB la && (tabB lb && decide (resD la n g f ≠ resD lb n g f))
theorem changed_no1 {la lb : List TurnD} {n g f : Int} (h : tabB la = false) : changedD la lb n g f = false := by unfold changedD; rw [h]; rfl
theorem changed_no2 {la lb : List TurnD} {n g f : Int} (h : tabB lb = false) : changedD la lb n g f = false := by unfold changedD; rw [h]; simp
theorem changed_yes {la lb : List TurnD} {n g f : Int} (h : tabB la = true) (h2 : tabB lb = true) : changedD la lb n g f = decide (resD la n g f ≠ resD lb n g f) := by unfold changedD; rw [h, h2]; rfl
set_option maxRecDepth 100000 in
theorem fields_out : ∃ a b c d e f, (Try.prog.fieldsOf 29).toList = [⟨ "N", 2, 0, false, a, b, c⟩, ⟨ "Code", 2, 1, false, d, e, f⟩] := ⟨_, _, _, _, _, _, rfl⟩
theorem neq_out (p1 p2 q1 q2 : Int) (w : World) : (binOp .neq 29 (.agg #[.int .i64 p1, .int .i64 p2]) (.agg #[.int .i64 q1, .int .i64 q2])).run Try.prog w = .ok (.bool (decide ((p1, p2) ≠ (q1, q2)))) w := by
  have ht : Try.prog.underlying 29 = some (.struct (Try.prog.fieldsOf 29)) := by kernel_rfl
  have hp : Try.prog.stoodInHeld 29 = false := by kernel_rfl
  obtain ⟨a, b, c, d, e, f, hf⟩ := fields_out
  rw [run_neq_struct, run_equalIn_agg _ 9999 _ _ _ ht hp, hf]
  simp [Op.eqFields, go_sem]
  by_cases h1 : p1 = q1
  · by_cases h2 : p2 = q2
    · simp [h1, h2]
    · simp [h1, h2]
  · simp [h1]
theorem guard_out (x y : Operand) (p1 p2 q1 q2 : Int) (w : World) : (eqGuard .neq 29 x y (.agg #[.int .i64 p1, .int .i64 p2]) (.agg #[.int .i64 q1, .int .i64 q2])).run Try.prog w = .ok () w := run_eqGuard_agg w _ _ _ _ _ _ (by kernel_rfl)
set_option maxRecDepth 20000 in
set_option maxHeartbeats 2000000 in
theorem impl_Changed (la lb : List TurnD) (va vb : Value) (n g f : Int) (w : World) (hva : TabAt w va la) (hvb : TabAt w vb lb) (oka : ∀ r ∈ la, r.ok) (okb : ∀ r ∈ lb, r.ok) (hla : la.length ≤ 1048576) (hlb : lb.length ≤ 1048576) :
    Calls Try.prog 36 #[va, vb, .int .i64 n, .int .i64 g, .int .i64 f] w fun e w' => e = .returned (.bool (changedD la lb n g f)) ∧ Below w.heap.size w w' := by
  obtain ⟨a, cap, rfl, hA⟩ := hva
  obtain ⟨b, capb, rfl, hAb⟩ := hvb
  have hva : TabAt w (.agg #[.slice a la.length cap]) la := ⟨a, cap, rfl, hA⟩
  have hvb : TabAt w (.agg #[.slice b lb.length capb]) lb := ⟨b, capb, rfl, hAb⟩
  clear hA hAb
  have hB0 := fun o o2 => ((Below.refl w.heap.size w).alloc (Nat.le_refl _) o).alloc (by simp) o2
  have hRa := fun w (h : TabAt w (.agg #[.slice a la.length cap]) la) => impl_TableRight la _ w h oka hla
  have hRb := fun w (h : TabAt w (.agg #[.slice b lb.length capb]) lb) => impl_TableRight lb _ w h okb hlb
  have KEEP : ∀ w1, Below ((w.alloc (.cells #[.slice a la.length cap] 25)).alloc (.cells #[.slice b lb.length capb] 25)).heap.size ((w.alloc (.cells #[.slice a la.length cap] 25)).alloc (.cells #[.slice b lb.length capb] 25)) w1 →
      w1.cell? ⟨w.heap.size, 0, none⟩ = some (.slice a la.length cap) ∧ w1.cell? ⟨w.heap.size + 1, 0, none⟩ = some (.slice b lb.length capb) ∧ Below w.heap.size w w1 := fun w1 hb1 => by
    obtain ⟨hc1, hf1⟩ := bcell hb1
    exact ⟨(hc1 _ _ (by simp; omega)).trans (by simp [go_sem]), (hc1 _ _ (by simp)).trans (by simp [go_sem]), (hB0 _ _).trans (hb1.mono (by simp; omega))⟩
  cases ha : tabB la
  · rw [changed_no1 ha]
    rw [ha] at hRa
    go_enter Try.func36, Try.ntmps36
    go_wp2_with fail
    refine (hRa _ (hva.below (hB0 _ _))).mono ?_
    rintro e w1 ⟨rfl, hb1⟩
    go_wp2
    go_ret
    exact ⟨rfl, (KEEP w1 hb1).2.2⟩
  rw [ha] at hRa
  cases hb : tabB lb
  · rw [changed_no2 hb]
    rw [hb] at hRb
    go_enter Try.func36, Try.ntmps36
    go_wp2_with fail
    refine (hRa _ (hva.below (hB0 _ _))).mono ?_
    rintro e w1 ⟨rfl, hb1⟩
    obtain ⟨c0, c1, hB1⟩ := KEEP w1 hb1
    go_wp2_with fail
    refine (hRb _ (hvb.below hB1)).mono ?_
    rintro e w2 ⟨rfl, hb2⟩
    go_wp2
    go_ret
    exact ⟨rfl, hB1.trans (hb2.mono hB1.size)⟩
  rw [hb] at hRb
  rw [changed_yes ha hb]
  clear ha hb
  have hSa := fun w (h : TabAt w (.agg #[.slice a la.length cap]) la) => impl_Resolve la _ n g f w h oka hla
  have hSb := fun w (h : TabAt w (.agg #[.slice b lb.length capb]) lb) => impl_Resolve lb _ n g f w h okb hlb
  generalize resD la n g f = R1 at *
  generalize resD lb n g f = R2 at *
  obtain ⟨p1, p2⟩ := R1
  obtain ⟨q1, q2⟩ := R2
  unfold outV at hSa hSb
  go_enter Try.func36, Try.ntmps36
  go_wp2_with fail
  refine (hRa _ (hva.below (hB0 _ _))).mono ?_
  rintro e w1 ⟨rfl, hb1⟩
  obtain ⟨c0, c1, hB1⟩ := KEEP w1 hb1
  clear KEEP hb1
  go_wp2_with fail
  refine (hRb _ (hvb.below hB1)).mono ?_
  rintro e w2 ⟨rfl, hb2⟩
  have hB2 := hB1.trans (hb2.mono hB1.size)
  have d0 := ((bcell hb2).1 _ _ (World.block_lt_of_cell? _ _ c0)).trans c0
  have d1 := ((bcell hb2).1 _ _ (World.block_lt_of_cell? _ _ c1)).trans c1
  have va2 := hva.below hB2
  have vb2 := hvb.below hB2
  clear hb2 c0 c1 hB1 hRa hRb hva hvb hB0
  have cA : ∀ dd os, Calls Try.prog _ _ (grow (redrawn w2 dd) os) fun e w'' => e = .returned (.agg #[.int .i64 p1, .int .i64 p2]) ∧ ∃ p : Regrown, w'' = grow (redrawn w2 p.d) p.os := fun dd os => Calls.regrown_of (hSa _ (va2.below (below_regrown w2 dd os)))
  have cB : ∀ dd os, Calls Try.prog _ _ (grow (redrawn w2 dd) os) fun e w'' => e = .returned (.agg #[.int .i64 q1, .int .i64 q2]) ∧ ∃ p : Regrown, w'' = grow (redrawn w2 p.d) p.os := fun dd os => Calls.regrown_of (hSb _ (vb2.below (below_regrown w2 dd os)))
  have hcmp := neq_out p1 p2 q1 q2
  have hgrd := fun x y => guard_out x y p1 p2 q1 q2
  obtain ⟨z, hz⟩ : ∃ z, decide ((p1, p2) ≠ (q1, q2)) = z := ⟨_, rfl⟩
  have HZ : Hid (z = decide ((p1, p2) ≠ (q1, q2))) := hz.symm
  rw [hz] at hcmp
  clear hz
  have kc0 := cell_regrown d0
  have kc1 := cell_regrown d1
  go_wp2_with fail
  refine wp_region_quiet_below (by kernel_rfl) (by kernel_rfl) ?_
  repeat (quiet_step ((go_at_call 20; first | with_reducible exact cA _ _ | with_reducible exact cB _ _)))
  refine wpQuiet_nil ?_
  intro _ hw'
  obtain ⟨⟨dq, osq⟩, hw''⟩ := hw'
  subst hw''
  have hb3 := below_regrown w2 dq osq
  go_wp2
  go_ret
  exact ⟨ret_bool HZ.out, hB2.trans (hb3.mono hB2.size)⟩
end Go.Proofs.Ytjfonbnmdcpepaa
