/- Lists of Rules: how much they hold, copied, held against each other. -/
import Derived.Test.YtjdokmllidhapaaGreatDoorRel2
import Derived.Lib.QuietBelow
namespace Go.Proofs.YtjdokmllidhapaaGreatDoor
open Go.RowKit Go.Sort

set_option maxHeartbeats 1000000 in
theorem laws_toRule (r : RuleD) (w : World) :
    Calls Tryz.prog 130 #[r.v] w fun e w' => e = .returned r.v ∧ Below w.heap.size w w' := by
  obtain ⟨name, lo, hi, month, on, at_, of, save, letter⟩ := r
  simp only [RuleD.v] at *
  go_enter Tryz.func130, Tryz.ntmps130
  go_wp2
  exact bodyPost_ret (v := .agg #[.string name, .int .i64 lo, .int .i64 hi, .int .i64 month, .string on, .int .i64 at_, .string of, .int .i64 save, .string letter]) (by simp [results, Tryz.results130, go_sem]) rfl ⟨rfl, (((Below.refl _ _).alloc (Nat.le_refl _) _).alloc (by simp) _).alloc (by simp; omega) _⟩
set_option maxRecDepth 100000 in
theorem infoRule : ∃ i : TypeInfo, Tryz.prog.info? 104 = some i ∧ i.zero = some (.agg #[.string ⟨#[]⟩, .int .i64 0, .int .i64 0, .int .i64 0, .string ⟨#[]⟩, .int .i64 0, .string ⟨#[]⟩, .int .i64 0, .string ⟨#[]⟩]) ∧ i.size = 9 ∧ i.bytes = 104 := ⟨_, rfl, rfl, rfl, rfl⟩
theorem RuleD.len (r : RuleD) : r.cs.length = 9 := rfl
set_option maxHeartbeats 2000000 in
theorem laws_toRuleS (l : List RuleD) (a : Option Addr) (cap : Nat) (w : World) (hA : SeqAt w a 9 (l.map RuleD.cs)) (hl : l.length ≤ 1048576) :
    Calls Tryz.prog 66 #[.slice a l.length cap] w fun e w' => e = .returned (.slice (some ⟨w.heap.size, 0, none⟩) l.length l.length) ∧ SeqAt w' (some ⟨w.heap.size, 0, none⟩) 9 (l.map RuleD.cs) ∧ Room w' w.heap.size (l.length * 9) ∧ Below w.heap.size w w' := by
  obtain ⟨i0, hi, hz0, hz1, hz2⟩ := infoRule
  obtain ⟨w1, hrun, hown, hgr⟩ := run_make_full (P := Tryz.prog) w w.heap.size 23 104 i0 _ 9 Tryz.underlying23 hi hz0 hz1 .i64 .i64 l.length (by rw [hz2]; omega) (by unfold maxLen; omega) (Nat.le_refl _)
  have hR := room_of hown
  have hB : Below w.heap.size w w1 := (Below.refl _ _).grown hgr (Nat.le_refl _) (fun k hk => by cases hk)
  have hrl : (l.map RuleD.cs).length = l.length := by simp
  have hlen : ∀ r ∈ l.map RuleD.cs, r.length = 9 := fun r hr => by
    obtain ⟨x, _, rfl⟩ := List.mem_map.mp hr; rfl
  clear hi hz0 hz1 hz2 hown hgr
  go_enter Tryz.func66, Tryz.ntmps66
  go_wp2
  go_loopw [4] (fun i wr => ∃ k : Nat, k ≤ l.length ∧ i = .int .i64 k ∧ Room wr w.heap.size (l.length * 9) ∧ Filled wr w.heap.size 9 k (l.map RuleD.cs) ∧ Below w.heap.size w wr) (fun i _ => l.length - (intOf i).toNat)
  case atStart => exact ⟨0, by omega, rfl, hR, fun i j r c h => by omega, hB⟩
  case round =>
    clear hR hB hrun
    obtain ⟨k, hk, rfl, hR, hF, hB⟩ := hrel
    by_cases hlt : k < l.length
    · obtain ⟨r, hr⟩ : ∃ r, l[k]? = some r := ⟨_, List.getElem?_eq_getElem hlt⟩
      have hrow : (l.map RuleD.cs)[k]? = some r.cs := by rw [List.getElem?_map, hr]; rfl
      obtain ⟨b, o, rfl, hc⟩ := (hA.below hB).at (i := k) hrow
      have hS := fun w => laws_toRule r w
      have c0 : wr.cell? ⟨b, o + k * 9, none⟩ = some (.string r.name) := hc 0 _ rfl
      have c1 := hc 1 _ rfl
      have c2 := hc 2 _ rfl
      have c3 := hc 3 _ rfl
      have c4 := hc 4 _ rfl
      have c5 := hc 5 _ rfl
      have c6 := hc 6 _ rfl
      have c7 := hc 7 _ rfl
      have c8 := hc 8 _ rfl
      clear hc
      unfold RuleD.v at hS
      go_wp2_with fail
      refine (hS _).mono ?_
      rintro e w2 ⟨rfl, hb2⟩
      have hR2 := hR.below hb2
      have hF2 := hF.below hb2
      have hB2 := hB.trans (hb2.mono hB.size)
      have hkm : k * 9 + 9 ≤ l.length * 9 := by omega
      obtain ⟨⟨u0, hu0⟩, hf0⟩ := hR2 (k * 9) (by omega)
      obtain ⟨⟨u1, hu1⟩, hf1⟩ := hR2 (k * 9 + 1) (by omega)
      obtain ⟨⟨u2, hu2⟩, hf2⟩ := hR2 (k * 9 + 2) (by omega)
      obtain ⟨⟨u3, hu3⟩, hf3⟩ := hR2 (k * 9 + 3) (by omega)
      obtain ⟨⟨u4, hu4⟩, hf4⟩ := hR2 (k * 9 + 4) (by omega)
      obtain ⟨⟨u5, hu5⟩, hf5⟩ := hR2 (k * 9 + 5) (by omega)
      obtain ⟨⟨u6, hu6⟩, hf6⟩ := hR2 (k * 9 + 6) (by omega)
      obtain ⟨⟨u7, hu7⟩, hf7⟩ := hR2 (k * 9 + 7) (by omega)
      obtain ⟨⟨u8, hu8⟩, hf8⟩ := hR2 (k * 9 + 8) (by omega)
      have hW : putAll w2 w.heap.size (k * 9) r.cs = (((((((((w2.setCell ⟨w.heap.size, k * 9, none⟩ (.string r.name)).setCell ⟨w.heap.size, k * 9 + 1, none⟩ (.int .i64 r.lo)).setCell ⟨w.heap.size, k * 9 + 2, none⟩ (.int .i64 r.hi)).setCell ⟨w.heap.size, k * 9 + 3, none⟩ (.int .i64 r.month)).setCell ⟨w.heap.size, k * 9 + 4, none⟩ (.string r.on)).setCell ⟨w.heap.size, k * 9 + 5, none⟩ (.int .i64 r.at_)).setCell ⟨w.heap.size, k * 9 + 6, none⟩ (.string r.of)).setCell ⟨w.heap.size, k * 9 + 7, none⟩ (.int .i64 r.save)).setCell ⟨w.heap.size, k * 9 + 8, none⟩ (.string r.letter)) := by simp only [putAll, RuleD.cs, Nat.add_assoc, Nat.reduceAdd]
      have R3 := putAll_room (cs := r.cs) (o := k * 9) hR2
      have F3 := hF2.put hR2 hrow rfl hkm hlen
      have B3 := putAll_below (cs := r.cs) (o := k * 9) hB2 (Nat.le_refl _)
      rw [hW] at R3 F3 B3
      clear hW hR2 hF2 hB2
      go_wp2
      go_roundw
      case rel => exact ⟨k + 1, by omega, by go_num, R3, F3, B3⟩
      case measure => simp [intOf]; omega
    · have e : k = l.length := by omega
      subst e
      go_wp2
      go_ret
      exact ⟨rfl, Filled.seq (by rw [hrl]; exact hF), hR, hB⟩
set_option maxHeartbeats 1000000 in
theorem laws_eqRule (r : RuleD) (w : World) :
    Calls Tryz.prog 146 #[r.v, r.v] w fun e w' => e = .returned (.bool true) ∧ Below w.heap.size w w' := by
  obtain ⟨name, lo, hi, month, on, at_, of, save, letter⟩ := r
  simp only [RuleD.v] at *
  go_enter Tryz.func146, Tryz.ntmps146
  go_wp2
  go_ret
  exact ⟨rfl, ((Below.refl _ _).alloc (Nat.le_refl _) _).alloc (by simp) _⟩
set_option maxHeartbeats 2000000 in
theorem laws_eqRuleS (l : List RuleD) (a a2 : Option Addr) (cap cap2 : Nat) (w : World) (hA : SeqAt w a 9 (l.map RuleD.cs)) (hA2 : SeqAt w a2 9 (l.map RuleD.cs)) (hl : l.length ≤ 1048576) :
    Calls Tryz.prog 78 #[.slice a l.length cap, .slice a2 l.length cap2] w fun e w' => e = .returned (.bool true) ∧ Below w.heap.size w w' := by
  go_enter Tryz.func78, Tryz.ntmps78
  go_wp2
  go_loopw [5] (fun i wr => ∃ k : Nat, k ≤ l.length ∧ i = .int .i64 k ∧ Below w.heap.size w wr) (fun i _ => l.length - (intOf i).toNat)
  case atStart => exact ⟨0, by omega, rfl, Below.refl _ _⟩
  case round =>
    obtain ⟨k, hk, rfl, hB⟩ := hrel
    by_cases hlt : k < l.length
    · obtain ⟨r, hr⟩ : ∃ r, l[k]? = some r := ⟨_, List.getElem?_eq_getElem hlt⟩
      have hrow : (l.map RuleD.cs)[k]? = some r.cs := by rw [List.getElem?_map, hr]; rfl
      obtain ⟨b, o, rfl, hc⟩ := (hA.below hB).at (i := k) hrow
      obtain ⟨b2, o2, rfl, hd⟩ := (hA2.below hB).at (i := k) hrow
      have hS := fun w => laws_eqRule r w
      have c0 : wr.cell? ⟨b, o + k * 9, none⟩ = some (.string r.name) := hc 0 _ rfl
      have d0 : wr.cell? ⟨b2, o2 + k * 9, none⟩ = some (.string r.name) := hd 0 _ rfl
      have c1 := hc 1 _ rfl
      have d1 := hd 1 _ rfl
      have c2 := hc 2 _ rfl
      have d2 := hd 2 _ rfl
      have c3 := hc 3 _ rfl
      have d3 := hd 3 _ rfl
      have c4 := hc 4 _ rfl
      have d4 := hd 4 _ rfl
      have c5 := hc 5 _ rfl
      have d5 := hd 5 _ rfl
      have c6 := hc 6 _ rfl
      have d6 := hd 6 _ rfl
      have c7 := hc 7 _ rfl
      have d7 := hd 7 _ rfl
      have c8 := hc 8 _ rfl
      have d8 := hd 8 _ rfl
      clear hc hd
      unfold RuleD.v at hS
      have cE : ∀ dd os, Calls Tryz.prog _ _ (grow (redrawn wr dd) os) fun e w'' => e = .returned (.bool true) ∧ ∃ p : Regrown, w'' = grow (redrawn wr p.d) p.os := fun _ _ => Calls.regrown_of (hS _)
      have kc0 := cell_regrown c0
      have kd0 := cell_regrown d0
      have kc1 := cell_regrown c1
      have kd1 := cell_regrown d1
      have kc2 := cell_regrown c2
      have kd2 := cell_regrown d2
      have kc3 := cell_regrown c3
      have kd3 := cell_regrown d3
      have kc4 := cell_regrown c4
      have kd4 := cell_regrown d4
      have kc5 := cell_regrown c5
      have kd5 := cell_regrown d5
      have kc6 := cell_regrown c6
      have kd6 := cell_regrown d6
      have kc7 := cell_regrown c7
      have kd7 := cell_regrown d7
      have kc8 := cell_regrown c8
      have kd8 := cell_regrown d8
      go_wp2_with fail
      refine wp_region_quiet_below (by kernel_rfl) (by kernel_rfl) ?_
      repeat (quiet_step ((go_at_call 146; exact cE _ _)))
      refine wpQuiet_nil ?_
      intro _ hw'
      obtain ⟨⟨dq, osq⟩, hw''⟩ := hw'
      subst hw''
      have hb2 := below_regrown wr dq osq
      go_wp2
      go_roundw
      case rel => exact ⟨k + 1, by omega, by go_num, hB.trans (hb2.mono hB.size)⟩
      case measure => simp [intOf]; omega
    · have e : k = l.length := by omega
      subst e
      go_wp2
      go_ret
      exact ⟨rfl, hB⟩
end Go.Proofs.YtjdokmllidhapaaGreatDoor
