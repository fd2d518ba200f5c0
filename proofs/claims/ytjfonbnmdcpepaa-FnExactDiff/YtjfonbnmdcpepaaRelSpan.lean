/- Lists of Spans: how much they hold, copied, held against each other. -/
import Derived.Test.YtjfonbnmdcpepaaRel2
import Derived.Lib.QuietBelow
namespace Go.Proofs.Ytjfonbnmdcpepaa
open Go.RowKit Go.Sort

structure SpanD where
  lo : Int
  hi : Int
def SpanD.cs (r : SpanD) : List Value := [.int .i64 r.lo, .int .i64 r.hi]
def SpanD.v (r : SpanD) : Value := .agg #[.int .i64 r.lo, .int .i64 r.hi]
set_option maxHeartbeats 1000000 in
theorem laws_toSpan (r : SpanD) (w : World) :
    Calls Try.prog 71 #[r.v] w fun e w' => e = .returned r.v ∧ Below w.heap.size w w' := by
  obtain ⟨lo, hi⟩ := r
  simp only [SpanD.v] at *
  go_enter Try.func71, Try.ntmps71
  go_wp2
  exact bodyPost_ret (v := .agg #[.int .i64 lo, .int .i64 hi]) (by simp [results, Try.results71, go_sem]) rfl ⟨rfl, (((Below.refl _ _).alloc (Nat.le_refl _) _).alloc (by simp) _).alloc (by simp; omega) _⟩
set_option maxRecDepth 100000 in
theorem infoSpan : ∃ i : TypeInfo, Try.prog.info? 86 = some i ∧ i.zero = some (.agg #[.int .i64 0, .int .i64 0]) ∧ i.size = 2 ∧ i.bytes = 16 := ⟨_, rfl, rfl, rfl, rfl⟩
theorem SpanD.len (r : SpanD) : r.cs.length = 2 := rfl
set_option maxHeartbeats 2000000 in
theorem laws_toSpanS (l : List SpanD) (a : Option Addr) (cap : Nat) (w : World) (hA : SeqAt w a 2 (l.map SpanD.cs)) (hl : l.length ≤ 1048576) :
    Calls Try.prog 33 #[.slice a l.length cap] w fun e w' => e = .returned (.slice (some ⟨w.heap.size, 0, none⟩) l.length l.length) ∧ SeqAt w' (some ⟨w.heap.size, 0, none⟩) 2 (l.map SpanD.cs) ∧ Room w' w.heap.size (l.length * 2) ∧ Below w.heap.size w w' := by
  obtain ⟨i0, hi, hz0, hz1, hz2⟩ := infoSpan
  obtain ⟨w1, hrun, hown, hgr⟩ := run_make_full (P := Try.prog) w w.heap.size 47 86 i0 _ 2 Try.underlying47 hi hz0 hz1 .i64 .i64 l.length (by rw [hz2]; omega) (by unfold maxLen; omega) (Nat.le_refl _)
  have hR := room_of hown
  have hB : Below w.heap.size w w1 := (Below.refl _ _).grown hgr (Nat.le_refl _) (fun k hk => by cases hk)
  have hrl : (l.map SpanD.cs).length = l.length := by simp
  have hlen : ∀ r ∈ l.map SpanD.cs, r.length = 2 := fun r hr => by
    obtain ⟨x, _, rfl⟩ := List.mem_map.mp hr; rfl
  clear hi hz0 hz1 hz2 hown hgr
  go_enter Try.func33, Try.ntmps33
  go_wp2
  go_loopw [4] (fun i wr => ∃ k : Nat, k ≤ l.length ∧ i = .int .i64 k ∧ Room wr w.heap.size (l.length * 2) ∧ Filled wr w.heap.size 2 k (l.map SpanD.cs) ∧ Below w.heap.size w wr) (fun i _ => l.length - (intOf i).toNat)
  case atStart => exact ⟨0, by omega, rfl, hR, fun i j r c h => by omega, hB⟩
  case round =>
    clear hR hB hrun
    obtain ⟨k, hk, rfl, hR, hF, hB⟩ := hrel
    by_cases hlt : k < l.length
    · obtain ⟨r, hr⟩ : ∃ r, l[k]? = some r := ⟨_, List.getElem?_eq_getElem hlt⟩
      have hrow : (l.map SpanD.cs)[k]? = some r.cs := by rw [List.getElem?_map, hr]; rfl
      obtain ⟨b, o, rfl, hc⟩ := (hA.below hB).at (i := k) hrow
      have hS := fun w => laws_toSpan r w
      have c0 : wr.cell? ⟨b, o + k * 2, none⟩ = some (.int .i64 r.lo) := hc 0 _ rfl
      have c1 := hc 1 _ rfl
      clear hc
      unfold SpanD.v at hS
      go_wp2_with fail
      refine (hS _).mono ?_
      rintro e w2 ⟨rfl, hb2⟩
      have hR2 := hR.below hb2
      have hF2 := hF.below hb2
      have hB2 := hB.trans (hb2.mono hB.size)
      have hkm : k * 2 + 2 ≤ l.length * 2 := by omega
      obtain ⟨⟨u0, hu0⟩, hf0⟩ := hR2 (k * 2) (by omega)
      obtain ⟨⟨u1, hu1⟩, hf1⟩ := hR2 (k * 2 + 1) (by omega)
      have hW : putAll w2 w.heap.size (k * 2) r.cs = ((w2.setCell ⟨w.heap.size, k * 2, none⟩ (.int .i64 r.lo)).setCell ⟨w.heap.size, k * 2 + 1, none⟩ (.int .i64 r.hi)) := by simp only [putAll, SpanD.cs]
      have R3 := putAll_room (cs := r.cs) (o := k * 2) hR2
      have F3 := hF2.put hR2 hrow rfl hkm hlen
      have B3 := putAll_below (cs := r.cs) (o := k * 2) hB2 (Nat.le_refl _)
      rw [hW] at R3 F3 B3
      clear hW hR2 hF2 hB2
      go_wp2
      go_roundw
      case rel => exact ⟨k + 1, by omega, by go_num, R3, F3, B3⟩
      case measure => simp [intOf]; omega
    · have e : k = l.length := by omega
      subst e
      go_wp2
      go_ret
      exact ⟨rfl, Filled.seq (by rw [hrl]; exact hF), hR, hB⟩
set_option maxHeartbeats 1000000 in
theorem laws_eqSpan (r : SpanD) (w : World) :
    Calls Try.prog 66 #[r.v, r.v] w fun e w' => e = .returned (.bool true) ∧ Below w.heap.size w w' := by
  obtain ⟨lo, hi⟩ := r
  simp only [SpanD.v] at *
  go_enter Try.func66, Try.ntmps66
  go_wp2
  go_ret
  exact ⟨rfl, ((Below.refl _ _).alloc (Nat.le_refl _) _).alloc (by simp) _⟩
set_option maxHeartbeats 2000000 in
theorem laws_eqSpanS (l : List SpanD) (a a2 : Option Addr) (cap cap2 : Nat) (w : World) (hA : SeqAt w a 2 (l.map SpanD.cs)) (hA2 : SeqAt w a2 2 (l.map SpanD.cs)) (hl : l.length ≤ 1048576) :
    Calls Try.prog 26 #[.slice a l.length cap, .slice a2 l.length cap2] w fun e w' => e = .returned (.bool true) ∧ Below w.heap.size w w' := by
  go_enter Try.func26, Try.ntmps26
  go_wp2
  go_loopw [5] (fun i wr => ∃ k : Nat, k ≤ l.length ∧ i = .int .i64 k ∧ Below w.heap.size w wr) (fun i _ => l.length - (intOf i).toNat)
  case atStart => exact ⟨0, by omega, rfl, Below.refl _ _⟩
  case round =>
    obtain ⟨k, hk, rfl, hB⟩ := hrel
    by_cases hlt : k < l.length
    · obtain ⟨r, hr⟩ : ∃ r, l[k]? = some r := ⟨_, List.getElem?_eq_getElem hlt⟩
      have hrow : (l.map SpanD.cs)[k]? = some r.cs := by rw [List.getElem?_map, hr]; rfl
      obtain ⟨b, o, rfl, hc⟩ := (hA.below hB).at (i := k) hrow
      obtain ⟨b2, o2, rfl, hd⟩ := (hA2.below hB).at (i := k) hrow
      have hS := fun w => laws_eqSpan r w
      have c0 : wr.cell? ⟨b, o + k * 2, none⟩ = some (.int .i64 r.lo) := hc 0 _ rfl
      have d0 : wr.cell? ⟨b2, o2 + k * 2, none⟩ = some (.int .i64 r.lo) := hd 0 _ rfl
      have c1 := hc 1 _ rfl
      have d1 := hd 1 _ rfl
      clear hc hd
      unfold SpanD.v at hS
      have cE : ∀ dd os, Calls Try.prog _ _ (grow (redrawn wr dd) os) fun e w'' => e = .returned (.bool true) ∧ ∃ p : Regrown, w'' = grow (redrawn wr p.d) p.os := fun _ _ => Calls.regrown_of (hS _)
      have kc0 := cell_regrown c0
      have kd0 := cell_regrown d0
      have kc1 := cell_regrown c1
      have kd1 := cell_regrown d1
      go_wp2_with fail
      refine wp_region_quiet_below (by kernel_rfl) (by kernel_rfl) ?_
      repeat (quiet_step ((go_at_call 66; exact cE _ _)))
      refine wpQuiet_nil ?_
      intro _ hw'
      obtain ⟨⟨dq, osq⟩, hw''⟩ := hw'
      subst hw''
      have hb2 := below_regrown wr dq osq
      go_wp2
      go_roundw
      case rel => exact ⟨k + 1, by omega, by go_num, hB.trans (hb2.mono hB.size)⟩
      case measure => simp [intOf]; omega
    · have e : k = l.length := by omega
      subst e
      go_wp2
      go_ret
      exact ⟨rfl, hB⟩
end Go.Proofs.Ytjfonbnmdcpepaa
