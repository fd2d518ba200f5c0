/- Lists of Turns: how much they hold, copied, held against each other. -/
import Derived.Test.YtjfonbnmdcpepaaRel2
import Derived.Lib.QuietBelow
namespace Go.Proofs.Ytjfonbnmdcpepaa
open Go.RowKit Go.Sort

structure TurnD where
  at_ : Int
  offset : Int
  save : Int
  abbr : ByteArray
def TurnD.cs (r : TurnD) : List Value := [.int .i64 r.at_, .int .i64 r.offset, .int .i64 r.save, .string r.abbr]
def TurnD.v (r : TurnD) : Value := .agg #[.int .i64 r.at_, .int .i64 r.offset, .int .i64 r.save, .string r.abbr]
def TurnD.sz (r : TurnD) : Nat := r.abbr.size
def TurnD.ok (r : TurnD) : Prop := r.abbr.size ≤ maxLen
set_option maxHeartbeats 1000000 in
theorem laws_szTurn (r : TurnD) (n : Int) (w : World) (h0 : 0 ≤ n) (h1 : n ≤ 1048576) (hm : r.ok) :
    Calls Try.prog 80 #[r.v, .int .i64 n] w fun e w' => e = .returned (.int .i64 (clip (n - r.sz))) ∧ Below w.heap.size w w' := by
  obtain ⟨at_, offset, save, abbr⟩ := r
  simp only [TurnD.v, TurnD.sz, TurnD.ok] at *
  unfold maxLen at *
  by_cases g1 : n < abbr.size
  · have HR : Hid (clip (n - ↑(abbr.size)) = -1) := clip_n (by omega)
    go_enter Try.func80, Try.ntmps80
    go_wp2
    go_ret
    exact ⟨ret_int HR.out.symm, (Below.refl _ _).alloc (Nat.le_refl _) _⟩
  go_enter Try.func80, Try.ntmps80
  go_wp2
  go_ret
  exact ⟨ret_int (by rw [clip_p (by omega)]; try omega), (Below.refl _ _).alloc (Nat.le_refl _) _⟩
def tsz (l : List TurnD) : Nat := (l.map TurnD.sz).sum
theorem tsz_take {l : List TurnD} {k : Nat} {r : TurnD} (h : l[k]? = some r) : tsz (l.take (k + 1)) = tsz (l.take k) + r.sz := by
  unfold tsz
  rw [List.take_add_one, h]
  simp
theorem tsz_le (l : List TurnD) (k : Nat) : tsz (l.take k) ≤ tsz l := by
  have := congrArg (fun l => (l.map TurnD.sz).sum) (List.take_append_drop k l)
  simp only [List.map_append, List.sum_append] at this
  unfold tsz
  omega
set_option maxHeartbeats 2000000 in
theorem laws_szTurnS (l : List TurnD) (a : Option Addr) (cap : Nat) (n : Int) (w : World) (hA : SeqAt w a 4 (l.map TurnD.cs)) (hok : ∀ r ∈ l, r.ok) (hl : l.length ≤ maxLen) (h0 : 0 ≤ n) (h1 : n ≤ 1048576) :
    Calls Try.prog 61 #[.slice a l.length cap, .int .i64 n] w fun e w' => e = .returned (.int .i64 (clip (n - (l.length + tsz l)))) ∧ Below w.heap.size w w' := by
  unfold maxLen at hl
  by_cases g0 : n < l.length
  · have HR : Hid (clip (n - (l.length + tsz l)) = -1) := clip_n (by omega)
    go_enter Try.func61, Try.ntmps61
    go_wp2
    go_ret
    exact ⟨ret_int HR.out.symm, Below.refl _ _⟩
  go_enter Try.func61, Try.ntmps61
  go_wp2
  go_loopw [1, 5] (fun x i wr => ∃ k : Nat, k ≤ l.length ∧ i = .int .i64 k ∧ x = .int .i64 (n - l.length - tsz (l.take k)) ∧ Hid (0 ≤ n - l.length - tsz (l.take k)) ∧ Below w.heap.size w wr) (fun _ i _ => l.length - (intOf i).toNat)
  case atStart => exact ⟨0, by omega, rfl, by simp [tsz], by simp [tsz, Hid]; omega, Below.refl _ _⟩
  case round =>
    obtain ⟨k, hk, rfl, rfl, hp, hB⟩ := hrel
    by_cases hlt : k < l.length
    · obtain ⟨r, hr⟩ : ∃ r, l[k]? = some r := ⟨_, List.getElem?_eq_getElem hlt⟩
      obtain ⟨b, o, rfl, hc⟩ := (hA.below hB).at (i := k) (r := r.cs) (by rw [List.getElem?_map, hr]; rfl)
      have ok := hok r (List.mem_of_getElem? hr)
      have hp' := hp.out
      have ht := tsz_take hr
      have hle := tsz_le l (k + 1)
      have hS := fun w => laws_szTurn r (n - l.length - tsz (l.take k)) w (by omega) (by omega) ok
      have c0 : wr.cell? ⟨b, o + k * 4, none⟩ = some (.int .i64 r.at_) := hc 0 _ rfl
      have c1 := hc 1 _ rfl
      have c2 := hc 2 _ rfl
      have c3 := hc 3 _ rfl
      clear hc
      unfold TurnD.v at hS
      by_cases g : n - l.length - tsz (l.take k) - r.sz < 0
      · have HR : Hid (clip (n - (l.length + tsz l)) = -1) := clip_n (by omega)
        rw [clip_n g] at hS
        go_wp2_with fail
        refine (hS _).mono ?_
        rintro e w2 ⟨rfl, hb2⟩
        go_wp2
        go_ret
        exact ⟨ret_int HR.out.symm, hB.trans (hb2.mono hB.size)⟩
      · rw [clip_p (by omega)] at hS
        have HN : Hid (n - l.length - tsz (l.take k) - r.sz = n - l.length - tsz (l.take (k + 1))) := by simp only [Hid]; omega
        go_wp2_with fail
        refine (hS _).mono ?_
        rintro e w2 ⟨rfl, hb2⟩
        go_wp2
        go_roundw
        case rel => exact ⟨k + 1, by omega, by go_num, by rw [HN.out], by have := HN.out; simp only [Hid]; omega, hB.trans (hb2.mono hB.size)⟩
        case measure => simp [intOf]; omega
    · have e : k = l.length := by omega
      subst e
      have HR : Hid (clip (n - (l.length + tsz l)) = n - l.length - tsz (l.take l.length)) := by
        have := hp.out
        simp only [Hid]
        rw [List.take_length] at this ⊢
        rw [clip_p (by omega)]; omega
      go_wp2
      go_ret
      exact ⟨ret_int HR.out.symm, hB⟩
set_option maxHeartbeats 1000000 in
theorem laws_toTurn (r : TurnD) (w : World) :
    Calls Try.prog 82 #[r.v] w fun e w' => e = .returned r.v ∧ Below w.heap.size w w' := by
  obtain ⟨at_, offset, save, abbr⟩ := r
  simp only [TurnD.v] at *
  go_enter Try.func82, Try.ntmps82
  go_wp2
  exact bodyPost_ret (v := .agg #[.int .i64 at_, .int .i64 offset, .int .i64 save, .string abbr]) (by simp [results, Try.results82, go_sem]) rfl ⟨rfl, (((Below.refl _ _).alloc (Nat.le_refl _) _).alloc (by simp) _).alloc (by simp; omega) _⟩
set_option maxRecDepth 100000 in
theorem infoTurn : ∃ i : TypeInfo, Try.prog.info? 32 = some i ∧ i.zero = some (.agg #[.int .i64 0, .int .i64 0, .int .i64 0, .string ⟨#[]⟩]) ∧ i.size = 4 ∧ i.bytes = 40 := ⟨_, rfl, rfl, rfl, rfl⟩
theorem TurnD.len (r : TurnD) : r.cs.length = 4 := rfl
set_option maxHeartbeats 2000000 in
theorem laws_toTurnS (l : List TurnD) (a : Option Addr) (cap : Nat) (w : World) (hA : SeqAt w a 4 (l.map TurnD.cs)) (hl : l.length ≤ 1048576) :
    Calls Try.prog 63 #[.slice a l.length cap] w fun e w' => e = .returned (.slice (some ⟨w.heap.size, 0, none⟩) l.length l.length) ∧ SeqAt w' (some ⟨w.heap.size, 0, none⟩) 4 (l.map TurnD.cs) ∧ Room w' w.heap.size (l.length * 4) ∧ Below w.heap.size w w' := by
  obtain ⟨i0, hi, hz0, hz1, hz2⟩ := infoTurn
  obtain ⟨w1, hrun, hown, hgr⟩ := run_make_full (P := Try.prog) w w.heap.size 23 32 i0 _ 4 Try.underlying23 hi hz0 hz1 .i64 .i64 l.length (by rw [hz2]; omega) (by unfold maxLen; omega) (Nat.le_refl _)
  have hR := room_of hown
  have hB : Below w.heap.size w w1 := (Below.refl _ _).grown hgr (Nat.le_refl _) (fun k hk => by cases hk)
  have hrl : (l.map TurnD.cs).length = l.length := by simp
  have hlen : ∀ r ∈ l.map TurnD.cs, r.length = 4 := fun r hr => by
    obtain ⟨x, _, rfl⟩ := List.mem_map.mp hr; rfl
  clear hi hz0 hz1 hz2 hown hgr
  go_enter Try.func63, Try.ntmps63
  go_wp2
  go_loopw [4] (fun i wr => ∃ k : Nat, k ≤ l.length ∧ i = .int .i64 k ∧ Room wr w.heap.size (l.length * 4) ∧ Filled wr w.heap.size 4 k (l.map TurnD.cs) ∧ Below w.heap.size w wr) (fun i _ => l.length - (intOf i).toNat)
  case atStart => exact ⟨0, by omega, rfl, hR, fun i j r c h => by omega, hB⟩
  case round =>
    clear hR hB hrun
    obtain ⟨k, hk, rfl, hR, hF, hB⟩ := hrel
    by_cases hlt : k < l.length
    · obtain ⟨r, hr⟩ : ∃ r, l[k]? = some r := ⟨_, List.getElem?_eq_getElem hlt⟩
      have hrow : (l.map TurnD.cs)[k]? = some r.cs := by rw [List.getElem?_map, hr]; rfl
      obtain ⟨b, o, rfl, hc⟩ := (hA.below hB).at (i := k) hrow
      have hS := fun w => laws_toTurn r w
      have c0 : wr.cell? ⟨b, o + k * 4, none⟩ = some (.int .i64 r.at_) := hc 0 _ rfl
      have c1 := hc 1 _ rfl
      have c2 := hc 2 _ rfl
      have c3 := hc 3 _ rfl
      clear hc
      unfold TurnD.v at hS
      go_wp2_with fail
      refine (hS _).mono ?_
      rintro e w2 ⟨rfl, hb2⟩
      have hR2 := hR.below hb2
      have hF2 := hF.below hb2
      have hB2 := hB.trans (hb2.mono hB.size)
      have hkm : k * 4 + 4 ≤ l.length * 4 := by omega
      obtain ⟨⟨u0, hu0⟩, hf0⟩ := hR2 (k * 4) (by omega)
      obtain ⟨⟨u1, hu1⟩, hf1⟩ := hR2 (k * 4 + 1) (by omega)
      obtain ⟨⟨u2, hu2⟩, hf2⟩ := hR2 (k * 4 + 2) (by omega)
      obtain ⟨⟨u3, hu3⟩, hf3⟩ := hR2 (k * 4 + 3) (by omega)
      have hW : putAll w2 w.heap.size (k * 4) r.cs = ((((w2.setCell ⟨w.heap.size, k * 4, none⟩ (.int .i64 r.at_)).setCell ⟨w.heap.size, k * 4 + 1, none⟩ (.int .i64 r.offset)).setCell ⟨w.heap.size, k * 4 + 2, none⟩ (.int .i64 r.save)).setCell ⟨w.heap.size, k * 4 + 3, none⟩ (.string r.abbr)) := by simp only [putAll, TurnD.cs, Nat.add_assoc, Nat.reduceAdd]
      have R3 := putAll_room (cs := r.cs) (o := k * 4) hR2
      have F3 := hF2.put hR2 hrow rfl hkm hlen
      have B3 := putAll_below (cs := r.cs) (o := k * 4) hB2 (Nat.le_refl _)
      rw [hW] at R3 F3 B3
      clear hW hR2 hF2 hB2
      go_wp2
      go_roundw
      case rel => exact ⟨k + 1, by omega, by go_num, R3, F3, B3⟩
      case measure => simp [intOf]; omega
    · have e : k = l.length := by omega
      subst e
      go_wp2
      go_ret
      exact ⟨rfl, Filled.seq (by rw [hrl]; exact hF), hR, hB⟩
set_option maxHeartbeats 1000000 in
theorem laws_eqTurn (r : TurnD) (w : World) :
    Calls Try.prog 86 #[r.v, r.v] w fun e w' => e = .returned (.bool true) ∧ Below w.heap.size w w' := by
  obtain ⟨at_, offset, save, abbr⟩ := r
  simp only [TurnD.v] at *
  go_enter Try.func86, Try.ntmps86
  go_wp2
  go_ret
  exact ⟨rfl, ((Below.refl _ _).alloc (Nat.le_refl _) _).alloc (by simp) _⟩
set_option maxHeartbeats 2000000 in
theorem laws_eqTurnS (l : List TurnD) (a a2 : Option Addr) (cap cap2 : Nat) (w : World) (hA : SeqAt w a 4 (l.map TurnD.cs)) (hA2 : SeqAt w a2 4 (l.map TurnD.cs)) (hl : l.length ≤ 1048576) :
    Calls Try.prog 67 #[.slice a l.length cap, .slice a2 l.length cap2] w fun e w' => e = .returned (.bool true) ∧ Below w.heap.size w w' := by
  go_enter Try.func67, Try.ntmps67
  go_wp2
  go_loopw [5] (fun i wr => ∃ k : Nat, k ≤ l.length ∧ i = .int .i64 k ∧ Below w.heap.size w wr) (fun i _ => l.length - (intOf i).toNat)
  case atStart => exact ⟨0, by omega, rfl, Below.refl _ _⟩
  case round =>
    obtain ⟨k, hk, rfl, hB⟩ := hrel
    by_cases hlt : k < l.length
    · obtain ⟨r, hr⟩ : ∃ r, l[k]? = some r := ⟨_, List.getElem?_eq_getElem hlt⟩
      have hrow : (l.map TurnD.cs)[k]? = some r.cs := by rw [List.getElem?_map, hr]; rfl
      obtain ⟨b, o, rfl, hc⟩ := (hA.below hB).at (i := k) hrow
      obtain ⟨b2, o2, rfl, hd⟩ := (hA2.below hB).at (i := k) hrow
      have hS := fun w => laws_eqTurn r w
      have c0 : wr.cell? ⟨b, o + k * 4, none⟩ = some (.int .i64 r.at_) := hc 0 _ rfl
      have d0 : wr.cell? ⟨b2, o2 + k * 4, none⟩ = some (.int .i64 r.at_) := hd 0 _ rfl
      have c1 := hc 1 _ rfl
      have d1 := hd 1 _ rfl
      have c2 := hc 2 _ rfl
      have d2 := hd 2 _ rfl
      have c3 := hc 3 _ rfl
      have d3 := hd 3 _ rfl
      clear hc hd
      unfold TurnD.v at hS
      have cE : ∀ dd os, Calls Try.prog _ _ (grow (redrawn wr dd) os) fun e w'' => e = .returned (.bool true) ∧ ∃ p : Regrown, w'' = grow (redrawn wr p.d) p.os := fun _ _ => Calls.regrown_of (hS _)
      have kc0 := cell_regrown c0
      have kd0 := cell_regrown d0
      have kc1 := cell_regrown c1
      have kd1 := cell_regrown d1
      have kc2 := cell_regrown c2
      have kd2 := cell_regrown d2
      have kc3 := cell_regrown c3
      have kd3 := cell_regrown d3
      go_wp2_with fail
      refine wp_region_quiet_below (by kernel_rfl) (by kernel_rfl) ?_
      repeat (quiet_step ((go_at_call 86; exact cE _ _)))
      refine wpQuiet_nil ?_
      intro _ hw'
      obtain ⟨⟨dq, osq⟩, hw''⟩ := hw'
      subst hw''
      have hb2 := below_regrown wr dq osq
      go_wp2
      go_roundw
      case rel => exact ⟨k + 1, by omega, by go_num, hB.trans (hb2.mono hB.size)⟩
      case measure => simp [intOf]; omega
    · have e : k = l.length := by omega
      subst e
      go_wp2
      go_ret
      exact ⟨rfl, hB⟩
end Go.Proofs.Ytjfonbnmdcpepaa
