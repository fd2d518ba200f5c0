/- Lists of Eras: how much they hold, copied, held against each other. -/
import Derived.Test.YtjdokmllidhapaaGreatDoorRel2
import Derived.Lib.QuietBelow
namespace Go.Proofs.YtjdokmllidhapaaGreatDoor
open Go.RowKit Go.Sort

structure EraD where
  offset : Int
  rules : ByteArray
  save : Int
  format : ByteArray
  until_ : Int
  of : ByteArray
def EraD.cs (r : EraD) : List Value := [.int .i64 r.offset, .string r.rules, .int .i64 r.save, .string r.format, .int .i64 r.until_, .string r.of]
def EraD.v (r : EraD) : Value := .agg #[.int .i64 r.offset, .string r.rules, .int .i64 r.save, .string r.format, .int .i64 r.until_, .string r.of]
def EraD.sz (r : EraD) : Nat := r.rules.size + r.format.size + r.of.size
def EraD.ok (r : EraD) : Prop := r.rules.size ≤ maxLen ∧ r.format.size ≤ maxLen ∧ r.of.size ≤ maxLen
set_option maxHeartbeats 1000000 in
theorem laws_szEra (r : EraD) (n : Int) (w : World) (h0 : 0 ≤ n) (h1 : n ≤ 1048576) (hm : r.ok) :
    Calls Tryz.prog 239 #[r.v, .int .i64 n] w fun e w' => e = .returned (.int .i64 (clip (n - r.sz))) ∧ Below w.heap.size w w' := by
  obtain ⟨offset, rules, save, format, until_, of⟩ := r
  simp only [EraD.v, EraD.sz, EraD.ok] at *
  unfold maxLen at *
  by_cases g1 : n < rules.size
  · have HR : Hid (clip (n - ↑(rules.size + format.size + of.size)) = -1) := clip_n (by omega)
    go_enter Tryz.func239, Tryz.ntmps239
    go_wp2
    go_ret
    exact ⟨ret_int HR.out.symm, (Below.refl _ _).alloc (Nat.le_refl _) _⟩
  by_cases g2 : n < rules.size + format.size
  · have HR : Hid (clip (n - ↑(rules.size + format.size + of.size)) = -1) := clip_n (by omega)
    go_enter Tryz.func239, Tryz.ntmps239
    go_wp2
    go_ret
    exact ⟨ret_int HR.out.symm, (Below.refl _ _).alloc (Nat.le_refl _) _⟩
  by_cases g3 : n < rules.size + format.size + of.size
  · have HR : Hid (clip (n - ↑(rules.size + format.size + of.size)) = -1) := clip_n (by omega)
    go_enter Tryz.func239, Tryz.ntmps239
    go_wp2
    go_ret
    exact ⟨ret_int HR.out.symm, (Below.refl _ _).alloc (Nat.le_refl _) _⟩
  go_enter Tryz.func239, Tryz.ntmps239
  go_wp2
  go_ret
  exact ⟨ret_int (by rw [clip_p (by omega)]; try omega), (Below.refl _ _).alloc (Nat.le_refl _) _⟩
def esz (l : List EraD) : Nat := (l.map EraD.sz).sum
theorem esz_take {l : List EraD} {k : Nat} {r : EraD} (h : l[k]? = some r) : esz (l.take (k + 1)) = esz (l.take k) + r.sz := by
  unfold esz
  rw [List.take_add_one, h]
  simp
theorem esz_le (l : List EraD) (k : Nat) : esz (l.take k) ≤ esz l := by
  have := congrArg (fun l => (l.map EraD.sz).sum) (List.take_append_drop k l)
  simp only [List.map_append, List.sum_append] at this
  unfold esz
  omega
set_option maxHeartbeats 2000000 in
theorem laws_szEraS (l : List EraD) (a : Option Addr) (cap : Nat) (n : Int) (w : World) (hA : SeqAt w a 6 (l.map EraD.cs)) (hok : ∀ r ∈ l, r.ok) (hl : l.length ≤ maxLen) (h0 : 0 ≤ n) (h1 : n ≤ 1048576) :
    Calls Tryz.prog 200 #[.slice a l.length cap, .int .i64 n] w fun e w' => e = .returned (.int .i64 (clip (n - (l.length + esz l)))) ∧ Below w.heap.size w w' := by
  unfold maxLen at hl
  by_cases g0 : n < l.length
  · have HR : Hid (clip (n - (l.length + esz l)) = -1) := clip_n (by omega)
    go_enter Tryz.func200, Tryz.ntmps200
    go_wp2
    go_ret
    exact ⟨ret_int HR.out.symm, Below.refl _ _⟩
  go_enter Tryz.func200, Tryz.ntmps200
  go_wp2
  go_loopw [1, 5] (fun x i wr => ∃ k : Nat, k ≤ l.length ∧ i = .int .i64 k ∧ x = .int .i64 (n - l.length - esz (l.take k)) ∧ Hid (0 ≤ n - l.length - esz (l.take k)) ∧ Below w.heap.size w wr) (fun _ i _ => l.length - (intOf i).toNat)
  case atStart => exact ⟨0, by omega, rfl, by simp [esz], by simp [esz, Hid]; omega, Below.refl _ _⟩
  case round =>
    obtain ⟨k, hk, rfl, rfl, hp, hB⟩ := hrel
    by_cases hlt : k < l.length
    · obtain ⟨r, hr⟩ : ∃ r, l[k]? = some r := ⟨_, List.getElem?_eq_getElem hlt⟩
      obtain ⟨b, o, rfl, hc⟩ := (hA.below hB).at (i := k) (r := r.cs) (by rw [List.getElem?_map, hr]; rfl)
      have ok := hok r (List.mem_of_getElem? hr)
      have hp' := hp.out
      have ht := esz_take hr
      have hle := esz_le l (k + 1)
      have hS := fun w => laws_szEra r (n - l.length - esz (l.take k)) w (by omega) (by omega) ok
      have c0 : wr.cell? ⟨b, o + k * 6, none⟩ = some (.int .i64 r.offset) := hc 0 _ rfl
      have c1 := hc 1 _ rfl
      have c2 := hc 2 _ rfl
      have c3 := hc 3 _ rfl
      have c4 := hc 4 _ rfl
      have c5 := hc 5 _ rfl
      clear hc
      unfold EraD.v at hS
      by_cases g : n - l.length - esz (l.take k) - r.sz < 0
      · have HR : Hid (clip (n - (l.length + esz l)) = -1) := clip_n (by omega)
        rw [clip_n g] at hS
        go_wp2_with fail
        refine (hS _).mono ?_
        rintro e w2 ⟨rfl, hb2⟩
        go_wp2
        go_ret
        exact ⟨ret_int HR.out.symm, hB.trans (hb2.mono hB.size)⟩
      · rw [clip_p (by omega)] at hS
        have HN : Hid (n - l.length - esz (l.take k) - r.sz = n - l.length - esz (l.take (k + 1))) := by simp only [Hid]; omega
        go_wp2_with fail
        refine (hS _).mono ?_
        rintro e w2 ⟨rfl, hb2⟩
        go_wp2
        go_roundw
        case rel => exact ⟨k + 1, by omega, by go_num, by rw [HN.out], by have := HN.out; simp only [Hid]; omega, hB.trans (hb2.mono hB.size)⟩
        case measure => simp [intOf]; omega
    · have e : k = l.length := by omega
      subst e
      have HR : Hid (clip (n - (l.length + esz l)) = n - l.length - esz (l.take l.length)) := by
        have := hp.out
        simp only [Hid]
        rw [List.take_length] at this ⊢
        rw [clip_p (by omega)]; omega
      go_wp2
      go_ret
      exact ⟨ret_int HR.out.symm, hB⟩
set_option maxHeartbeats 1000000 in
theorem laws_toEra (r : EraD) (w : World) :
    Calls Tryz.prog 240 #[r.v] w fun e w' => e = .returned r.v ∧ Below w.heap.size w w' := by
  obtain ⟨offset, rules, save, format, until_, of⟩ := r
  simp only [EraD.v] at *
  go_enter Tryz.func240, Tryz.ntmps240
  go_wp2
  exact bodyPost_ret (v := .agg #[.int .i64 offset, .string rules, .int .i64 save, .string format, .int .i64 until_, .string of]) (by simp [results, Tryz.results240, go_sem]) rfl ⟨rfl, (((Below.refl _ _).alloc (Nat.le_refl _) _).alloc (by simp) _).alloc (by simp; omega) _⟩
set_option maxRecDepth 100000 in
theorem infoEra : ∃ i : TypeInfo, Tryz.prog.info? 55 = some i ∧ i.zero = some (.agg #[.int .i64 0, .string ⟨#[]⟩, .int .i64 0, .string ⟨#[]⟩, .int .i64 0, .string ⟨#[]⟩]) ∧ i.size = 6 ∧ i.bytes = 72 := ⟨_, rfl, rfl, rfl, rfl⟩
theorem EraD.len (r : EraD) : r.cs.length = 6 := rfl
set_option maxHeartbeats 2000000 in
theorem laws_toEraS (l : List EraD) (a : Option Addr) (cap : Nat) (w : World) (hA : SeqAt w a 6 (l.map EraD.cs)) (hl : l.length ≤ 1048576) :
    Calls Tryz.prog 204 #[.slice a l.length cap] w fun e w' => e = .returned (.slice (some ⟨w.heap.size, 0, none⟩) l.length l.length) ∧ SeqAt w' (some ⟨w.heap.size, 0, none⟩) 6 (l.map EraD.cs) ∧ Room w' w.heap.size (l.length * 6) ∧ Below w.heap.size w w' := by
  obtain ⟨i0, hi, hz0, hz1, hz2⟩ := infoEra
  obtain ⟨w1, hrun, hown, hgr⟩ := run_make_full (P := Tryz.prog) w w.heap.size 47 55 i0 _ 6 Tryz.underlying47 hi hz0 hz1 .i64 .i64 l.length (by rw [hz2]; omega) (by unfold maxLen; omega) (Nat.le_refl _)
  have hR := room_of hown
  have hB : Below w.heap.size w w1 := (Below.refl _ _).grown hgr (Nat.le_refl _) (fun k hk => by cases hk)
  have hrl : (l.map EraD.cs).length = l.length := by simp
  have hlen : ∀ r ∈ l.map EraD.cs, r.length = 6 := fun r hr => by
    obtain ⟨x, _, rfl⟩ := List.mem_map.mp hr; rfl
  clear hi hz0 hz1 hz2 hown hgr
  go_enter Tryz.func204, Tryz.ntmps204
  go_wp2
  go_loopw [4] (fun i wr => ∃ k : Nat, k ≤ l.length ∧ i = .int .i64 k ∧ Room wr w.heap.size (l.length * 6) ∧ Filled wr w.heap.size 6 k (l.map EraD.cs) ∧ Below w.heap.size w wr) (fun i _ => l.length - (intOf i).toNat)
  case atStart => exact ⟨0, by omega, rfl, hR, fun i j r c h => by omega, hB⟩
  case round =>
    clear hR hB hrun
    obtain ⟨k, hk, rfl, hR, hF, hB⟩ := hrel
    by_cases hlt : k < l.length
    · obtain ⟨r, hr⟩ : ∃ r, l[k]? = some r := ⟨_, List.getElem?_eq_getElem hlt⟩
      have hrow : (l.map EraD.cs)[k]? = some r.cs := by rw [List.getElem?_map, hr]; rfl
      obtain ⟨b, o, rfl, hc⟩ := (hA.below hB).at (i := k) hrow
      have hS := fun w => laws_toEra r w
      have c0 : wr.cell? ⟨b, o + k * 6, none⟩ = some (.int .i64 r.offset) := hc 0 _ rfl
      have c1 := hc 1 _ rfl
      have c2 := hc 2 _ rfl
      have c3 := hc 3 _ rfl
      have c4 := hc 4 _ rfl
      have c5 := hc 5 _ rfl
      clear hc
      unfold EraD.v at hS
      go_wp2_with fail
      refine (hS _).mono ?_
      rintro e w2 ⟨rfl, hb2⟩
      have hR2 := hR.below hb2
      have hF2 := hF.below hb2
      have hB2 := hB.trans (hb2.mono hB.size)
      have hkm : k * 6 + 6 ≤ l.length * 6 := by omega
      obtain ⟨⟨u0, hu0⟩, hf0⟩ := hR2 (k * 6) (by omega)
      obtain ⟨⟨u1, hu1⟩, hf1⟩ := hR2 (k * 6 + 1) (by omega)
      obtain ⟨⟨u2, hu2⟩, hf2⟩ := hR2 (k * 6 + 2) (by omega)
      obtain ⟨⟨u3, hu3⟩, hf3⟩ := hR2 (k * 6 + 3) (by omega)
      obtain ⟨⟨u4, hu4⟩, hf4⟩ := hR2 (k * 6 + 4) (by omega)
      obtain ⟨⟨u5, hu5⟩, hf5⟩ := hR2 (k * 6 + 5) (by omega)
      have hW : putAll w2 w.heap.size (k * 6) r.cs = ((((((w2.setCell ⟨w.heap.size, k * 6, none⟩ (.int .i64 r.offset)).setCell ⟨w.heap.size, k * 6 + 1, none⟩ (.string r.rules)).setCell ⟨w.heap.size, k * 6 + 2, none⟩ (.int .i64 r.save)).setCell ⟨w.heap.size, k * 6 + 3, none⟩ (.string r.format)).setCell ⟨w.heap.size, k * 6 + 4, none⟩ (.int .i64 r.until_)).setCell ⟨w.heap.size, k * 6 + 5, none⟩ (.string r.of)) := by simp only [putAll, EraD.cs, Nat.add_assoc, Nat.reduceAdd]
      have R3 := putAll_room (cs := r.cs) (o := k * 6) hR2
      have F3 := hF2.put hR2 hrow rfl hkm hlen
      have B3 := putAll_below (cs := r.cs) (o := k * 6) hB2 (Nat.le_refl _)
      rw [hW] at R3 F3 B3
      clear hW hR2 hF2 hB2
      go_wp2
      go_roundw
      case rel => exact ⟨k + 1, by omega, by go_num, R3, F3, B3⟩
      case measure => simp [intOf]; omega
    · have e : k = l.length := by omega
      subst e
      go_wp2
      go_ret
      exact ⟨rfl, Filled.seq (by rw [hrl]; exact hF), hR, hB⟩
set_option maxHeartbeats 1000000 in
theorem laws_eqEra (r : EraD) (w : World) :
    Calls Tryz.prog 165 #[r.v, r.v] w fun e w' => e = .returned (.bool true) ∧ Below w.heap.size w w' := by
  obtain ⟨offset, rules, save, format, until_, of⟩ := r
  simp only [EraD.v] at *
  go_enter Tryz.func165, Tryz.ntmps165
  go_wp2
  go_ret
  exact ⟨rfl, ((Below.refl _ _).alloc (Nat.le_refl _) _).alloc (by simp) _⟩
set_option maxHeartbeats 2000000 in
theorem laws_eqEraS (l : List EraD) (a a2 : Option Addr) (cap cap2 : Nat) (w : World) (hA : SeqAt w a 6 (l.map EraD.cs)) (hA2 : SeqAt w a2 6 (l.map EraD.cs)) (hl : l.length ≤ 1048576) :
    Calls Tryz.prog 90 #[.slice a l.length cap, .slice a2 l.length cap2] w fun e w' => e = .returned (.bool true) ∧ Below w.heap.size w w' := by
  go_enter Tryz.func90, Tryz.ntmps90
  go_wp2
  go_loopw [5] (fun i wr => ∃ k : Nat, k ≤ l.length ∧ i = .int .i64 k ∧ Below w.heap.size w wr) (fun i _ => l.length - (intOf i).toNat)
  case atStart => exact ⟨0, by omega, rfl, Below.refl _ _⟩
  case round =>
    obtain ⟨k, hk, rfl, hB⟩ := hrel
    by_cases hlt : k < l.length
    · obtain ⟨r, hr⟩ : ∃ r, l[k]? = some r := ⟨_, List.getElem?_eq_getElem hlt⟩
      have hrow : (l.map EraD.cs)[k]? = some r.cs := by rw [List.getElem?_map, hr]; rfl
      obtain ⟨b, o, rfl, hc⟩ := (hA.below hB).at (i := k) hrow
      obtain ⟨b2, o2, rfl, hd⟩ := (hA2.below hB).at (i := k) hrow
      have hS := fun w => laws_eqEra r w
      have c0 : wr.cell? ⟨b, o + k * 6, none⟩ = some (.int .i64 r.offset) := hc 0 _ rfl
      have d0 : wr.cell? ⟨b2, o2 + k * 6, none⟩ = some (.int .i64 r.offset) := hd 0 _ rfl
      have c1 := hc 1 _ rfl
      have d1 := hd 1 _ rfl
      have c2 := hc 2 _ rfl
      have d2 := hd 2 _ rfl
      have c3 := hc 3 _ rfl
      have d3 := hd 3 _ rfl
      have c4 := hc 4 _ rfl
      have d4 := hd 4 _ rfl
      have c5 := hc 5 _ rfl
      have d5 := hd 5 _ rfl
      clear hc hd
      unfold EraD.v at hS
      have cE : ∀ dd os, Calls Tryz.prog _ _ (grow (redrawn wr dd) os) fun e w'' => e = .returned (.bool true) ∧ ∃ p : Regrown, w'' = grow (redrawn wr p.d) p.os := fun _ _ => Calls.regrown_of (hS _)
      have kc0 := cell_regrown c0
      have kd0 := cell_regrown d0
      have kc1 := cell_regrown c1
      have kd1 := cell_regrown d1
      have kc2 := cell_regrown c2
      have kd2 := cell_regrown d2
      have kc3 := cell_regrown c3
      have kd3 := cell_regrown d3
      have kc4 := cell_regrown c4
      have kd4 := cell_regrown d4
      have kc5 := cell_regrown c5
      have kd5 := cell_regrown d5
      go_wp2_with fail
      refine wp_region_quiet_below (by kernel_rfl) (by kernel_rfl) ?_
      repeat (quiet_step ((go_at_call 165; exact cE _ _)))
      refine wpQuiet_nil ?_
      intro _ hw'
      obtain ⟨⟨dq, osq⟩, hw''⟩ := hw'
      subst hw''
      have hb2 := below_regrown wr dq osq
      go_wp2
      go_roundw
      case rel => exact ⟨k + 1, by omega, by go_num, hB.trans (hb2.mono hB.size)⟩
      case measure => simp [intOf]; omega
    · have e : k = l.length := by omega
      subst e
      go_wp2
      go_ret
      exact ⟨rfl, hB⟩
end Go.Proofs.YtjdokmllidhapaaGreatDoor
