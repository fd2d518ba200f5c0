/- Lists of Links: how much they hold, copied, held against each other. -/
import Derived.Test.YtjdokmllidhapaaGreatDoorRel2
import Derived.Lib.QuietBelow
namespace Go.Proofs.YtjdokmllidhapaaGreatDoor
open Go.RowKit Go.Sort

structure LinkD where
  to_ : ByteArray
  name : ByteArray
def LinkD.cs (r : LinkD) : List Value := [.string r.to_, .string r.name]
def LinkD.v (r : LinkD) : Value := .agg #[.string r.to_, .string r.name]
def LinkD.sz (r : LinkD) : Nat := r.to_.size + r.name.size
def LinkD.ok (r : LinkD) : Prop := r.to_.size ≤ maxLen ∧ r.name.size ≤ maxLen
set_option maxHeartbeats 1000000 in
theorem laws_szLink (r : LinkD) (n : Int) (w : World) (h0 : 0 ≤ n) (h1 : n ≤ 1048576) (hm : r.ok) :
    Calls Tryz.prog 122 #[r.v, .int .i64 n] w fun e w' => e = .returned (.int .i64 (clip (n - r.sz))) ∧ Below w.heap.size w w' := by
  obtain ⟨to_, name⟩ := r
  simp only [LinkD.v, LinkD.sz, LinkD.ok] at *
  unfold maxLen at *
  by_cases g1 : n < to_.size
  · have HR : Hid (clip (n - ↑(to_.size + name.size)) = -1) := clip_n (by omega)
    go_enter Tryz.func122, Tryz.ntmps122
    go_wp2
    go_ret
    exact ⟨ret_int HR.out.symm, (Below.refl _ _).alloc (Nat.le_refl _) _⟩
  by_cases g2 : n < to_.size + name.size
  · have HR : Hid (clip (n - ↑(to_.size + name.size)) = -1) := clip_n (by omega)
    go_enter Tryz.func122, Tryz.ntmps122
    go_wp2
    go_ret
    exact ⟨ret_int HR.out.symm, (Below.refl _ _).alloc (Nat.le_refl _) _⟩
  go_enter Tryz.func122, Tryz.ntmps122
  go_wp2
  go_ret
  exact ⟨ret_int (by rw [clip_p (by omega)]; try omega), (Below.refl _ _).alloc (Nat.le_refl _) _⟩
def lsz (l : List LinkD) : Nat := (l.map LinkD.sz).sum
theorem lsz_take {l : List LinkD} {k : Nat} {r : LinkD} (h : l[k]? = some r) : lsz (l.take (k + 1)) = lsz (l.take k) + r.sz := by
  unfold lsz
  rw [List.take_add_one, h]
  simp
theorem lsz_le (l : List LinkD) (k : Nat) : lsz (l.take k) ≤ lsz l := by
  have := congrArg (fun l => (l.map LinkD.sz).sum) (List.take_append_drop k l)
  simp only [List.map_append, List.sum_append] at this
  unfold lsz
  omega
set_option maxHeartbeats 2000000 in
theorem laws_szLinkS (l : List LinkD) (a : Option Addr) (cap : Nat) (n : Int) (w : World) (hA : SeqAt w a 2 (l.map LinkD.cs)) (hok : ∀ r ∈ l, r.ok) (hl : l.length ≤ maxLen) (h0 : 0 ≤ n) (h1 : n ≤ 1048576) :
    Calls Tryz.prog 61 #[.slice a l.length cap, .int .i64 n] w fun e w' => e = .returned (.int .i64 (clip (n - (l.length + lsz l)))) ∧ Below w.heap.size w w' := by
  unfold maxLen at hl
  by_cases g0 : n < l.length
  · have HR : Hid (clip (n - (l.length + lsz l)) = -1) := clip_n (by omega)
    go_enter Tryz.func61, Tryz.ntmps61
    go_wp2
    go_ret
    exact ⟨ret_int HR.out.symm, Below.refl _ _⟩
  go_enter Tryz.func61, Tryz.ntmps61
  go_wp2
  go_loopw [1, 5] (fun x i wr => ∃ k : Nat, k ≤ l.length ∧ i = .int .i64 k ∧ x = .int .i64 (n - l.length - lsz (l.take k)) ∧ Hid (0 ≤ n - l.length - lsz (l.take k)) ∧ Below w.heap.size w wr) (fun _ i _ => l.length - (intOf i).toNat)
  case atStart => exact ⟨0, by omega, rfl, by simp [lsz], by simp [lsz, Hid]; omega, Below.refl _ _⟩
  case round =>
    obtain ⟨k, hk, rfl, rfl, hp, hB⟩ := hrel
    by_cases hlt : k < l.length
    · obtain ⟨r, hr⟩ : ∃ r, l[k]? = some r := ⟨_, List.getElem?_eq_getElem hlt⟩
      obtain ⟨b, o, rfl, hc⟩ := (hA.below hB).at (i := k) (r := r.cs) (by rw [List.getElem?_map, hr]; rfl)
      have ok := hok r (List.mem_of_getElem? hr)
      have hp' := hp.out
      have ht := lsz_take hr
      have hle := lsz_le l (k + 1)
      have hS := fun w => laws_szLink r (n - l.length - lsz (l.take k)) w (by omega) (by omega) ok
      have c0 : wr.cell? ⟨b, o + k * 2, none⟩ = some (.string r.to_) := hc 0 _ rfl
      have c1 := hc 1 _ rfl
      clear hc
      unfold LinkD.v at hS
      by_cases g : n - l.length - lsz (l.take k) - r.sz < 0
      · have HR : Hid (clip (n - (l.length + lsz l)) = -1) := clip_n (by omega)
        rw [clip_n g] at hS
        go_wp2_with fail
        refine (hS _).mono ?_
        rintro e w2 ⟨rfl, hb2⟩
        go_wp2
        go_ret
        exact ⟨ret_int HR.out.symm, hB.trans (hb2.mono hB.size)⟩
      · rw [clip_p (by omega)] at hS
        have HN : Hid (n - l.length - lsz (l.take k) - r.sz = n - l.length - lsz (l.take (k + 1))) := by simp only [Hid]; omega
        go_wp2_with fail
        refine (hS _).mono ?_
        rintro e w2 ⟨rfl, hb2⟩
        go_wp2
        go_roundw
        case rel => exact ⟨k + 1, by omega, by go_num, by rw [HN.out], by have := HN.out; simp only [Hid]; omega, hB.trans (hb2.mono hB.size)⟩
        case measure => simp [intOf]; omega
    · have e : k = l.length := by omega
      subst e
      have HR : Hid (clip (n - (l.length + lsz l)) = n - l.length - lsz (l.take l.length)) := by
        have := hp.out
        simp only [Hid]
        rw [List.take_length] at this ⊢
        rw [clip_p (by omega)]; omega
      go_wp2
      go_ret
      exact ⟨ret_int HR.out.symm, hB⟩
set_option maxHeartbeats 1000000 in
theorem laws_toLink (r : LinkD) (w : World) :
    Calls Tryz.prog 132 #[r.v] w fun e w' => e = .returned r.v ∧ Below w.heap.size w w' := by
  obtain ⟨to_, name⟩ := r
  simp only [LinkD.v] at *
  go_enter Tryz.func132, Tryz.ntmps132
  go_wp2
  exact bodyPost_ret (v := .agg #[.string to_, .string name]) (by simp [results, Tryz.results132, go_sem]) rfl ⟨rfl, (((Below.refl _ _).alloc (Nat.le_refl _) _).alloc (by simp) _).alloc (by simp; omega) _⟩
set_option maxRecDepth 100000 in
theorem infoLink : ∃ i : TypeInfo, Tryz.prog.info? 108 = some i ∧ i.zero = some (.agg #[.string ⟨#[]⟩, .string ⟨#[]⟩]) ∧ i.size = 2 ∧ i.bytes = 32 := ⟨_, rfl, rfl, rfl, rfl⟩
theorem LinkD.len (r : LinkD) : r.cs.length = 2 := rfl
set_option maxHeartbeats 2000000 in
theorem laws_toLinkS (l : List LinkD) (a : Option Addr) (cap : Nat) (w : World) (hA : SeqAt w a 2 (l.map LinkD.cs)) (hl : l.length ≤ 1048576) :
    Calls Tryz.prog 68 #[.slice a l.length cap] w fun e w' => e = .returned (.slice (some ⟨w.heap.size, 0, none⟩) l.length l.length) ∧ SeqAt w' (some ⟨w.heap.size, 0, none⟩) 2 (l.map LinkD.cs) ∧ Room w' w.heap.size (l.length * 2) ∧ Below w.heap.size w w' := by
  obtain ⟨i0, hi, hz0, hz1, hz2⟩ := infoLink
  obtain ⟨w1, hrun, hown, hgr⟩ := run_make_full (P := Tryz.prog) w w.heap.size 25 108 i0 _ 2 Tryz.underlying25 hi hz0 hz1 .i64 .i64 l.length (by rw [hz2]; omega) (by unfold maxLen; omega) (Nat.le_refl _)
  have hR := room_of hown
  have hB : Below w.heap.size w w1 := (Below.refl _ _).grown hgr (Nat.le_refl _) (fun k hk => by cases hk)
  have hrl : (l.map LinkD.cs).length = l.length := by simp
  have hlen : ∀ r ∈ l.map LinkD.cs, r.length = 2 := fun r hr => by
    obtain ⟨x, _, rfl⟩ := List.mem_map.mp hr; rfl
  clear hi hz0 hz1 hz2 hown hgr
  go_enter Tryz.func68, Tryz.ntmps68
  go_wp2
  go_loopw [4] (fun i wr => ∃ k : Nat, k ≤ l.length ∧ i = .int .i64 k ∧ Room wr w.heap.size (l.length * 2) ∧ Filled wr w.heap.size 2 k (l.map LinkD.cs) ∧ Below w.heap.size w wr) (fun i _ => l.length - (intOf i).toNat)
  case atStart => exact ⟨0, by omega, rfl, hR, fun i j r c h => by omega, hB⟩
  case round =>
    clear hR hB hrun
    obtain ⟨k, hk, rfl, hR, hF, hB⟩ := hrel
    by_cases hlt : k < l.length
    · obtain ⟨r, hr⟩ : ∃ r, l[k]? = some r := ⟨_, List.getElem?_eq_getElem hlt⟩
      have hrow : (l.map LinkD.cs)[k]? = some r.cs := by rw [List.getElem?_map, hr]; rfl
      obtain ⟨b, o, rfl, hc⟩ := (hA.below hB).at (i := k) hrow
      have hS := fun w => laws_toLink r w
      have c0 : wr.cell? ⟨b, o + k * 2, none⟩ = some (.string r.to_) := hc 0 _ rfl
      have c1 := hc 1 _ rfl
      clear hc
      unfold LinkD.v at hS
      go_wp2_with fail
      refine (hS _).mono ?_
      rintro e w2 ⟨rfl, hb2⟩
      have hR2 := hR.below hb2
      have hF2 := hF.below hb2
      have hB2 := hB.trans (hb2.mono hB.size)
      have hkm : k * 2 + 2 ≤ l.length * 2 := by omega
      obtain ⟨⟨u0, hu0⟩, hf0⟩ := hR2 (k * 2) (by omega)
      obtain ⟨⟨u1, hu1⟩, hf1⟩ := hR2 (k * 2 + 1) (by omega)
      have hW : putAll w2 w.heap.size (k * 2) r.cs = ((w2.setCell ⟨w.heap.size, k * 2, none⟩ (.string r.to_)).setCell ⟨w.heap.size, k * 2 + 1, none⟩ (.string r.name)) := by simp only [putAll, LinkD.cs]
      have R3 := putAll_room (cs := r.cs) (o := k * 2) hR2
      have F3 := hF2.put hR2 hrow rfl hkm hlen
      have B3 := putAll_below (cs := r.cs) (o := k * 2) hB2 (Nat.le_refl _)
      rw [hW] at R3 F3 B3
      clear hW hR2 hF2 hB2
      go_wp2
      go_roundw
      case rel => exact ⟨k + 1, by omega, by go_num, R3, F3, B3⟩
      case measure => simp [intOf]; omega
    · have e : k = l.length := by omega
      subst e
      go_wp2
      go_ret
      exact ⟨rfl, Filled.seq (by rw [hrl]; exact hF), hR, hB⟩
set_option maxHeartbeats 1000000 in
theorem laws_eqLink (r : LinkD) (w : World) :
    Calls Tryz.prog 147 #[r.v, r.v] w fun e w' => e = .returned (.bool true) ∧ Below w.heap.size w w' := by
  obtain ⟨to_, name⟩ := r
  simp only [LinkD.v] at *
  go_enter Tryz.func147, Tryz.ntmps147
  go_wp2
  go_ret
  exact ⟨rfl, ((Below.refl _ _).alloc (Nat.le_refl _) _).alloc (by simp) _⟩
set_option maxHeartbeats 2000000 in
theorem laws_eqLinkS (l : List LinkD) (a a2 : Option Addr) (cap cap2 : Nat) (w : World) (hA : SeqAt w a 2 (l.map LinkD.cs)) (hA2 : SeqAt w a2 2 (l.map LinkD.cs)) (hl : l.length ≤ 1048576) :
    Calls Tryz.prog 80 #[.slice a l.length cap, .slice a2 l.length cap2] w fun e w' => e = .returned (.bool true) ∧ Below w.heap.size w w' := by
  go_enter Tryz.func80, Tryz.ntmps80
  go_wp2
  go_loopw [5] (fun i wr => ∃ k : Nat, k ≤ l.length ∧ i = .int .i64 k ∧ Below w.heap.size w wr) (fun i _ => l.length - (intOf i).toNat)
  case atStart => exact ⟨0, by omega, rfl, Below.refl _ _⟩
  case round =>
    obtain ⟨k, hk, rfl, hB⟩ := hrel
    by_cases hlt : k < l.length
    · obtain ⟨r, hr⟩ : ∃ r, l[k]? = some r := ⟨_, List.getElem?_eq_getElem hlt⟩
      have hrow : (l.map LinkD.cs)[k]? = some r.cs := by rw [List.getElem?_map, hr]; rfl
      obtain ⟨b, o, rfl, hc⟩ := (hA.below hB).at (i := k) hrow
      obtain ⟨b2, o2, rfl, hd⟩ := (hA2.below hB).at (i := k) hrow
      have hS := fun w => laws_eqLink r w
      have c0 : wr.cell? ⟨b, o + k * 2, none⟩ = some (.string r.to_) := hc 0 _ rfl
      have d0 : wr.cell? ⟨b2, o2 + k * 2, none⟩ = some (.string r.to_) := hd 0 _ rfl
      have c1 := hc 1 _ rfl
      have d1 := hd 1 _ rfl
      clear hc hd
      unfold LinkD.v at hS
      have cE : ∀ dd os, Calls Tryz.prog _ _ (grow (redrawn wr dd) os) fun e w'' => e = .returned (.bool true) ∧ ∃ p : Regrown, w'' = grow (redrawn wr p.d) p.os := fun _ _ => Calls.regrown_of (hS _)
      have kc0 := cell_regrown c0
      have kd0 := cell_regrown d0
      have kc1 := cell_regrown c1
      have kd1 := cell_regrown d1
      go_wp2_with fail
      refine wp_region_quiet_below (by kernel_rfl) (by kernel_rfl) ?_
      repeat (quiet_step ((go_at_call 147; exact cE _ _)))
      refine wpQuiet_nil ?_
      intro _ hw'
      obtain ⟨⟨dq, osq⟩, hw''⟩ := hw'
      subst hw''
      have hb2 := below_regrown wr dq osq
      go_wp2
      go_roundw
      case rel => exact ⟨k + 1, by omega, by go_num, hB.trans (hb2.mono hB.size)⟩
      case measure => simp [intOf]; omega
    · have e : k = l.length := by omega
      subst e
      go_wp2
      go_ret
      exact ⟨rfl, hB⟩
end Go.Proofs.YtjdokmllidhapaaGreatDoor
