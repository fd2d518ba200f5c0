/- Zones copied, and held against each other. -/
import Derived.Test.YtjdokmllidhapaaGreatDoorRelZone
namespace Go.Proofs.YtjdokmllidhapaaGreatDoor
open Go.RowKit Go.Sort

theorem SeqAt.keep {w w' : World} {g k : Nat} {rows : List (List Value)} (h : SeqAt w (some ⟨g, 0, none⟩) k rows) (hk : ∀ x, w'.cell? ⟨g, x, none⟩ = w.cell? ⟨g, x, none⟩) : SeqAt w' (some ⟨g, 0, none⟩) k rows := by
  rcases h with h | ⟨b, o, ha, hc⟩
  · exact .inl h
  · injection ha with ha
    injection ha with h1 h2
    subst h1 h2
    exact .inr ⟨g, 0, rfl, fun i j r c hi hj => by rw [hk]; exact hc i j r c hi hj⟩
theorem Room.keep {w w' : World} {g m : Nat} (h : Room w g m) (hk : ∀ x, w'.cell? ⟨g, x, none⟩ = w.cell? ⟨g, x, none⟩) (hf : ∀ x, w'.frozen? ⟨g, x, none⟩ = w.frozen? ⟨g, x, none⟩) : Room w' g m := fun x hx => by
  rw [hk, hf]; exact h x hx
theorem below_three (w : World) (a b c : Obj) : Below w.heap.size w (((w.alloc a).alloc b).alloc c) := (((Below.refl _ _).alloc (Nat.le_refl _) a).alloc (by simp) b).alloc (by simp; omega) c
theorem heap3 (w : World) (a b c : Obj) : (((w.alloc a).alloc b).alloc c).heap.size = w.heap.size + 1 + 1 + 1 := by simp
theorem ne_blk2 {p q i j : Nat} (h : q ≠ p) : (⟨q, i, none⟩ : Addr) ≠ ⟨p, j, none⟩ := fun e => h (by injection e)
theorem set_two {w : World} {b : Nat} {x0 x1 v0 v1 : Value} (h0 : w.cell? ⟨b, 0, none⟩ = some x0) (h1 : w.cell? ⟨b, 1, none⟩ = some x1) :
    ((w.setCell ⟨b, 0, none⟩ v0).setCell ⟨b, 1, none⟩ v1).cell? ⟨b, 0, none⟩ = some v0 ∧ ((w.setCell ⟨b, 0, none⟩ v0).setCell ⟨b, 1, none⟩ v1).cell? ⟨b, 1, none⟩ = some v1 := by
  refine ⟨?_, ?_⟩
  · rw [World.cell?_setCell_other _ _ _ _ (by simp), World.cell?_setCell_same _ _ _ h0]
  · refine World.cell?_setCell_same _ _ _ (u := x1) ?_
    rw [World.cell?_setCell_other _ _ _ _ (by simp)]; exact h1
set_option maxHeartbeats 1000000 in
theorem laws_toZone (z : ZoneD) (v : Value) (w : World) (hv : EraSl w v z.eras) (hl : z.eras.length ≤ 1048576) :
    Calls Tryz.prog 131 #[.agg #[.string z.name, v]] w fun e w' => ∃ g, e = .returned (.agg #[.string z.name, .slice (some ⟨g, 0, none⟩) z.eras.length z.eras.length]) ∧ w.heap.size ≤ g ∧ SeqAt w' (some ⟨g, 0, none⟩) 6 (z.eras.map EraD.cs) ∧ Room w' g (z.eras.length * 6) ∧ Below w.heap.size w w' := by
  obtain ⟨a, cap, rfl, hA⟩ := hv
  obtain ⟨name, es⟩ := z
  simp only at *
  have hE := fun w (h : SeqAt w a 6 (es.map EraD.cs)) => laws_toEraS es a cap w h hl
  go_enter Tryz.func131, Tryz.ntmps131
  go_wp2_with fail
  refine (hE _ (hA.below (below_three _ _ _ _))).mono ?_
  rintro e w1 ⟨rfl, hq, hR, hb⟩
  obtain ⟨hc, hf⟩ := bcell hb
  have hB : Below w.heap.size w w1 := (below_three w _ _ _).trans (hb.mono (by simp; omega))
  have h0 : w1.cell? ⟨w.heap.size + 1, 0, none⟩ = some (.string ⟨#[]⟩) := (hc _ _ (by simp)).trans (by simp [go_sem])
  have h1 : w1.cell? ⟨w.heap.size + 1, 1, none⟩ = some (.slice none 0 0) := (hc _ _ (by simp)).trans (by simp [go_sem])
  simp only [heap3] at hq hR
  go_wp2_with fail
  generalize hg : w.heap.size + 1 + 1 + 1 = g at *
  obtain ⟨r0, r1⟩ := set_two (w := w1.setCell ⟨w.heap.size + 1 + 1, 1, none⟩ (.slice (some ⟨g, 0, none⟩) es.length es.length)) (b := w.heap.size + 1) (v0 := .string name) (v1 := .slice (some ⟨g, 0, none⟩) es.length es.length) (by rw [World.cell?_setCell_other _ _ _ _ (ne_blk2 (by omega))]; exact h0) (by rw [World.cell?_setCell_other _ _ _ _ (ne_blk2 (by omega))]; exact h1)
  refine bodyPost_ret (v := .agg #[.string name, .slice (some ⟨g, 0, none⟩) es.length es.length]) (by simp [results, Tryz.results131, go_sem, r0, r1]) rfl ⟨g, rfl, by omega, hq.keep fun x => ?_, hR.keep (fun x => ?_) (fun x => by simp), ((hB.setCell (show w.heap.size ≤ w.heap.size + 1 + 1 by omega) _).setCell (show w.heap.size ≤ w.heap.size + 1 by omega) _).setCell (show w.heap.size ≤ w.heap.size + 1 by omega) _⟩
  all_goals rw [World.cell?_setCell_other _ _ _ _ (ne_blk2 (by omega)), World.cell?_setCell_other _ _ _ _ (ne_blk2 (by omega)), World.cell?_setCell_other _ _ _ _ (ne_blk2 (by omega))]
/-- the first k zones stand there. -/
def ZFilled (w : World) (g k : Nat) (zs : List ZoneD) : Prop := ∀ i z, i < k → zs[i]? = some z → w.cell? ⟨g, i * 2, none⟩ = some (.string z.name) ∧ ∃ q, g < q ∧ w.cell? ⟨g, i * 2 + 1, none⟩ = some (.slice (some ⟨q, 0, none⟩) z.eras.length z.eras.length) ∧ SeqAt w (some ⟨q, 0, none⟩) 6 (z.eras.map EraD.cs) ∧ Room w q (z.eras.length * 6)
theorem ZFilled.below {w w' : World} {g k : Nat} {zs : List ZoneD} (h : ZFilled w g k zs) (hb : Below w.heap.size w w') : ZFilled w' g k zs := fun i z hi hz => by
  obtain ⟨c0, q, hq, c1, hs, hr⟩ := h i z hi hz
  have hlt := World.block_lt_of_cell? _ _ c0
  exact ⟨by rw [(bcell hb).1 _ _ hlt]; exact c0, q, hq, by rw [(bcell hb).1 _ _ hlt]; exact c1, hs.below hb, hr.below hb⟩
theorem ZFilled.put {w : World} {g k m q : Nat} {zs : List ZoneD} {z : ZoneD} (h : ZFilled w g k zs) (hR : Room w g m) (hz : zs[k]? = some z) (hm : k * 2 + 2 ≤ m) (hq : g < q) (hs : SeqAt w (some ⟨q, 0, none⟩) 6 (z.eras.map EraD.cs)) (hr : Room w q (z.eras.length * 6)) : ZFilled (putAll w g (k * 2) [.string z.name, .slice (some ⟨q, 0, none⟩) z.eras.length z.eras.length]) g (k + 1) zs := fun i z' hi hz' => by
  by_cases e : i = k
  · subst e
    rw [hz] at hz'
    obtain rfl := Option.some.inj hz'
    have a0 := putAll_at (cs := [.string z.name, .slice (some ⟨q, 0, none⟩) z.eras.length z.eras.length]) (o := i * 2) (j := 0) hR (by simpa using hm) rfl
    have a1 := putAll_at (cs := [.string z.name, .slice (some ⟨q, 0, none⟩) z.eras.length z.eras.length]) (o := i * 2) (j := 1) hR (by simpa using hm) rfl
    exact ⟨a0, q, hq, a1, hs.keep fun x => putAll_far (.inl (by omega)), hr.keep (fun x => putAll_far (.inl (by omega))) (fun x => by simp [putAll])⟩
  · obtain ⟨c0, q', hq', c1, hs', hr'⟩ := h i z' (by omega) hz'
    exact ⟨by rw [putAll_far (by omega)]; exact c0, q', hq', by rw [putAll_far (by omega)]; exact c1, hs'.keep fun x => putAll_far (.inl (by omega)), hr'.keep (fun x => putAll_far (.inl (by omega))) (fun x => by simp [putAll])⟩
theorem ZFilled.zones {w : World} {g : Nat} {zs : List ZoneD} (h : ZFilled w g zs.length zs) : ZonesAt w (some ⟨g, 0, none⟩) zs :=
  .inr ⟨g, 0, rfl, fun i z hz => by
    obtain ⟨c0, q, _, c1, hs, _⟩ := h i z (List.getElem?_eq_some_iff.mp hz).1 hz
    rw [show 0 + i * 2 = i * 2 by omega]
    exact ⟨c0, _, c1, _, _, rfl, hs⟩⟩
set_option maxRecDepth 100000 in
theorem infoZone : ∃ i : TypeInfo, Tryz.prog.info? 49 = some i ∧ i.zero = some (.agg #[.string ⟨#[]⟩, .slice none 0 0]) ∧ i.size = 2 ∧ i.bytes = 40 := ⟨_, rfl, rfl, rfl, rfl⟩
set_option maxHeartbeats 2000000 in
theorem laws_toZoneS (l : List ZoneD) (a : Option Addr) (cap : Nat) (w : World) (hA : ZonesAt w a l) (hl : l.length ≤ 1048576) (hle : ∀ z ∈ l, z.eras.length ≤ 1048576) :
    Calls Tryz.prog 67 #[.slice a l.length cap] w fun e w' => e = .returned (.slice (some ⟨w.heap.size, 0, none⟩) l.length l.length) ∧ ZFilled w' w.heap.size l.length l ∧ Room w' w.heap.size (l.length * 2) ∧ Below w.heap.size w w' := by
  obtain ⟨i0, hi, hz0, hz1, hz2⟩ := infoZone
  obtain ⟨w1, hrun, hown, hgr⟩ := run_make_full (P := Tryz.prog) w w.heap.size 24 49 i0 _ 2 Tryz.underlying24 hi hz0 hz1 .i64 .i64 l.length (by rw [hz2]; omega) (by unfold maxLen; omega) (Nat.le_refl _)
  have hR := room_of hown
  have hB : Below w.heap.size w w1 := (Below.refl _ _).grown hgr (Nat.le_refl _) (fun k hk => by cases hk)
  have hlt1 : w.heap.size < w1.heap.size := by
    rcases hown.2 with ⟨h0, _⟩ | ⟨g', c, cur, h1, _, hh, _⟩
    · cases h0
    · injection h1 with h1 h2 h3
      injection h1 with h1
      injection h1 with h1
      subst h1
      exact (Array.getElem?_eq_some_iff.mp hh).1
  clear hi hz0 hz1 hz2 hown hgr
  go_enter Tryz.func67, Tryz.ntmps67
  go_wp2
  go_loopw [4] (fun i wr => ∃ k : Nat, k ≤ l.length ∧ i = .int .i64 k ∧ Room wr w.heap.size (l.length * 2) ∧ ZFilled wr w.heap.size k l ∧ Below w.heap.size w wr ∧ w.heap.size < wr.heap.size) (fun i _ => l.length - (intOf i).toNat)
  case atStart => exact ⟨0, by omega, rfl, hR, fun i z h => by omega, hB, hlt1⟩
  case round =>
    clear hR hB hrun hlt1
    obtain ⟨k, hk, rfl, hR, hF, hB, hgt⟩ := hrel
    by_cases hlt : k < l.length
    · obtain ⟨r, hr⟩ : ∃ r, l[k]? = some r := ⟨_, List.getElem?_eq_getElem hlt⟩
      obtain ⟨b, o, rfl, c0, v, c1, hv⟩ := (hA.below hB).at hr
      have hS := laws_toZone r v wr hv (hle r (List.mem_of_getElem? hr))
      go_wp2_with fail
      refine hS.mono ?_
      rintro e w2 ⟨q, rfl, hq, hs2, hr2, hb2⟩
      have hR2 := hR.below hb2
      have hF2 := hF.below hb2
      have hB2 := hB.trans (hb2.mono hB.size)
      have hkm : k * 2 + 2 ≤ l.length * 2 := by omega
      obtain ⟨⟨u0, hu0⟩, hf0⟩ := hR2 (k * 2) (by omega)
      obtain ⟨⟨u1, hu1⟩, hf1⟩ := hR2 (k * 2 + 1) (by omega)
      have R3 := putAll_room (cs := [.string r.name, .slice (some ⟨q, 0, none⟩) r.eras.length r.eras.length]) (o := k * 2) hR2
      have F3 := hF2.put hR2 hr hkm (by omega) hs2 hr2
      have B3 := putAll_below (cs := [.string r.name, .slice (some ⟨q, 0, none⟩) r.eras.length r.eras.length]) (o := k * 2) hB2 (Nat.le_refl _)
      simp only [putAll] at R3 F3 B3
      have hz3 : w.heap.size < w2.heap.size := by have := hb2.size; omega
      clear hR2 hF2 hB2
      go_wp2
      go_roundw
      case rel => exact ⟨k + 1, by omega, by go_num, R3, F3, B3, by simpa using hz3⟩
      case measure => simp [intOf]; omega
    · have e : k = l.length := by omega
      subst e
      go_wp2
      go_ret
      exact ⟨rfl, hF, hR, hB⟩
end Go.Proofs.YtjdokmllidhapaaGreatDoor
