/- Releases copied, and held against each other. -/
import Derived.Test.YtjdokmllidhapaaGreatDoorRelRel
namespace Go.Proofs.YtjdokmllidhapaaGreatDoor
open Go.RowKit Go.Sort

/-- from a block on nothing has changed. -/
def From (B : Nat) (w w' : World) : Prop := ∀ g x, B ≤ g → w'.cell? ⟨g, x, none⟩ = w.cell? ⟨g, x, none⟩ ∧ w'.frozen? ⟨g, x, none⟩ = w.frozen? ⟨g, x, none⟩
theorem From.set {B : Nat} {w w' : World} (h : From B w w') {p i : Nat} (hp : p < B) (v : Value) : From B w (w'.setCell ⟨p, i, none⟩ v) := fun g x hg =>
  ⟨by rw [World.cell?_setCell_other _ _ _ _ (ne_blk2 (by omega))]; exact (h g x hg).1, by rw [World.frozen?_setCell]; exact (h g x hg).2⟩
theorem From.refl (B : Nat) (w : World) : From B w w := fun _ _ _ => ⟨rfl, rfl⟩
theorem SeqAt.from {B g k : Nat} {w w' : World} {rows : List (List Value)} (h : SeqAt w (some ⟨g, 0, none⟩) k rows) (hf : From B w w') (hg : B ≤ g) : SeqAt w' (some ⟨g, 0, none⟩) k rows := h.keep fun x => (hf g x hg).1
theorem Room.from {B g m : Nat} {w w' : World} (h : Room w g m) (hf : From B w w') (hg : B ≤ g) : Room w' g m := h.keep (fun x => (hf g x hg).1) (fun x => (hf g x hg).2)
theorem ZFilled.from {B g k : Nat} {w w' : World} {zs : List ZoneD} (h : ZFilled w g k zs) (hf : From B w w') (hg : B ≤ g) : ZFilled w' g k zs := fun i z hi hz => by
  obtain ⟨c0, q, hq, c1, hs, hr⟩ := h i z hi hz
  exact ⟨by rw [(hf g _ hg).1]; exact c0, q, hq, by rw [(hf g _ hg).1]; exact c1, hs.from hf (by omega), hr.from hf (by omega)⟩
/-- a release of one's own memory, from a block on. -/
structure OwnRel (w : World) (B : Nat) (v : Value) (r : RelD) : Prop where
  form : ∃ a b c, v = .agg #[.slice (some ⟨a, 0, none⟩) r.rules.length r.rules.length, .slice (some ⟨b, 0, none⟩) r.zones.length r.zones.length, .slice (some ⟨c, 0, none⟩) r.links.length r.links.length] ∧
    (B ≤ a ∧ B ≤ b ∧ B ≤ c) ∧ (SeqAt w (some ⟨a, 0, none⟩) 9 (r.rules.map RuleD.cs) ∧ Room w a (r.rules.length * 9)) ∧ (ZFilled w b r.zones.length r.zones ∧ Room w b (r.zones.length * 2)) ∧ (SeqAt w (some ⟨c, 0, none⟩) 2 (r.links.map LinkD.cs) ∧ Room w c (r.links.length * 2))
theorem OwnRel.rel {w : World} {B : Nat} {v : Value} {r : RelD} (h : OwnRel w B v r) : RelAt w v r := by
  obtain ⟨a, b, c, hv, _, ⟨h1, _⟩, ⟨h2, _⟩, ⟨h3, _⟩⟩ := h.form
  exact ⟨_, _, _, _, _, _, hv, h1, h2.zones, h3⟩
theorem OwnRel.below {w w' : World} {B : Nat} {v : Value} {r : RelD} (h : OwnRel w B v r) (hb : Below w.heap.size w w') : OwnRel w' B v r := by
  obtain ⟨a, b, c, hv, hB, ⟨h1, k1⟩, ⟨h2, k2⟩, ⟨h3, k3⟩⟩ := h.form
  exact ⟨a, b, c, hv, hB, ⟨h1.below hb, k1.below hb⟩, ⟨h2.below hb, k2.below hb⟩, ⟨h3.below hb, k3.below hb⟩⟩
theorem set_three {w : World} {b : Nat} {x0 x1 x2 v0 v1 v2 : Value} (h0 : w.cell? ⟨b, 0, none⟩ = some x0) (h1 : w.cell? ⟨b, 1, none⟩ = some x1) (h2 : w.cell? ⟨b, 2, none⟩ = some x2) :
    (((w.setCell ⟨b, 0, none⟩ v0).setCell ⟨b, 1, none⟩ v1).setCell ⟨b, 2, none⟩ v2).cell? ⟨b, 0, none⟩ = some v0 ∧ (((w.setCell ⟨b, 0, none⟩ v0).setCell ⟨b, 1, none⟩ v1).setCell ⟨b, 2, none⟩ v2).cell? ⟨b, 1, none⟩ = some v1 ∧ (((w.setCell ⟨b, 0, none⟩ v0).setCell ⟨b, 1, none⟩ v1).setCell ⟨b, 2, none⟩ v2).cell? ⟨b, 2, none⟩ = some v2 := by
  refine ⟨?_, ?_, ?_⟩
  · rw [World.cell?_setCell_other _ _ _ _ (by simp), World.cell?_setCell_other _ _ _ _ (by simp), World.cell?_setCell_same _ _ _ h0]
  · rw [World.cell?_setCell_other _ _ _ _ (by simp)]
    refine World.cell?_setCell_same _ _ _ (u := x1) ?_
    rw [World.cell?_setCell_other _ _ _ _ (by simp)]; exact h1
  · refine World.cell?_setCell_same _ _ _ (u := x2) ?_
    rw [World.cell?_setCell_other _ _ _ _ (by simp), World.cell?_setCell_other _ _ _ _ (by simp)]; exact h2
def RelD.small (r : RelD) : Prop := r.rules.length ≤ 1048576 ∧ r.zones.length ≤ 1048576 ∧ r.links.length ≤ 1048576 ∧ ∀ z ∈ r.zones, z.eras.length ≤ 1048576
set_option maxHeartbeats 2000000 in
theorem laws_toRelease (r : RelD) (v : Value) (w : World) (hv : RelAt w v r) (hm : r.small) :
    Calls Tryz.prog 25 #[v] w fun e w' => ∃ v', e = .returned v' ∧ OwnRel w' w.heap.size v' r ∧ Below w.heap.size w w' := by
  obtain ⟨a, b, c, ca, cb, cc, rfl, hA, hB, hC⟩ := hv.form
  obtain ⟨m1, m2, m3, m4⟩ := hm
  obtain ⟨rs, zs, ls⟩ := r
  simp only at *
  have hR := fun w (h : SeqAt w a 9 (rs.map RuleD.cs)) => laws_toRuleS rs a ca w h m1
  have hZ := fun w (h : ZonesAt w b zs) => laws_toZoneS zs b cb w h m2 m4
  have hL := fun w (h : SeqAt w c 2 (ls.map LinkD.cs)) => laws_toLinkS ls c cc w h m3
  go_enter Tryz.func25, Tryz.ntmps25
  go_wp2_with fail
  refine (hR _ (hA.below (below_three _ _ _ _))).mono ?_
  rintro e w1 ⟨rfl, q1, k1, hb1⟩
  obtain ⟨hc1, hf1⟩ := bcell hb1
  have hB1 : Below w.heap.size w w1 := (below_three w _ _ _).trans (hb1.mono (by simp; omega))
  have hz1 : w.heap.size + 3 ≤ w1.heap.size := by have := hb1.size; simp at this; omega
  simp only [heap3] at q1 k1
  have x1 : w1.cell? ⟨w.heap.size, 1, none⟩ = some (.slice b zs.length cb) := (hc1 _ _ (by simp; omega)).trans (by simp [go_sem])
  have x2 : w1.cell? ⟨w.heap.size, 2, none⟩ = some (.slice c ls.length cc) := (hc1 _ _ (by simp; omega)).trans (by simp [go_sem])
  have o0 : w1.cell? ⟨w.heap.size + 1 + 1, 0, none⟩ = some (.slice none 0 0) := (hc1 _ _ (by simp)).trans (by simp [go_sem])
  have o1 : w1.cell? ⟨w.heap.size + 1 + 1, 1, none⟩ = some (.slice none 0 0) := (hc1 _ _ (by simp)).trans (by simp [go_sem])
  have o2 : w1.cell? ⟨w.heap.size + 1 + 1, 2, none⟩ = some (.slice none 0 0) := (hc1 _ _ (by simp)).trans (by simp [go_sem])
  have s0 : w1.cell? ⟨w.heap.size + 1, 0, none⟩ = some (.slice none 0 0) := (hc1 _ _ (by simp)).trans (by simp [go_sem])
  have s1 : w1.cell? ⟨w.heap.size + 1, 1, none⟩ = some (.slice none 0 0) := (hc1 _ _ (by simp)).trans (by simp [go_sem])
  have s2 : w1.cell? ⟨w.heap.size + 1, 2, none⟩ = some (.slice none 0 0) := (hc1 _ _ (by simp)).trans (by simp [go_sem])
  have f2 : ∀ i, w1.frozen? ⟨w.heap.size + 1 + 1, i, none⟩ = false := fun i => (hf1 _ _ (by simp)).trans (by simp [go_sem])
  have f1 : ∀ i, w1.frozen? ⟨w.heap.size + 1, i, none⟩ = false := fun i => (hf1 _ _ (by simp)).trans (by simp [go_sem])
  clear hc1 hf1 hb1
  generalize hg1 : w.heap.size + 1 + 1 + 1 = g1 at *
  go_wp2_with fail
  have hBs : Below w.heap.size w (w1.setCell ⟨w.heap.size + 1 + 1, 0, none⟩ (.slice (some ⟨g1, 0, none⟩) rs.length rs.length)) := hB1.setCell (show w.heap.size ≤ w.heap.size + 1 + 1 by omega) _
  refine (hZ _ (hB.below hBs)).mono ?_
  rintro e w2 ⟨rfl, q2, k2, hb2⟩
  obtain ⟨hc2, hf2⟩ := bcell hb2
  have hB2 := hBs.trans (hb2.mono hBs.size)
  have hsz : (w1.setCell ⟨w.heap.size + 1 + 1, 0, none⟩ (.slice (some ⟨g1, 0, none⟩) rs.length rs.length)).heap.size = w1.heap.size := by simp
  have hF1 : From g1 w1 (w1.setCell ⟨w.heap.size + 1 + 1, 0, none⟩ (.slice (some ⟨g1, 0, none⟩) rs.length rs.length)) := (From.refl g1 w1).set (by omega) _
  have q1a := (q1.from hF1 (Nat.le_refl _)).below hb2
  have k1a := (k1.from hF1 (Nat.le_refl _)).below hb2
  have C2 : ∀ p i, p < w1.heap.size → (p, i) ≠ (w.heap.size + 1 + 1, 0) → w2.cell? ⟨p, i, none⟩ = w1.cell? ⟨p, i, none⟩ := fun p i hp hne => by
    rw [hc2 _ _ (by rw [hsz]; exact hp), World.cell?_setCell_other]
    intro e; injection e with e1 e2; subst e1 e2; exact hne rfl
  have F2 : ∀ p i, p < w1.heap.size → w2.frozen? ⟨p, i, none⟩ = w1.frozen? ⟨p, i, none⟩ := fun p i hp => by
    rw [hf2 _ _ (by rw [hsz]; exact hp), World.frozen?_setCell]
  have y2 : w2.cell? ⟨w.heap.size, 2, none⟩ = some (.slice c ls.length cc) := (C2 _ _ (by omega) (by simp)).trans x2
  have O0 : w2.cell? ⟨w.heap.size + 1 + 1, 0, none⟩ = some (.slice (some ⟨g1, 0, none⟩) rs.length rs.length) := (hc2 _ _ (by rw [hsz]; omega)).trans (World.cell?_setCell_same _ _ _ o0)
  have O1 : w2.cell? ⟨w.heap.size + 1 + 1, 1, none⟩ = some (.slice none 0 0) := (C2 _ _ (by omega) (by simp)).trans o1
  have O2 : w2.cell? ⟨w.heap.size + 1 + 1, 2, none⟩ = some (.slice none 0 0) := (C2 _ _ (by omega) (by simp)).trans o2
  have S0 : w2.cell? ⟨w.heap.size + 1, 0, none⟩ = some (.slice none 0 0) := (C2 _ _ (by omega) (by simp)).trans s0
  have S1 : w2.cell? ⟨w.heap.size + 1, 1, none⟩ = some (.slice none 0 0) := (C2 _ _ (by omega) (by simp)).trans s1
  have S2 : w2.cell? ⟨w.heap.size + 1, 2, none⟩ = some (.slice none 0 0) := (C2 _ _ (by omega) (by simp)).trans s2
  have f4 : ∀ i, w2.frozen? ⟨w.heap.size + 1 + 1, i, none⟩ = false := fun i => (F2 _ _ (by omega)).trans (f2 i)
  have f3 : ∀ i, w2.frozen? ⟨w.heap.size + 1, i, none⟩ = false := fun i => (F2 _ _ (by omega)).trans (f1 i)
  rw [hsz] at q2 k2
  have hz2 : w1.heap.size ≤ w2.heap.size := by have := hb2.size; rw [hsz] at this; exact this
  clear hc2 hf2 hb2 C2 F2 x1 x2 o0 o1 o2 s0 s1 s2 f1 f2 hF1 q1 k1 hBs
  generalize hg2 : w1.heap.size = g2 at *
  have f41 := f4 1
  have f42 := f4 2
  go_wp2_with fail
  have hBt : Below w.heap.size w (w2.setCell ⟨w.heap.size + 1 + 1, 1, none⟩ (.slice (some ⟨g2, 0, none⟩) zs.length zs.length)) := hB2.setCell (show w.heap.size ≤ w.heap.size + 1 + 1 by omega) _
  refine (hL _ (hC.below hBt)).mono ?_
  rintro e w3 ⟨rfl, q3, k3, hb3⟩
  obtain ⟨hc3, hf3⟩ := bcell hb3
  have hB3 := hBt.trans (hb3.mono hBt.size)
  have hsz2 : (w2.setCell ⟨w.heap.size + 1 + 1, 1, none⟩ (.slice (some ⟨g2, 0, none⟩) zs.length zs.length)).heap.size = w2.heap.size := by simp
  have hF2 : From g1 w2 (w2.setCell ⟨w.heap.size + 1 + 1, 1, none⟩ (.slice (some ⟨g2, 0, none⟩) zs.length zs.length)) := (From.refl g1 w2).set (by omega) _
  have q1b := (q1a.from hF2 (Nat.le_refl _)).below hb3
  have k1b := (k1a.from hF2 (Nat.le_refl _)).below hb3
  have q2b := (q2.from hF2 (by omega)).below hb3
  have k2b := (k2.from hF2 (by omega)).below hb3
  have C3 : ∀ p i, p < w2.heap.size → (p, i) ≠ (w.heap.size + 1 + 1, 1) → w3.cell? ⟨p, i, none⟩ = w2.cell? ⟨p, i, none⟩ := fun p i hp hne => by
    rw [hc3 _ _ (by rw [hsz2]; exact hp), World.cell?_setCell_other]
    intro e; injection e with e1 e2; subst e1 e2; exact hne rfl
  have F3 : ∀ p i, p < w2.heap.size → w3.frozen? ⟨p, i, none⟩ = w2.frozen? ⟨p, i, none⟩ := fun p i hp => by
    rw [hf3 _ _ (by rw [hsz2]; exact hp), World.frozen?_setCell]
  have P0 : w3.cell? ⟨w.heap.size + 1 + 1, 0, none⟩ = some (.slice (some ⟨g1, 0, none⟩) rs.length rs.length) := (C3 _ _ (by omega) (by simp)).trans O0
  have P1 : w3.cell? ⟨w.heap.size + 1 + 1, 1, none⟩ = some (.slice (some ⟨g2, 0, none⟩) zs.length zs.length) := (hc3 _ _ (by rw [hsz2]; omega)).trans (World.cell?_setCell_same _ _ _ O1)
  have P2 : w3.cell? ⟨w.heap.size + 1 + 1, 2, none⟩ = some (.slice none 0 0) := (C3 _ _ (by omega) (by simp)).trans O2
  have T0 : w3.cell? ⟨w.heap.size + 1, 0, none⟩ = some (.slice none 0 0) := (C3 _ _ (by omega) (by simp)).trans S0
  have T1 : w3.cell? ⟨w.heap.size + 1, 1, none⟩ = some (.slice none 0 0) := (C3 _ _ (by omega) (by simp)).trans S1
  have T2 : w3.cell? ⟨w.heap.size + 1, 2, none⟩ = some (.slice none 0 0) := (C3 _ _ (by omega) (by simp)).trans S2
  have e2 : w3.frozen? ⟨w.heap.size + 1 + 1, 2, none⟩ = false := (F3 _ _ (by omega)).trans (f4 2)
  have e30 : w3.frozen? ⟨w.heap.size + 1, 0, none⟩ = false := (F3 _ _ (by omega)).trans (f3 0)
  have e31 : w3.frozen? ⟨w.heap.size + 1, 1, none⟩ = false := (F3 _ _ (by omega)).trans (f3 1)
  have e32 : w3.frozen? ⟨w.heap.size + 1, 2, none⟩ = false := (F3 _ _ (by omega)).trans (f3 2)
  rw [hsz2] at q3 k3
  clear hc3 hf3 hb3 C3 F3 O0 O1 O2 S0 S1 S2 f3 f4 f41 f42 y2 hF2 q1a k1a q2 k2 hBt hB2
  have hz3 : g2 ≤ w2.heap.size := hz2
  generalize hg3 : w2.heap.size = g3 at *
  have X0 : (w3.setCell ⟨w.heap.size + 1 + 1, 2, none⟩ (.slice (some ⟨g3, 0, none⟩) ls.length ls.length)).cell? ⟨w.heap.size + 1, 0, none⟩ = some (.slice none 0 0) := by rw [World.cell?_setCell_other _ _ _ _ (ne_blk2 (by omega))]; exact T0
  have X1 : (w3.setCell ⟨w.heap.size + 1 + 1, 2, none⟩ (.slice (some ⟨g3, 0, none⟩) ls.length ls.length)).cell? ⟨w.heap.size + 1, 1, none⟩ = some (.slice none 0 0) := by rw [World.cell?_setCell_other _ _ _ _ (ne_blk2 (by omega))]; exact T1
  have X2 : (w3.setCell ⟨w.heap.size + 1 + 1, 2, none⟩ (.slice (some ⟨g3, 0, none⟩) ls.length ls.length)).cell? ⟨w.heap.size + 1, 2, none⟩ = some (.slice none 0 0) := by rw [World.cell?_setCell_other _ _ _ _ (ne_blk2 (by omega))]; exact T2
  obtain ⟨r0, r1, r2⟩ := set_three (v0 := .slice (some ⟨g1, 0, none⟩) rs.length rs.length) (v1 := .slice (some ⟨g2, 0, none⟩) zs.length zs.length) (v2 := .slice (some ⟨g3, 0, none⟩) ls.length ls.length) X0 X1 X2
  have hF3 : From g1 w3 ((((w3.setCell ⟨w.heap.size + 1 + 1, 2, none⟩ (.slice (some ⟨g3, 0, none⟩) ls.length ls.length)).setCell ⟨w.heap.size + 1, 0, none⟩ (.slice (some ⟨g1, 0, none⟩) rs.length rs.length)).setCell ⟨w.heap.size + 1, 1, none⟩ (.slice (some ⟨g2, 0, none⟩) zs.length zs.length)).setCell ⟨w.heap.size + 1, 2, none⟩ (.slice (some ⟨g3, 0, none⟩) ls.length ls.length)) :=
    ((((From.refl g1 w3).set (by omega) _).set (by omega) _).set (by omega) _).set (by omega) _
  go_wp2
  refine bodyPost_ret (v := .agg #[.slice (some ⟨g1, 0, none⟩) rs.length rs.length, .slice (some ⟨g2, 0, none⟩) zs.length zs.length, .slice (some ⟨g3, 0, none⟩) ls.length ls.length]) (by simp [results, Tryz.results25, go_sem, r0, r1, r2]) rfl ⟨_, rfl, ⟨g1, g2, g3, rfl, ⟨by omega, by omega, by omega⟩, ⟨q1b.from hF3 (Nat.le_refl _), k1b.from hF3 (Nat.le_refl _)⟩, ⟨q2b.from hF3 (by omega), k2b.from hF3 (by omega)⟩, ⟨q3.from hF3 (by omega), k3.from hF3 (by omega)⟩⟩, (((hB3.setCell (show w.heap.size ≤ w.heap.size + 1 + 1 by omega) _).setCell (show w.heap.size ≤ w.heap.size + 1 by omega) _).setCell (show w.heap.size ≤ w.heap.size + 1 by omega) _).setCell (show w.heap.size ≤ w.heap.size + 1 by omega) _⟩
set_option maxHeartbeats 1000000 in
theorem laws_eqRelease (r : RelD) (v v2 : Value) (w : World) (hv : RelAt w v r) (hv2 : RelAt w v2 r) (hm : r.small) :
    Calls Tryz.prog 27 #[v, v2] w fun e w' => e = .returned (.bool true) ∧ Below w.heap.size w w' := by
  obtain ⟨a, b, c, ca, cb, cc, rfl, hA, hB, hC⟩ := hv.form
  obtain ⟨a2, b2, c2, ca2, cb2, cc2, rfl, hA2, hB2, hC2⟩ := hv2.form
  obtain ⟨m1, m2, m3, m4⟩ := hm
  obtain ⟨rs, zs, ls⟩ := r
  simp only at *
  have hR := fun w (h : SeqAt w a 9 (rs.map RuleD.cs)) (h2 : SeqAt w a2 9 (rs.map RuleD.cs)) => laws_eqRuleS rs a a2 ca ca2 w h h2 m1
  have hZ := fun w (h : ZonesAt w b zs) (h2 : ZonesAt w b2 zs) => laws_eqZoneS zs b b2 cb cb2 w h h2 m2 m4
  have hL := fun w (h : SeqAt w c 2 (ls.map LinkD.cs)) (h2 : SeqAt w c2 2 (ls.map LinkD.cs)) => laws_eqLinkS ls c c2 cc cc2 w h h2 m3
  have hb0 : ∀ o o2, Below w.heap.size w ((w.alloc o).alloc o2) := fun o o2 => ((Below.refl _ _).alloc (Nat.le_refl _) o).alloc (by simp) o2
  clear hv hv2
  go_enter Tryz.func27, Tryz.ntmps27
  go_wp2_with fail
  refine (hR _ (hA.below (hb0 _ _)) (hA2.below (hb0 _ _))).mono ?_
  rintro e w1 ⟨rfl, hb1⟩
  obtain ⟨hc1, _⟩ := bcell hb1
  have hB1 := (hb0 _ _).trans (hb1.mono (by simp; omega))
  have hz1 : w.heap.size + 1 < w1.heap.size := by have := hb1.size; simp at this; omega
  have hz0 : w.heap.size < w1.heap.size := by omega
  go_wp2_with fail
  refine (hZ _ (hB.below hB1) (hB2.below hB1)).mono ?_
  rintro e w2 ⟨rfl, hb2⟩
  obtain ⟨hc2, _⟩ := bcell hb2
  have hBB := hB1.trans (hb2.mono hB1.size)
  go_wp2_with fail
  refine (hL _ (hC.below hBB) (hC2.below hBB)).mono ?_
  rintro e w3 ⟨rfl, hb3⟩
  go_wp2
  go_ret
  exact ⟨rfl, hBB.trans (hb3.mono hBB.size)⟩
end Go.Proofs.YtjdokmllidhapaaGreatDoor
