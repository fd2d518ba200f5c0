/- The table of a zone: the model's l03Table, walked. -/
import Derived.Test.YtbbhpfobcelbfaaGreatDoorTs6t
import Derived.Test.YtbbhpfobcelbfaaGreatDoorAhdt
import Derived.Deep.RegionWith
import Derived.Deep.Cut
import Derived.Deep.CutRange
import Derived.BigRegion
import Derived.Deep.RegionHeld3
namespace Go.Proofs.YtbbhpfobcelbfaaGreatDoor
open Go.RowKit Go.Sort

/-- a test's answer. -/
structure Tst (p : Prop) (x : Value) : Prop where
  ex : ∃ tb : Bool, x = .bool tb ∧ (tb = true ↔ p)
/-- behind a turn that was put, and the table stored. -/
theorem after_add {w w6 wy w7 w8 : World} {n0 n1 : Nat} {p7 p8 : Option Addr} {m7 c7 m8 c8 : Nat} {T T' : List TurnD} {x : TurnD} {v0 v1 v2 z0 z1 : Value}
    (hMy : Mid n0 n1 w6 wy) (hsy : n1 ≤ wy.heap.size) (hBy : Below w.heap.size w wy) (hb7 : Below wy.drew.heap.size wy.drew w7) (htb : ∀ g, (Value.slice p7 m7 c7).ownBlock = some g → w.heap.size + 1 + 1 + 1 + 1 ≤ g) (hlq : ∀ g, (Value.slice p7 m7 c7).ownBlock = some g → g < n0 ∨ n1 ≤ g)
    (hFr : Fr (fun b => (Value.slice p7 m7 c7).ownBlock = some b) w7 w8) (hO8 : OwnsT w8 (w.heap.size + 1 + 1 + 1 + 1) (.slice p8 m8 c8) (addT T x)) (hlc : (Value.slice p8 m8 c8).ownBlock = (Value.slice p7 m7 c7).ownBlock ∨ ∃ g, (Value.slice p8 m8 c8).ownBlock = some g ∧ w7.heap.size ≤ g)
    (bx8 : Boxes w.heap.size v0 v1 v2 z0 z1 w8) (tb8 : ∃ u, w8.cell? ⟨w.heap.size + 1 + 1 + 1, 0, none⟩ = some u) (h0 : w.heap.size + 1 + 1 + 1 + 1 ≤ n0) (_h01 : n0 ≤ n1) (hT' : T' = addT T x) :
    Mid n0 n1 w6 (w8.setCell ⟨w.heap.size + 1 + 1 + 1, 0, none⟩ (.slice p8 m8 c8)) ∧ n1 ≤ (w8.setCell ⟨w.heap.size + 1 + 1 + 1, 0, none⟩ (.slice p8 m8 c8)).heap.size ∧ Boxes w.heap.size v0 v1 v2 z0 z1 (w8.setCell ⟨w.heap.size + 1 + 1 + 1, 0, none⟩ (.slice p8 m8 c8)) ∧ (w8.setCell ⟨w.heap.size + 1 + 1 + 1, 0, none⟩ (.slice p8 m8 c8)).cell? ⟨w.heap.size + 1 + 1 + 1, 0, none⟩ = some (.slice p8 m8 c8) ∧ OwnsT (w8.setCell ⟨w.heap.size + 1 + 1 + 1, 0, none⟩ (.slice p8 m8 c8)) (w.heap.size + 1 + 1 + 1 + 1) (.slice p8 m8 c8) T' ∧ Hid (∀ g, (Value.slice p8 m8 c8).ownBlock = some g → g < n0 ∨ n1 ≤ g) ∧ Below w.heap.size w (w8.setCell ⟨w.heap.size + 1 + 1 + 1, 0, none⟩ (.slice p8 m8 c8)) := by
  have hs2 : wy.drew.heap.size = wy.heap.size := rfl
  have h57 : n1 ≤ w7.heap.size := by have h1 := hb7.size; omega
  have M7 : Mid n0 n1 w6 w7 := (hMy.trans (Mid.of_below (n0 := n0) (n1 := n1) (below_drew wy) (by omega))).trans (Mid.of_below (n0 := n0) (n1 := n1) hb7 (by omega))
  have M8 : Mid n0 n1 w6 w8 := M7.trans fun g h1 h2 => hFr.block g (by omega) fun hg => by have := hlq g hg; omega
  have B7 : Below w.heap.size w w7 := (hBy.trans ((below_drew wy).mono hBy.size)).trans (hb7.mono hBy.size)
  have B8 : Below w.heap.size w w8 := B7.trans (hFr.below (fun g hg => by have := htb g hg; omega) B7.size)
  have hlo8 : ∀ g, (Value.slice p8 m8 c8).ownBlock = some g → w.heap.size + 1 + 1 + 1 + 1 ≤ g := fun g hg => (World.ownsRow.lt hO8 g hg).1
  obtain ⟨u, hu⟩ := tb8
  refine ⟨M8.trans fun g h1 h2 => heap_setCell_other w8 ⟨w.heap.size + 1 + 1 + 1, 0, none⟩ g _ (fun e => by simp at e; omega), by simp; exact Nat.le_trans h57 hFr.size, bx8.set _, World.cell?_setCell_same _ _ _ hu, ?_, fun g hg => ?_, B8.setCell (show w.heap.size ≤ w.heap.size + 1 + 1 + 1 by omega) _⟩
  · rw [hT']
    exact kept_sets hO8 (fun e => by have := hlo8 _ e; omega)
  · rcases hlc with h | ⟨g2, h2, h3⟩
    · exact hlq g (h.symm.trans hg)
    · rw [h2] at hg; injection hg with hg; omega
theorem ne_rules {e : EraD} (h0 : ¬ e.rules.size = 0) : e.rules.toList.isEmpty = false := by
  cases h : e.rules.toList with
  | nil => exact absurd (by rw [toList_dataA] at h; rw [← size_data, h]; rfl) h0
  | cons x l => rfl
set_option maxRecDepth 20000 in
set_option maxHeartbeats 40000000 in
theorem spec_l03Table (r : RelD) (zn : ByteArray) (E : List EraD) (ae : Option Addr) (ce : Nat) (a b0 c : Option Addr) (ca cb cc : Nat) (w : World) (hv : RelAt w (.agg #[.slice a r.rules.length ca, .slice b0 r.zones.length cb, .slice c r.links.length cc]) r) (hE : SeqAt w ae 6 (E.map EraD.cs)) (hr : ∀ x ∈ r.rules, ruleB x = true) (hrl : r.rules.length ≤ 40) (hon : ∀ x ∈ r.rules, x.on.size ≤ 1048576) (hP : ∀ e ∈ E, EraR e) (hl : E.length ≤ 8) (hU : UntE E) :
    Calls Tryz.prog 101 #[.agg #[.slice a r.rules.length ca, .slice b0 r.zones.length cb, .slice c r.links.length cc], .agg #[.string zn, .slice ae E.length ce]] w fun q W' => TabSP r E w q W' := by
  obtain ⟨i0, hi, hz0, hz1, hz2⟩ := info_parts infoI64b
  have HR : Hid (∀ x ∈ r.rules, ruleB x = true) := hr
  have HP : Hid (∀ e ∈ E, EraR e) := hP
  have HU : Hid (UntE E) := hU
  have HON : Hid (∀ x ∈ r.rules, x.on.size ≤ 1048576) := hon
  have HV : Hid (RelAt w (.agg #[.slice a r.rules.length ca, .slice b0 r.zones.length cb, .slice c r.links.length cc]) r) := hv
  have hB0 : Below w.heap.size w ((((w.alloc (.cells #[.slice a r.rules.length ca, .slice b0 r.zones.length cb, .slice c r.links.length cc] 27)).alloc (.cells #[.string zn, .slice ae E.length ce] 49)).alloc (.cells #[.slice none 0 0] 42)).alloc (.cells #[.slice none 0 0] 42)) := ((((Below.refl w.heap.size w).alloc (Nat.le_refl _) _).alloc (by simp) _).alloc (by simp; omega) _).alloc (by simp; omega) _
  have bx0 : Boxes w.heap.size (.slice a r.rules.length ca) (.slice b0 r.zones.length cb) (.slice c r.links.length cc) (.string zn) (.slice ae E.length ce) ((((w.alloc (.cells #[.slice a r.rules.length ca, .slice b0 r.zones.length cb, .slice c r.links.length cc] 27)).alloc (.cells #[.string zn, .slice ae E.length ce] 49)).alloc (.cells #[.slice none 0 0] 42)).alloc (.cells #[.slice none 0 0] 42)) := ⟨by simp [go_sem], by simp [go_sem], by simp [go_sem], by simp [go_sem], by simp [go_sem], by simp [go_sem], by simp [go_sem], ⟨.slice none 0 0, by simp [go_sem]⟩, by simp [go_sem]⟩
  have tb0 : ((((w.alloc (.cells #[.slice a r.rules.length ca, .slice b0 r.zones.length cb, .slice c r.links.length cc] 27)).alloc (.cells #[.string zn, .slice ae E.length ce] 49)).alloc (.cells #[.slice none 0 0] 42)).alloc (.cells #[.slice none 0 0] 42)).cell? ⟨w.heap.size + 1 + 1 + 1, 0, none⟩ = some (.slice none 0 0) := by simp [go_sem]
  have hs0 : w.heap.size + 1 + 1 + 1 + 1 ≤ ((((w.alloc (.cells #[.slice a r.rules.length ca, .slice b0 r.zones.length cb, .slice c r.links.length cc] 27)).alloc (.cells #[.string zn, .slice ae E.length ce] 49)).alloc (.cells #[.slice none 0 0] 42)).alloc (.cells #[.slice none 0 0] 42)).heap.size := by simp
  clear hr hP hU hon hv
  go_enter Tryz.func101, Tryz.ntmps101
  go_wp2
  go_loopw [7, 8] (fun s7 s8 wr => ∃ (k : Nat) (a6 : Option Addr) (m6 c6 : Nat), k ≤ E.length ∧ s7 = .int .i64 (stK r E k).2 ∧ s8 = .int .i64 k ∧ wr.cell? ⟨w.heap.size + 1 + 1 + 1, 0, none⟩ = some (.slice a6 m6 c6) ∧ OwnsT wr (w.heap.size + 1 + 1 + 1 + 1) (.slice a6 m6 c6) (stK r E k).1 ∧ Hid (okK r E k = true) ∧ Boxes w.heap.size (.slice a r.rules.length ca) (.slice b0 r.zones.length cb) (.slice c r.links.length cc) (.string zn) (.slice ae E.length ce) wr ∧ w.heap.size + 1 + 1 + 1 + 1 ≤ wr.heap.size ∧ Below w.heap.size w wr) (fun _ s8 _ => E.length - (intOf s8).toNat)
  case atStart => exact ⟨0, none, 0, 0, by omega, rfl, rfl, tb0, World.ownsRow_nil _ _ _ _, rfl, bx0, hs0, hB0⟩
  case round =>
    clear bx0 tb0 hs0 hB0
    obtain ⟨k, a6, m6, c6, hk, hs7, rfl, tb, hT, hOk, bx, hsW, hB⟩ := hrel
    obtain ⟨⟨hb1, hb2⟩, hTl0⟩ := stK_b (r := r) (E := E) k
    have y1_w := bx.y1
    by_cases hlt : k < E.length
    · obtain ⟨e, he⟩ : ∃ e, E[k]? = some e := ⟨_, List.getElem?_eq_getElem hlt⟩
      have eR := HP.out e (List.mem_of_getElem? he)
      obtain ⟨be, oe, hae, hc⟩ := (hE.below hB).at (i := k) (r := e.cs) (by rw [List.getElem?_map, he]; rfl)
      have c0 : wr.cell? ⟨be, oe + k * 6, none⟩ = some (.int .i64 e.offset) := hc 0 _ rfl
      have c1 := hc 1 _ rfl
      have c2 := hc 2 _ rfl
      have c3 := hc 3 _ rfl
      have c4 := hc 4 _ rfl
      have c5 := hc 5 _ rfl
      subst hae
      obtain ⟨⟨T0, b⟩, hst⟩ : ∃ st, stK r E k = st := ⟨_, rfl⟩
      rw [hst] at hT hs7 hb1 hb2 hTl0
      simp only at hT hs7 hb1 hb2 hTl0
      subst hs7
      have hbA := (Below.refl wr.heap.size wr).alloc (Nat.le_refl _) (.cells #[.int .i64 e.offset, .string e.rules, .int .i64 e.save, .string e.format, .int .i64 e.until_, .string e.of] 55)
      have hB1 : Below w.heap.size w (wr.alloc (.cells #[.int .i64 e.offset, .string e.rules, .int .i64 e.save, .string e.format, .int .i64 e.until_, .string e.of] 55)) := hB.alloc (by omega) _
      have bx1 := bx.below hbA
      have tb_1 := keepC hbA tb
      have x0_1 := bx1.x0
      have x1_1 := bx1.x1
      have x2_1 := bx1.x2
      have d0_1 : (wr.alloc (.cells #[.int .i64 e.offset, .string e.rules, .int .i64 e.save, .string e.format, .int .i64 e.until_, .string e.of] 55)).cell? ⟨wr.heap.size, 0, none⟩ = some (.int .i64 e.offset) := by simp [go_sem]
      have d1_1 : (wr.alloc (.cells #[.int .i64 e.offset, .string e.rules, .int .i64 e.save, .string e.format, .int .i64 e.until_, .string e.of] 55)).cell? ⟨wr.heap.size, 1, none⟩ = some (.string e.rules) := by simp [go_sem]
      have d2_1 : (wr.alloc (.cells #[.int .i64 e.offset, .string e.rules, .int .i64 e.save, .string e.format, .int .i64 e.until_, .string e.of] 55)).cell? ⟨wr.heap.size, 2, none⟩ = some (.int .i64 e.save) := by simp [go_sem]
      have d3_1 : (wr.alloc (.cells #[.int .i64 e.offset, .string e.rules, .int .i64 e.save, .string e.format, .int .i64 e.until_, .string e.of] 55)).cell? ⟨wr.heap.size, 3, none⟩ = some (.string e.format) := by simp [go_sem]
      have d4_1 : (wr.alloc (.cells #[.int .i64 e.offset, .string e.rules, .int .i64 e.save, .string e.format, .int .i64 e.until_, .string e.of] 55)).cell? ⟨wr.heap.size, 4, none⟩ = some (.int .i64 e.until_) := by simp [go_sem]
      have d5_1 : (wr.alloc (.cells #[.int .i64 e.offset, .string e.rules, .int .i64 e.save, .string e.format, .int .i64 e.until_, .string e.of] 55)).cell? ⟨wr.heap.size, 5, none⟩ = some (.string e.of) := by simp [go_sem]
      have hH := spec_l03Haps r _ e.rules e.offset (wr.alloc (.cells #[.int .i64 e.offset, .string e.rules, .int .i64 e.save, .string e.format, .int .i64 e.until_, .string e.of] 55)) (HV.out.below hB1) HR.out hrl HON.out eR.off.1 eR.off.2
      have hs1 : (wr.alloc (.cells #[.int .i64 e.offset, .string e.rules, .int .i64 e.save, .string e.format, .int .i64 e.until_, .string e.of] 55)).heap.size = wr.heap.size + 1 := by simp
      rw [hs1] at hH
      have hkl : (k : Int) < (E.length : Int) := by omega
      clear hc
      go_wp2_with fail
      refine hH.mono ?_
      rintro q w2 ⟨v2, H, bb, rfl, hO2, hA2, hbw2⟩
      obtain ⟨hH1, hH2⟩ := hapsR_is hA2
      obtain ⟨a2, ca2, rfl, sH2⟩ := hO2.seq
      have hB2 := hB1.trans (hbw2.mono (by omega))
      have hbw2' : Below ((wr.alloc (.cells #[.int .i64 e.offset, .string e.rules, .int .i64 e.save, .string e.format, .int .i64 e.until_, .string e.of] 55))).heap.size ((wr.alloc (.cells #[.int .i64 e.offset, .string e.rules, .int .i64 e.save, .string e.format, .int .i64 e.until_, .string e.of] 55))) w2 := hs1.symm ▸ hbw2
      have bx2 := bx1.below hbw2'
      have tb_2 := keepC hbw2' tb_1
      have d0_2 := keepC hbw2' d0_1
      have d1_2 := keepC hbw2' d1_1
      have d2_2 := keepC hbw2' d2_1
      have d3_2 := keepC hbw2' d3_1
      have d4_2 := keepC hbw2' d4_1
      have d5_2 := keepC hbw2' d5_1
      have hO2' : OwnsT w2 (w.heap.size + 1 + 1 + 1 + 1) (.slice a6 m6 c6) T0 := owns_below (owns_below hT hbA) hbw2'
      have hlo : ∀ g, (Value.slice a6 m6 c6).ownBlock = some g → g < wr.heap.size := fun g hg => (World.ownsRow.lt hT g hg).2
      have hlb : ∀ g, (Value.slice a6 m6 c6).ownBlock = some g → w.heap.size + 1 + 1 + 1 + 1 ≤ g := fun g hg => (World.ownsRow.lt hT g hg).1
      cases bb with
      | false =>
        have hr0 : ¬ e.rules.size = 0 := fun h => by have := hapsT_none (off := e.offset) HR.out h; rw [this] at hH2; cases hH2
        have hne : e.rules.toList.isEmpty = false := ne_rules hr0
        have HX : Hid ((tabE r E).2 = false) := by simp only [Hid, tabE]; rw [okK_no he hH2.symm hlt]; rfl
        have r0_2 := bx2.r0
        have f0_2 := bx2.f0
        have t0 : (w2.setCell ⟨w.heap.size + 1 + 1, 0, none⟩ (.slice a6 m6 c6)).cell? ⟨w.heap.size + 1 + 1, 0, none⟩ = some (.slice a6 m6 c6) := World.cell?_setCell_same _ _ _ r0_2
        have HQ : Hid (TabSP r E w (.returned (.tuple #[.agg #[.slice a6 m6 c6], .bool false])) (w2.setCell ⟨w.heap.size + 1 + 1, 0, none⟩ (.slice a6 m6 c6))) := ⟨_, _, T0, rfl, kept_sets (owns_mono hO2' (by omega)) (fun h => by have := hlb _ h; omega), HX.out.symm, (fun h => by cases h), hB2.setCell (show w.heap.size ≤ w.heap.size + 1 + 1 by omega) _⟩
        clear hH hA2 hH1 hH2 hO2 sH2 HX hO2' hbw2 hbw2'
        go_wp2
        exact bodyPost_ret (v := .tuple #[.agg #[.slice a6 m6 c6], .bool false]) (by simp [results, Tryz.results101, go_sem, t0]) rfl HQ.out
      | true =>
        have HOK : Hid (okK r E (k + 1) = true) := okK_yes he hH2.symm hOk.out
        have hHb := hapsT_b (nm := e.rules) HR.out eR.off.1 eR.off.2
        have hHl := hapsT_len (r := r) (nm := e.rules) (off := e.offset)
        have hSL := fun h => stK_last (r := r) (T := T0) (b := b) he h hst
        have hSM := fun h => stK_more (r := r) (T := T0) (b := b) he h hst
        have hHn := fun h => congrArg Prod.fst (hapsT_none (nm := e.rules) (off := e.offset) HR.out h)
        rw [← hH1] at hHb hHl hSL hSM hHn
        have HR0 : Hid (e.rules.size = 0 → H = []) := hHn
        have HHb : Hid (∀ h ∈ H, HapB h) := hHb
        have HFb : Hid (∀ t, (-7200 ≤ (forceE e H t).save ∧ (forceE e H t).save ≤ 7200) ∧ (forceE e H t).letter.size ≤ 6) := forceE_b eR hHb
        have hef := eR.fmt
        have he3 := eR.off.1
        have he4 := eR.off.2
        have ha2 : ∀ b o, a2 = some ⟨b, o, none⟩ → wr.heap.size ≤ b ∧ b < w2.heap.size := fun b o h => by
          have h1 := World.ownsRow.lt hO2 b (by rw [h]; rfl)
          omega
        have hEn := spec_l03End e H a2 ca2 b w2 sH2 hHl (by omega) (fun t => by have := (HFb.out t).2; omega) eR.unt.1 eR.unt.2 he3 he4 (fun t => (HFb.out t).1) hb2
        have hEL := fun h => endS_last HU.out he h H b
        have hEM := fun h => endS_more HU.out he h H b
        simp only [EraD.v] at hEn
        have hw2s : wr.heap.size + 1 ≤ w2.heap.size := by have h := hbw2.size; rw [hs1] at h; exact h
        clear hH hA2 hH1 hH2 hO2 hst hOk hT hHb hHn hbw2 hbw2' bx1 tb_1 bx tb hbA hs1 hB1 c0 c1 c2 c3 c4 c5 d0_1 d1_1 d2_1 d3_1 d4_1 d5_1 x0_1 x1_1 x2_1
        obtain ⟨en, hen⟩ : ∃ en, endS e H b = en := ⟨_, rfl⟩
        rw [hen] at hEn hEL hEM
        go_wp2_with fail
        refine hEn.mono ?_
        rintro q w3 ⟨rfl, hbw3⟩
        have hB3 := hB2.trans (hbw3.mono hB2.size)
        have bx3 := bx2.below hbw3
        have hO3 := owns_below hO2' hbw3
        have sH3 := sH2.below hbw3
        have tb_3 := keepC hbw3 tb_2
        have d0_3 := keepC hbw3 d0_2
        have d1_3 := keepC hbw3 d1_2
        have d2_3 := keepC hbw3 d2_2
        have d3_3 := keepC hbw3 d3_2
        have d4_3 := keepC hbw3 d4_2
        have d5_3 := keepC hbw3 d5_2
        have hN30 : wr.heap.size < w3.heap.size := by have h1 := hbw3.size; omega
        have y1_3 := bx3.y1
        obtain ⟨n0, hn0⟩ : ∃ n, wr.heap.size = n := ⟨_, rfl⟩
        have ha3 : ∀ b o, a2 = some ⟨b, o, none⟩ → n0 ≤ b ∧ b < w3.heap.size := fun b o h => by have h1 := ha2 b o h; have h2 := hbw3.size; omega
        have ha2 := ha3
        rw [hn0] at hlo hN30 hsW d0_3 d1_3 d2_3 d3_3 d4_3 d5_3
        rw [hn0]
        clear ha3 hEn hbw3 hO2' sH2 bx2 tb_2 hB2 d0_2 d1_2 d2_2 d3_2 d4_2 d5_2 hw2s hn0
        have hOE : OwnsI (w3.alloc (.cells #[] 2)) w3.heap.size (.slice (some ⟨w3.heap.size, 0, none⟩) 0 0) [] := own_empty w3 2 1
        have y1_4 := keepC ((Below.refl w3.heap.size w3).alloc (Nat.le_refl _) (.cells #[] 2)) y1_3
        by_cases hcase : b < en ∨ k + 1 = E.length
        · have HS : Hid (stK r E (k + 1) = (foldT (turnE e H) (atsF b (inX H b en)) T0, en)) := by
            by_cases hla : k + 1 = E.length
            · simp only [Hid]; rw [hSL hla, hEL hla]
            · rw [hEM hla] at hcase ⊢
              simp only [Hid]
              rw [hSM hla, if_pos (hcase.resolve_right hla)]
          have hcond : b < en ∨ (¬ b < en ∧ en = b ∧ ((k : Int) == (E.length : Int) - 1) = true) := by
            by_cases h : b < en
            · exact .inl h
            · refine .inr ⟨h, ?_, by have := hcase.resolve_left h; simp; omega⟩
              have h1 := hEL (hcase.resolve_left h)
              omega
          clear hSL hSM hEL hEM hen hcase
          go_upto_region 12 with fail
          go_cut [68] from 19 to 161 (fun x wx => x = .bool true ∧ wx = (w3.alloc (.cells #[] 2)))
          case first =>
            rcases hcond with g1 | ⟨g1, g2, g3⟩
            · go_wp2
              go_meet
              exact ⟨rfl, rfl⟩
            · have g4 : b ≤ en := by omega
              clear g2
              go_wp2
              go_meet
              exact ⟨rfl, rfl⟩
          case rest =>
            obtain ⟨rfl, rfl⟩ := hcut
            clear hcond
            go_wp2_with (first
              | (at_builtin; refine wpList_append_own _ rfl _ _ 77 rfl w3.heap.size 2 i0 (.int .i64 0) 1 8 Tryz.underlying77 hi hz0 hz1 hz2 rfl (by decide) (.slice (some ⟨w3.heap.size, 0, none⟩) 0 0) 0 [] rfl (World.ownsRow.alloc hOE _) ⟨w3.heap.size + 1, 0, none⟩ 1 1 [.int .i64 b] rfl rfl (by simpa using cell_one_new (w3.alloc (.cells #[] 2)) (.int .i64 b) 2) (by intro u hu; simp at hu; subst hu; rfl) (by unfold maxLen; simp) (by simp) (by simp; omega) ?_)
              | fail)
            intro vA wA hownA hgrA _
            obtain ⟨pA, mA0, cA0, rfl⟩ := row_shape3 hownA
            have hb4 : Below w3.heap.size w3 wA := (((Below.refl w3.heap.size w3).alloc (Nat.le_refl _) _).alloc (by simp) _).grown hgrA (by simp; omega) (fun j hj => by simp [Value.ownBlock] at hj; omega)
            have hOA1 : OwnsI wA w3.heap.size (.slice pA mA0 cA0) ((inX (H.take 0) b en).foldl insA [b]) := by simpa [OwnsI, inX] using hownA
            clear hownA hgrA hOE
            go_wp2
            go_loopw [13, 14] (fun s13 s14 wq => ∃ (j : Nat) (p : Option Addr) (m c : Nat), j ≤ H.length ∧ s14 = .int .i64 j ∧ s13 = .slice p m c ∧ OwnsI wq w3.heap.size (.slice p m c) ((inX (H.take j) b en).foldl insA [b]) ∧ Below w3.heap.size w3 wq) (fun _ s14 _ => H.length - (intOf s14).toNat)
            case atStart => exact ⟨0, pA, mA0, cA0, by omega, rfl, rfl, hOA1, hb4⟩
            case round =>
              obtain ⟨wp, hwp⟩ : ∃ x : World, x = wr := ⟨_, rfl⟩
              subst hwp
              obtain ⟨j, aA, mA, cA, hj, rfl, rfl, hOq, hbq⟩ := hrel
              clear hOA1 hb4
              by_cases hjl : j < H.length
              · obtain ⟨x, hx⟩ : ∃ x, H[j]? = some x := ⟨_, List.getElem?_eq_getElem hjl⟩
                obtain ⟨bh, oh, hax, hcx⟩ := (sH3.below hbq).at (i := j) (r := x.cs) (by rw [List.getElem?_map, hx]; rfl)
                have e0 : wp.cell? ⟨bh, oh + j * 3, none⟩ = some (.int .i64 x.at_) := hcx 0 _ rfl
                have hr0 : ¬ e.rules.size = 0 := fun h => by have := HR0.out h; rw [this] at hjl; simp at hjl
                have hne : e.rules.toList.isEmpty = false := ne_rules hr0
                have d1_q := keepC hbq d1_3
                have hji : (j : Int) < (H.length : Int) := by omega
                have HXs := inX_step (b := b) (e := en) hx
                have hLl : ((inX (H.take j) b en).foldl insA [b]).length ≤ 100000 := by
                  have h1 := ats_len b (inX (H.take j) b en)
                  have h2 := inX_len (H.take j) b en
                  have h3 : (H.take j).length ≤ 2000 := by rw [List.length_take]; omega
                  unfold atsF at h1
                  omega
                have hLg := ats_go (X := inX (H.take j) b en) (A := [b]) (by simp)
                have hL0 : 0 < ((inX (H.take j) b en).foldl insA [b]).length := List.length_pos_of_mem ((hLg.2 b).mpr (.inl (by simp)))
                by_cases hin : b < x.at_ ∧ x.at_ < en
                · rw [if_pos hin] at HXs
                  have HXh : Hid ((inX (H.take (j + 1)) b en).foldl insA [b] = insA ((inX (H.take j) b en).foldl insA [b]) x.at_) := by simp only [Hid]; rw [HXs, List.foldl_append]; rfl
                  have hAh := spec_l03Ahead ((inX (H.take j) b en).foldl insA [b]) (.slice aA mA cA) x.at_ w3.heap.size wp hOq hbq.size hL0 hLl hLg.1
                  obtain ⟨g1, g2⟩ := hin
                  generalize (inX (H.take j) b en).foldl insA [b] = L at *
                  subst hax
                  clear HXs hcx hx hLg hOq
                  go_wp2_with fail
                  refine hAh.mono ?_
                  rintro q w7 ⟨v7, rfl, hO7, hb7⟩
                  obtain ⟨p7, m7, c7, rfl⟩ := row_shape3 hO7
                  have HO7 : Hid (OwnsI w7 w3.heap.size (.slice p7 m7 c7) ((inX (H.take (j + 1)) b en).foldl insA [b])) := by rw [HXh.out]; exact hO7
                  clear hO7 hAh
                  go_wp2
                  go_roundw
                  case rel => exact ⟨j + 1, p7, m7, c7, by omega, by go_num, rfl, HO7.out, hbq.trans hb7⟩
                  case measure => simp [intOf]; omega
                · rw [if_neg hin, List.append_nil] at HXs
                  have HO7 : Hid (OwnsI wp w3.heap.size (.slice aA mA cA) ((inX (H.take (j + 1)) b en).foldl insA [b])) := by rw [HXs]; exact hOq
                  subst hax
                  clear HXs hcx hx hLg hOq hL0 hLl
                  by_cases g1 : b < x.at_
                  · have g2 : ¬ x.at_ < en := fun h => hin ⟨g1, h⟩
                    clear hin
                    go_wp2
                    go_roundw
                    case rel => exact ⟨j + 1, aA, mA, cA, by omega, by go_num, rfl, HO7.out, hbq⟩
                    case measure => simp [intOf]; omega
                  · clear hin
                    go_wp2
                    go_roundw
                    case rel => exact ⟨j + 1, aA, mA, cA, by omega, by go_num, rfl, HO7.out, hbq⟩
                    case measure => simp [intOf]; omega
              · have hje : j = H.length := by omega
                have hji : ¬ (j : Int) < (H.length : Int) := by omega
                rw [hje, List.take_length] at hOq
                have hB5 := hB3.trans (hbq.mono hB3.size)
                have bx5 := bx3.below hbq
                have hO5 := owns_below hO3 hbq
                have sH5 := sH3.below hbq
                have tb_5 := keepC hbq tb_3
                have d0_5 := keepC hbq d0_3
                have d1_5 := keepC hbq d1_3
                have d2_5 := keepC hbq d2_3
                have d3_5 := keepC hbq d3_3
                have d4_5 := keepC hbq d4_3
                have d5_5 := keepC hbq d5_3
                have hN5 : w3.heap.size ≤ wp.heap.size := hbq.size
                obtain ⟨w5, hw5⟩ : ∃ x : World, x = wp := ⟨_, rfl⟩
                subst hw5
                obtain ⟨n3, hn3⟩ : ∃ n, w3.heap.size = n := ⟨_, rfl⟩
                rw [hn3] at hOq hN5 ha2 hN30
                obtain ⟨A, hAA⟩ : ∃ A, atsF b (inX H b en) = A := ⟨_, rfl⟩
                have hOA : OwnsI w5 n3 (.slice aA mA cA) A := by rw [← hAA]; exact hOq
                have HAu : Hid (A.Pairwise (· < ·)) := by rw [← hAA]; exact (ats_go (X := inX H b en) (A := [b]) (by simp)).1
                have hAl : A.length ≤ 2001 := by have h1 := ats_len b (inX H b en); have h2 := inX_len H b en; rw [hAA] at h1; omega
                rw [hAA] at HS
                have hsn1 : w.heap.size + 1 + 1 + 1 + 1 ≤ n3 := by have h1 := hN30; omega
                have hn30 : n0 < n3 := by omega
                clear hje hOq hAA hbq hO3 sH3 bx3 tb_3 hB3 hn3
                clear d0_3 d1_3 d2_3 d3_3 d4_3 d5_3
                have hLo := fun w (h : SeqAt w a2 3 (H.map HapD.cs)) => spec_l03Lows H a2 ca2 w h hHl (fun h hh => (HHb.out h hh).at_)
                go_wp2_with fail
                refine (hLo _ sH5).mono ?_
                rintro q w6 ⟨rfl, hLw, hb6⟩
                have hB6 := hB5.trans (hb6.mono hB5.size)
                have bx6 := bx5.below hb6
                have hO6 := owns_below hO5 hb6
                have sH6 := sH5.below hb6
                have tb_6 := keepC hb6 tb_5
                have d0_6 := keepC hb6 d0_5
                have d1_6 := keepC hb6 d1_5
                have d2_6 := keepC hb6 d2_5
                have d3_6 := keepC hb6 d3_5
                have d4_6 := keepC hb6 d4_5
                have d5_6 := keepC hb6 d5_5
                obtain ⟨g5, hg5⟩ : ∃ n, w5.heap.size = n := ⟨_, rfl⟩
                obtain ⟨n1, hn1⟩ : ∃ n, w6.heap.size = n := ⟨_, rfl⟩
                have h56 : g5 ≤ n1 := by rw [← hg5, ← hn1]; exact hb6.size
                rw [hg5] at hLw ⊢
                have HLw : Hid (∀ i t, (sufM H)[i]? = some t → w6.cell? ⟨g5, i, none⟩ = some (.int .i64 t)) := fun i t h => hLw i t (Nat.zero_le _) h
                have hA6 : OwnsI w6 n3 (.slice aA mA cA) A := owns_below hOA hb6
                have hmA : mA = A.length := by
                  rcases hA6.2 with ⟨h, h0⟩ | ⟨g, cap, cur, h, _⟩
                  · injection h with h1 h2 h3; omega
                  · injection h
                subst hmA
                have hg5l : n3 ≤ g5 := by rw [← hg5]; exact hN5
                have HAc : Hid (∀ (i : Nat) x, A[i]? = some x → ∃ gA, aA = some ⟨gA, 0, none⟩ ∧ n3 ≤ gA ∧ gA < n1 ∧ w6.cell? ⟨gA, i, none⟩ = some (.int .i64 x)) := fun i x hx => by
                  obtain ⟨g, cap, hv, _, hg, hgb, hc⟩ := hA6.open (by have := (List.getElem?_eq_some_iff.mp hx).1; omega)
                  injection hv with hv1 hv2 hv3
                  exact ⟨g, hv1, hgb, by rw [← hn1]; exact hg, hc i x hx⟩
                have hloc6 : ∀ g, (Value.slice a6 m6 c6).ownBlock = some g → g < n0 ∨ n1 ≤ g := fun g hg => .inl (hlo g hg)
                have hn1b : n1 ≤ w6.heap.size := by omega
                have hg5n : 0 < H.length → g5 < n1 := fun h => by
                  obtain ⟨u, hu⟩ : ∃ u, (sufM H)[0]? = some u := ⟨_, List.getElem?_eq_getElem (by rw [sufM_len]; exact h)⟩
                  have := World.block_lt_of_cell? _ _ (hLw 0 u (Nat.le_refl _) hu)
                  simp at this
                  omega
                have hn01 : n0 < n1 := by omega
                have h2b : ∀ bb oo, a2 = some ⟨bb, oo, none⟩ → n0 ≤ bb ∧ bb < n1 := fun bb oo h => by have := ha2 bb oo h; omega
                have HSl : Hid ((sufM H).length = H.length) := sufM_len H
                have HLm : Hid (∀ i k, i ≤ k → k ≤ H.length → lowAt (sufM H) i ≤ lowAt (sufM H) k) := fun i k h1 h2 => low_mono h1 h2
                have HLc : Hid (∀ t m, m ≤ H.length → (∀ i, i < m → lowAt (sufM H) i ≤ t) → (∀ i, m ≤ i → i < H.length → t < lowAt (sufM H) i) → hcnt H t = m) := fun t m h1 h2 h3 => low_cnt (fun h hh => (HHb.out h hh).at_) h1 (fun i hi => by have := h2 i hi; omega) h3
                generalize sufM H = SU at *
                clear hLw hb6 hO5 sH5 bx5 tb_5 hA6 hOA hn1 hg5 hLo
                clear d0_5 d1_5 d2_5 d3_5 d4_5 d5_5
                go_wp2
                go_loopw [16, 17] (fun s16 s17 wq => ∃ (j nn : Nat) (p7 : Option Addr) (m7 c7 : Nat), j ≤ A.length ∧ s17 = .int .i64 j ∧ s16 = .int .i64 nn ∧ nn ≤ H.length ∧ Hid (∀ i, i < nn → ∀ j2 t, j ≤ j2 → A[j2]? = some t → lowAt SU i ≤ t) ∧ wq.cell? ⟨w.heap.size + 1 + 1 + 1, 0, none⟩ = some (.slice p7 m7 c7) ∧ OwnsT wq (w.heap.size + 1 + 1 + 1 + 1) (.slice p7 m7 c7) (foldT (turnE e H) (A.take j) T0) ∧ Hid (∀ g, (Value.slice p7 m7 c7).ownBlock = some g → g < n0 ∨ n1 ≤ g) ∧ Mid n0 n1 w6 wq ∧ n1 ≤ wq.heap.size ∧ Boxes w.heap.size (.slice a r.rules.length ca) (.slice b0 r.zones.length cb) (.slice c r.links.length cc) (.string zn) (.slice (some ⟨be, oe, none⟩) E.length ce) wq ∧ Below w.heap.size w wq) (fun _ s17 _ => A.length - (intOf s17).toNat)
                case atStart => exact ⟨0, 0, a6, m6, c6, by omega, rfl, rfl, by omega, fun i hi => by omega, tb_6, hO6, hloc6, Mid.refl _ _ _, hn1b, bx6, hB6⟩
                case round =>
                  obtain ⟨wq, hwq⟩ : ∃ x : World, x = wr := ⟨_, rfl⟩
                  subst hwq
                  obtain ⟨j, nn, a7, m7, c7, hj, rfl, rfl, hnn, hNN, tbq, hOq, hlq, hMq, hsq, bxq, hBq⟩ := hrel
                  clear hloc6 hO6 bx6 tb_6 hB6
                  by_cases hjl : j < A.length
                  · obtain ⟨t, ht⟩ : ∃ t, A[j]? = some t := ⟨_, List.getElem?_eq_getElem hjl⟩
                    obtain ⟨gA, rfl, hgA1, hgA2, hcA⟩ := HAc.out j t ht
                    have ct_q : wq.cell? ⟨gA, j, none⟩ = some (.int .i64 t) := hMq.cell (by omega) hgA2 hcA
                    have HNt : Hid (∀ i, i < nn → lowAt SU i ≤ t) := fun i hi => hNN.out i hi j t (Nat.le_refl _) ht
                    have HTk : Hid (foldT (turnE e H) (A.take (j + 1)) T0 = addT (foldT (turnE e H) (A.take j) T0) (turnE e H t)) := by simp only [Hid]; rw [List.take_add_one, ht]; exact foldT_snoc _ _ _ _
                    have hTl : (foldT (turnE e H) (A.take j) T0).length ≤ 100000 := by have h1 := foldT_len (turnE e H) (A.take j) T0; have h2 : (A.take j).length ≤ A.length := by rw [List.length_take]; omega
                                                                                       omega
                    obtain ⟨TT, hTT⟩ : ∃ TT, foldT (turnE e H) (A.take j) T0 = TT := ⟨_, rfl⟩
                    rw [hTT] at hOq HTk hTl
                    have htb : ∀ g, (Value.slice a7 m7 c7).ownBlock = some g → w.heap.size + 1 + 1 + 1 + 1 ≤ g := fun g hg => (World.ownsRow.lt hOq g hg).1
                    have HUp : Hid (∀ j2 t2, j + 1 ≤ j2 → A[j2]? = some t2 → t ≤ t2) := fun j2 t2 h1 h2 => by have := up_ltA HAu.out (i := j) (k := j2) (by omega) ht h2; omega
                    have d0_q := hMq.cell (Nat.le_refl _) hn01 d0_6
                    have d1_q := hMq.cell (Nat.le_refl _) hn01 d1_6
                    have d2_q := hMq.cell (Nat.le_refl _) hn01 d2_6
                    have d3_q := hMq.cell (Nat.le_refl _) hn01 d3_6
                    have d4_q := hMq.cell (Nat.le_refl _) hn01 d4_6
                    have d5_q := hMq.cell (Nat.le_refl _) hn01 d5_6
                    have hjA : (j : Int) < (A.length : Int) := by omega
                    clear hTT hcA ht
                    go_wp2
                    go_loopw [16] (fun s16 wz => ∃ n2 : Nat, n2 ≤ H.length ∧ s16 = .int .i64 n2 ∧ Hid (∀ i, i < n2 → lowAt SU i ≤ t) ∧ Below wq.heap.size wq wz) (fun s16 _ => H.length - (intOf s16).toNat)
                    case atStart => exact ⟨nn, hnn, rfl, HNt, Below.refl _ _⟩
                    case round =>
                      obtain ⟨wz, hwz⟩ : ∃ x : World, x = wr := ⟨_, rfl⟩
                      subst hwz
                      obtain ⟨n2, hn2, rfl, hN2, hbz⟩ := hrel
                      have ct_z := keepC hbz ct_q
                      go_upto_region 24 with fail
                      go_cut [129] from 115 to 131 (fun x wx => Tst (n2 < H.length ∧ lowAt SU n2 ≤ t) x ∧ Below wq.heap.size wq wx)
                      case first =>
                        by_cases hfull : n2 < H.length
                        · obtain ⟨u, hu⟩ : ∃ u, SU[n2]? = some u := ⟨_, List.getElem?_eq_getElem (by rw [HSl.out]; exact hfull)⟩
                          have cu : wz.cell? ⟨g5, n2, none⟩ = some (.int .i64 u) := keepC hbz (hMq.cell (by omega) (hg5n (by omega)) (HLw.out n2 u hu))
                          have hgd : decide ((n2 : Int) < (H.length : Int)) = true := decide_eq_true (by omega)
                          have hg2 : (n2 : Int) < (H.length : Int) := by omega
                          have hlu := lowAt_in hu
                          by_cases hle : u ≤ t
                          · have hd : decide (u ≤ t) = true := decide_eq_true hle
                            have HT9 : Hid (Tst (n2 < H.length ∧ lowAt SU n2 ≤ t) (.bool true)) := ⟨true, rfl, fun _ => ⟨hfull, by rw [hlu]; exact hle⟩, fun _ => rfl⟩
                            clear hu hlu
                            go_quiet (fail)
                            go_wp2
                            go_meet
                            exact ⟨HT9.out, below_drewN hbz _⟩
                          · have hd : decide (u ≤ t) = false := decide_eq_false hle
                            have HT9 : Hid (Tst (n2 < H.length ∧ lowAt SU n2 ≤ t) (.bool false)) := ⟨false, rfl, (fun h => by cases h), fun h => absurd (by rw [← hlu]; exact h.2) hle⟩
                            clear hu hlu
                            go_quiet (fail)
                            go_wp2
                            go_meet
                            exact ⟨HT9.out, below_drewN hbz _⟩
                        · have hgd : decide ((n2 : Int) < (H.length : Int)) = false := decide_eq_false (by omega)
                          have HT9 : Hid (Tst (n2 < H.length ∧ lowAt SU n2 ≤ t) (.bool false)) := ⟨false, rfl, (fun h => by cases h), fun h => absurd h.1 hfull⟩
                          go_quiet (fail)
                          go_wp2
                          go_meet
                          exact ⟨HT9.out, below_drewN hbz _⟩
                      case rest =>
                        obtain ⟨hTs, hby⟩ := hcut
                        obtain ⟨tb, rfl, htb2⟩ := hTs.ex
                        obtain ⟨wy, hwy⟩ : ∃ x : World, x = wc := ⟨_, rfl⟩
                        subst hwy
                        cases tb with
                        | true =>
                          obtain ⟨hfull, hle⟩ := htb2.mp rfl
                          have HN3 : Hid (∀ i, i < n2 + 1 → lowAt SU i ≤ t) := fun i hi => by
                            by_cases e : i = n2
                            · rw [e]; exact hle
                            · exact hN2.out i (by omega)
                          clear htb2 hTs hle
                          go_wp2
                          go_roundw
                          case rel => exact ⟨n2 + 1, by omega, by go_num, HN3, hby⟩
                          case measure => simp [intOf]; omega
                        | false =>
                          have HCn : Hid (hcnt H t = n2) := HLc.out t n2 hn2 hN2.out fun i h1 h2 => by
                            have h3 : ¬ (n2 < H.length ∧ lowAt SU n2 ≤ t) := fun h => by have := htb2.mpr h; cases this
                            have h4 := HLm.out n2 i h1 (by omega)
                            have h5 : ¬ lowAt SU n2 ≤ t := fun h => h3 ⟨by omega, h⟩
                            omega
                          clear htb2 hTs
                          have HN9 : Hid (∀ i, i < n2 → ∀ j2 t2, j + 1 ≤ j2 → A[j2]? = some t2 → lowAt SU i ≤ t2) := fun i hi j2 t2 h1 h2 => by
                            have h3 := hN2.out i hi
                            have h4 := HUp.out j2 t2 h1 h2
                            omega
                          obtain ⟨X, hX⟩ : ∃ X, turnE e H t = X := ⟨_, rfl⟩
                          rw [hX] at HTk
                          have hAd := fun w1 h1 h2 => spec_l03Add TT X (.slice a7 m7 c7) (w.heap.size + 1 + 1 + 1 + 1) w1 h1 h2 hTl
                          have hTn := fun w1 (h : SeqAt w1 a2 3 (H.map HapD.cs)) => spec_l03Turn e H a2 ca2 t w1 h hHl (by omega) (fun t => by have := (HFb.out t).2; omega) he3 he4 (fun t => (HFb.out t).1)
                          rw [hX] at hTn
                          obtain ⟨xa, xo, xs, xb⟩ := X
                          simp only [TurnD.v, EraD.v] at hTn hAd
                          have ct_y := keepC hby ct_q
                          have d0_y := keepC hby d0_q
                          have d1_y := keepC hby d1_q
                          have d2_y := keepC hby d2_q
                          have d3_y := keepC hby d3_q
                          have d4_y := keepC hby d4_q
                          have d5_y := keepC hby d5_q
                          have tb_y := keepC hby tbq
                          have hOy : OwnsT wy (w.heap.size + 1 + 1 + 1 + 1) (.slice a7 m7 c7) TT := owns_below hOq hby
                          have hMy : Mid n0 n1 w6 wy := hMq.trans (Mid.of_below hby hsq)
                          have hsy : n1 ≤ wy.heap.size := Nat.le_trans hsq hby.size
                          have bxy := bxq.below hby
                          have hBy : Below w.heap.size w wy := hBq.trans (hby.mono hBq.size)
                          have sHy : SeqAt wy a2 3 (H.map HapD.cs) := sH6.mid hMy h2b
                          clear hN2
                          cases n2 with
                          | zero =>
                            clear hX HCn
                            have hj1 : j + 1 ≤ A.length := by omega
                            have hsn1' : w.heap.size + 1 + 1 + 1 + 1 ≤ n0 := hsW
                            have hn01' : n0 ≤ n1 := by omega
                            have hOyD : OwnsT wy.drew (w.heap.size + 1 + 1 + 1 + 1) (.slice a7 m7 c7) TT := hOy
                            have bxyD := bxy.below (below_drew wy)
                            have hByD : Below w.heap.size w wy.drew := hBy.trans ((below_drew wy).mono hBy.size)
                            go_wp2_with fail
                            go_region_with (first | (go_at_call 167; refine (hTn _ (sHy.below (below_drew _))).mono ?_; rintro q7 w7 ⟨rfl, hb7⟩; have d0_7 := keepC hb7 d0_y; have d1_7 := keepC hb7 d1_y; have d2_7 := keepC hb7 d2_y; have d3_7 := keepC hb7 d3_y; have d4_7 := keepC hb7 d4_y; have d5_7 := keepC hb7 d5_y; have ct_7 := keepC hb7 ct_y; have tb_7 := keepC hb7 tb_y; have hO7 : OwnsT w7 (w.heap.size + 1 + 1 + 1 + 1) (.slice a7 m7 c7) TT := owns_below hOyD hb7; have bx7 := bxyD.below hb7) | (go_at_call 165; refine (hAd _ hO7 (by have h1 := hb7.size; have h2 : wy.drew.heap.size = wy.heap.size := rfl; omega)).mono ?_; rintro q8 w8 ⟨v8, rfl, hO8, hFr, hlc⟩; obtain ⟨p8, m8, c8, rfl⟩ := row_shape3 hO8; have bx8 := bx7.fr hFr (fun g hg => htb g hg); have zf8 := bx8.f1; obtain ⟨u8, tb8⟩ := bx8.t))
                            all_goals
                              obtain ⟨M9, S9, bx9, t9, HO9, HL9, B9⟩ := after_add hMy hsy hBy hb7 htb hlq.out hFr hO8 hlc bx8 ⟨u8, tb8⟩ hsn1' hn01' HTk.out
                              clear hO8 hFr hlc hb7 hO7 bx7 bx8 hTn hAd 
                              go_wp2
                              go_roundw
                              case rel => exact ⟨j + 1, 0, p8, m8, c8, hj1, by go_num, rfl, hn2, HN9, t9, HO9, HL9, M9, S9, bx9, B9⟩
                              case measure => simp [intOf]; omega
                          | succ p =>
                            have hpl : p < H.length := by omega
                            obtain ⟨x, hx⟩ : ∃ x, H[p]? = some x := ⟨_, List.getElem?_eq_getElem hpl⟩
                            have hr0 : ¬ e.rules.size = 0 := fun h => by have := HR0.out h; rw [this] at hpl; simp at hpl
                            have hne : e.rules.toList.isEmpty = false := ne_rules hr0
                            have hMx : madeE e x t = ⟨xa, xo, xs, xb⟩ := by
                              rw [← hX, turnE, forceE_yes hr0, HCn.out]
                              simp only [forceN]
                              rw [hx]
                              rfl
                            have hxb := HHb.out x (List.mem_of_getElem? hx)
                            have hMd := fun w1 => spec_l03Made e x t w1 (by omega) (by have := hxb.letter; omega) he3 he4 hxb.save.1 hxb.save.2
                            rw [hMx] at hMd
                            simp only [TurnD.v, HapD.v, EraD.v] at hMd
                            have hpi : (p : Int) < (H.length : Int) := by omega
                            have hbq9 : IntKind.i64.wrap ((p : Int) + 1 - 1) = p := by rw [IntKind.wrap_i64]; omega
                            have hbq8 : IntKind.i64.wrap (p : Int) = p := by rw [IntKind.wrap_i64]; omega
                            obtain ⟨bh, oh, hax, hcx⟩ := sHy.at (i := p) (r := x.cs) (by rw [List.getElem?_map, hx]; rfl)
                            have e0_y : wy.cell? ⟨bh, oh + p * 3, none⟩ = some (.int .i64 x.at_) := hcx 0 _ rfl
                            have e1_y := hcx 1 _ rfl
                            have e2_y := hcx 2 _ rfl
                            subst hax
                            clear hcx hX HCn hx hMx hxb
                            have hj1 : j + 1 ≤ A.length := by omega
                            have hsn1' : w.heap.size + 1 + 1 + 1 + 1 ≤ n0 := hsW
                            have hn01' : n0 ≤ n1 := by omega
                            have hOyD : OwnsT wy.drew (w.heap.size + 1 + 1 + 1 + 1) (.slice a7 m7 c7) TT := hOy
                            have bxyD := bxy.below (below_drew wy)
                            have hByD : Below w.heap.size w wy.drew := hBy.trans ((below_drew wy).mono hBy.size)
                            go_wp2_with fail
                            go_region_with (first | (go_at_call 166; refine (hMd _).mono ?_; rintro q7 w7 ⟨rfl, hb7⟩; have d0_7 := keepC hb7 d0_y; have d1_7 := keepC hb7 d1_y; have d2_7 := keepC hb7 d2_y; have d3_7 := keepC hb7 d3_y; have d4_7 := keepC hb7 d4_y; have d5_7 := keepC hb7 d5_y; have ct_7 := keepC hb7 ct_y; have tb_7 := keepC hb7 tb_y; have e0_7 := keepC hb7 e0_y; have e1_7 := keepC hb7 e1_y; have e2_7 := keepC hb7 e2_y; have hO7 : OwnsT w7 (w.heap.size + 1 + 1 + 1 + 1) (.slice a7 m7 c7) TT := owns_below hOyD hb7; have bx7 := bxyD.below hb7) | (go_at_call 165; refine (hAd _ hO7 (by have h1 := hb7.size; have h2 : wy.drew.heap.size = wy.heap.size := rfl; omega)).mono ?_; rintro q8 w8 ⟨v8, rfl, hO8, hFr, hlc⟩; obtain ⟨p8, m8, c8, rfl⟩ := row_shape3 hO8; have bx8 := bx7.fr hFr (fun g hg => htb g hg); have zf8 := bx8.f1; obtain ⟨u8, tb8⟩ := bx8.t))
                            all_goals
                              obtain ⟨M9, S9, bx9, t9, HO9, HL9, B9⟩ := after_add hMy hsy hBy hb7 htb hlq.out hFr hO8 hlc bx8 ⟨u8, tb8⟩ hsn1' hn01' HTk.out
                              clear hO8 hFr hlc hb7 hO7 bx7 bx8 hTn hAd hMd
                              go_wp2
                              go_roundw
                              case rel => exact ⟨j + 1, p + 1, p8, m8, c8, hj1, by go_num, rfl, hn2, HN9, t9, HO9, HL9, M9, S9, bx9, B9⟩
                              case measure => simp [intOf]; omega
                  · have hje : j = A.length := by omega
                    have HOe : Hid (OwnsT wq (w.heap.size + 1 + 1 + 1 + 1) (.slice a7 m7 c7) (stK r E (k + 1)).1) := by rw [HS.out]; simp only; rw [hje, List.take_length] at hOq; exact hOq
                    have hjl2 : ¬ (j : Int) < (A.length : Int) := by omega
                    have HBe : Hid ((stK r E (k + 1)).2 = en) := by simp only [Hid]; rw [HS.out]
                    clear hje
                    go_wp2
                    go_roundw
                    case rel => exact ⟨k + 1, a7, m7, c7, by omega, by rw [HBe.out], by go_num, tbq, HOe.out, HOK, bxq, by omega, hBq⟩
                    case measure => simp [intOf]; omega
        · have hla : ¬ k + 1 = E.length := fun h => hcase (.inr h)
          have g1 : ¬ b < en := fun h => hcase (.inl h)
          have HS : Hid (stK r E (k + 1) = (T0, en)) := by
            have h1 := hEM hla
            simp only [Hid]
            rw [hSM hla, ← h1, if_neg g1]
          have hq : ((k : Int) == (E.length : Int) - 1) = false := by simp; omega
          have hLo := fun w (h : SeqAt w a2 3 (H.map HapD.cs)) => spec_l03Lows H a2 ca2 w h hHl (fun h hh => (HHb.out h hh).at_)
          have hbE := (Below.refl w3.heap.size w3).alloc (Nat.le_refl _) (.cells #[] 2)
          clear hSL hSM hEL hEM hen hcase hla
          go_wp2
          go_loopw [13, 14] (fun s13 s14 wq => ∃ j : Nat, j ≤ H.length ∧ s13 = .slice (some ⟨w3.heap.size, 0, none⟩) 0 0 ∧ s14 = .int .i64 j ∧ Below w3.heap.size w3 wq) (fun _ s14 _ => H.length - (intOf s14).toNat)
          case atStart => exact ⟨0, by omega, rfl, rfl, hbE⟩
          case round =>
            obtain ⟨wp, hwp⟩ : ∃ x : World, x = wr := ⟨_, rfl⟩
            subst hwp
            obtain ⟨j, hj, rfl, rfl, hbq⟩ := hrel
            by_cases hjl : j < H.length
            · obtain ⟨x, hx⟩ : ∃ x, H[j]? = some x := ⟨_, List.getElem?_eq_getElem hjl⟩
              obtain ⟨bh, oh, hax, hcx⟩ := (sH3.below hbq).at (i := j) (r := x.cs) (by rw [List.getElem?_map, hx]; rfl)
              have e0 : wp.cell? ⟨bh, oh + j * 3, none⟩ = some (.int .i64 x.at_) := hcx 0 _ rfl
              have hr0 : ¬ e.rules.size = 0 := fun h => by have := HR0.out h; rw [this] at hjl; simp at hjl
              have hne : e.rules.toList.isEmpty = false := ne_rules hr0
              have d1_q := keepC hbq d1_3
              have hji : (j : Int) < (H.length : Int) := by omega
              subst hax
              clear hcx hx
              by_cases g5 : b < x.at_
              · have g2 : ¬ x.at_ < en := by omega
                go_wp2
                go_roundw
                case rel => exact ⟨j + 1, by omega, rfl, by go_num, hbq⟩
                case measure => simp [intOf]; omega
              · go_wp2
                go_roundw
                case rel => exact ⟨j + 1, by omega, rfl, by go_num, hbq⟩
                case measure => simp [intOf]; omega
            · have hji : ¬ (j : Int) < (H.length : Int) := by omega
              go_wp2_with fail
              refine (hLo _ (sH3.below hbq)).mono ?_
              rintro q w6 ⟨rfl, _, hb6⟩
              have hb36 : Below w3.heap.size w3 w6 := hbq.trans (hb6.mono hbq.size)
              have hB6 := hB3.trans (hb36.mono hB3.size)
              have bx6 := bx3.below hb36
              have tb_6 := keepC hb36 tb_3
              have HOe : Hid (OwnsT w6 (w.heap.size + 1 + 1 + 1 + 1) (.slice a6 m6 c6) (stK r E (k + 1)).1) := by rw [HS.out]; exact owns_below hO3 hb36
              have HBe : Hid ((stK r E (k + 1)).2 = en) := by simp only [Hid]; rw [HS.out]
              have hs6 : w.heap.size + 1 + 1 + 1 + 1 ≤ w6.heap.size := by have h1 := hb36.size; omega
              clear hb6 hLo
              go_wp2
              go_loopw [16, 17] (fun _ s17 wq => s17 = .int .i64 0 ∧ wq = w6) (fun _ _ _ => 0)
              case atStart => exact ⟨rfl, rfl⟩
              case round =>
                obtain ⟨wx, hwx⟩ : ∃ x : World, x = wr := ⟨_, rfl⟩
                subst hwx
                obtain ⟨rfl, hw6⟩ := hrel
                subst hw6
                go_wp2
                go_roundw
                case rel => exact ⟨k + 1, a6, m6, c6, by omega, by rw [HBe.out], by go_num, tb_6, HOe.out, HOK, bx6, hs6, hB6⟩
                case measure => simp [intOf]; omega
    · have hke : k = E.length := by omega
      have HX : Hid (tabE r E = ((stK r E k).1, decide ((stK r E k).1.length ≤ 600))) := by simp only [Hid, tabE]; rw [hke] at hOk ⊢; rw [hOk.out]; rfl
      have hkl : ¬ (k : Int) < (E.length : Int) := by omega
      obtain ⟨⟨T0, b⟩, hst⟩ : ∃ st, stK r E k = st := ⟨_, rfl⟩
      rw [hst] at hT hs7 HX hTl0
      simp only at hT hs7 HX hTl0
      subst hs7
      have hm : m6 = T0.length := by
        obtain ⟨a, cap, h, _⟩ := hT.seq
        injection h
      subst hm
      have r0_w := bx.r0
      have f0_w := bx.f0
      have hlb : ∀ g, (Value.slice a6 T0.length c6).ownBlock = some g → w.heap.size + 1 + 1 + 1 + 1 ≤ g := fun g hg => (World.ownsRow.lt hT g hg).1
      have t0 : (wr.setCell ⟨w.heap.size + 1 + 1, 0, none⟩ (.slice a6 T0.length c6)).cell? ⟨w.heap.size + 1 + 1, 0, none⟩ = some (.slice a6 T0.length c6) := World.cell?_setCell_same _ _ _ (u := .slice none 0 0) r0_w
      have hO9 : OwnsT (wr.drew.setCell ⟨w.heap.size + 1 + 1, 0, none⟩ (.slice a6 T0.length c6)) w.heap.size (.slice a6 T0.length c6) T0 := kept_sets (w1 := wr.drew) (owns_mono (w := wr.drew) hT (by omega)) (fun h => by have := hlb _ h; omega)
      have hB9 : Below w.heap.size w (wr.drew.setCell ⟨w.heap.size + 1 + 1, 0, none⟩ (.slice a6 T0.length c6)) := (hB.trans ((below_drew wr).mono hB.size)).setCell (show w.heap.size ≤ w.heap.size + 1 + 1 by omega) _
      by_cases h6 : T0.length ≤ 600
      · have h6i : (T0.length : Int) ≤ 600 := by omega
        rw [decide_eq_true h6] at HX
        have HQ : Hid (TabSP r E w (.returned (.tuple #[.agg #[.slice a6 T0.length c6], .bool true])) (wr.drew.setCell ⟨w.heap.size + 1 + 1, 0, none⟩ (.slice a6 T0.length c6))) := ⟨_, _, T0, rfl, hO9, by rw [HX.out], fun _ => by rw [HX.out], hB9⟩
        clear hke hst hT hO9 hB9 HX
        go_wp2_with fail
        go_region
        all_goals
          go_wp2
          exact bodyPost_ret (v := .tuple #[.agg #[.slice a6 T0.length c6], .bool true]) (by simp [results, Tryz.results101, go_sem, t0]) rfl HQ.out
      · have h6i : ¬ (T0.length : Int) ≤ 600 := by omega
        rw [decide_eq_false h6] at HX
        have HQ : Hid (TabSP r E w (.returned (.tuple #[.agg #[.slice a6 T0.length c6], .bool false])) (wr.drew.setCell ⟨w.heap.size + 1 + 1, 0, none⟩ (.slice a6 T0.length c6))) := ⟨_, _, T0, rfl, hO9, by rw [HX.out], (fun h => by cases h), hB9⟩
        clear hke hst hT hO9 hB9 HX
        go_wp2_with fail
        go_region
        all_goals
          go_wp2
          exact bodyPost_ret (v := .tuple #[.agg #[.slice a6 T0.length c6], .bool false]) (by simp [results, Tryz.results101, go_sem, t0]; omega) rfl HQ.out
end Go.Proofs.YtbbhpfobcelbfaaGreatDoor
