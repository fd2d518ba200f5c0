/- Packed: Right14 Right17 Right18 Right19 Right21. -/
import Derived.Test.YtjdokmllidhapaaGreatDoorRight13
import Derived.Test.YtjdokmllidhapaaGreatDoorRelEra
import Derived.Test.YtjdokmllidhapaaGreatDoorShelf
import Derived.Lib.SlicesCompact
import Derived.Lib.OwnBridge
import Derived.OwnWalk
import Derived.Test.YtjdokmllidhapaaGreatDoorRelRel2
namespace Go.Proofs.YtjdokmllidhapaaGreatDoor
open Go.RowKit

theorem hasB_name {rs : List RuleD} {s : ByteArray} (hr : rs.all ruleB = true) (h : hasB rs s = true) : nameB s = true := by
  unfold hasB at h
  obtain ⟨x, hx, he⟩ := List.any_eq_true.mp h
  have h1 := List.all_eq_true.mp hr x hx
  unfold ruleB at h1
  simp only [Bool.and_eq_true] at h1
  have e : x.name = s := toList_inj (beq_iff_eq.mp he)
  rw [← e]; exact h1.1
theorem era_same {rs : List RuleD} (hr : rs.all ruleB = true) (e : EraD) : (eraP e = true ∧ thereB rs e = true) ↔ eraM rs e = true := by
  unfold eraP thereB eraM erB isB
  cases he : e.rules.toList.isEmpty
  · cases hh : hasB rs e.rules
    · simp
    · have hn := hasB_name hr hh
      rw [hn]
      simp only [Bool.and_eq_true, decide_eq_true_eq, Bool.or_eq_true, Bool.false_eq_true, if_false, false_or, true_and, and_true]
      constructor
      · rintro ⟨a, b, c, d, f, g, h⟩
        exact ⟨c, ⟨a, b⟩, by omega, d, ⟨f, g⟩, h⟩
      · rintro ⟨c, ⟨a, b⟩, _, d, ⟨f, g⟩, h⟩
        exact ⟨a, b, c, d, f, g, h⟩
  · simp only [Bool.and_eq_true, decide_eq_true_eq, Bool.or_eq_true, if_true, true_or, true_and, and_true]
    constructor
    · rintro ⟨a, b, c, d, f, g, h⟩
      exact ⟨⟨a, b⟩, c, d, ⟨f, g⟩, h⟩
    · rintro ⟨⟨a, b⟩, c, d, ⟨f, g⟩, h⟩
      exact ⟨a, b, c, d, f, g, h⟩
/-- what is asked of the era at a place. -/
structure StepM (rs : List RuleD) (es : List EraD) (k : Nat) (e : EraD) : Prop where
  era : eraM rs e = true
  up : ∀ j p, k = j + 1 → es[j]? = some p → p.until_ < e.until_
  last : e.until_ = 253402300799 ↔ k + 1 = es.length
  of : k + 1 = es.length → e.of.toList = [119]
structure ZoneM (rs : List RuleD) (z : ZoneD) : Prop where
  name : nameB z.name = true
  len : 1 ≤ z.eras.length ∧ z.eras.length ≤ 8
  steps : ∀ k e, z.eras[k]? = some e → StepM rs z.eras k e
theorem up_of {es : List EraD} (h : upB es = true) {i : Nat} {x y : EraD} (hx : es[i]? = some x) (hy : es[i + 1]? = some y) : x.until_ < y.until_ := by
  by_cases hn : x.until_ < y.until_
  · exact hn
  · rw [up_no hx hy hn] at h; cases h
theorem eraM_until {rs : List RuleD} {e : EraD} (h : eraM rs e = true) : e.until_ ≤ 253402300799 := by
  unfold eraM isB at h
  simp only [Bool.and_eq_true, decide_eq_true_eq] at h
  exact h.2.2.2.2.1.2
theorem zone_same {rs : List RuleD} (hr : rs.all ruleB = true) (z : ZoneD) : (zoneP z = true ∧ z.eras.all (thereB rs) = true) ↔ ZoneM rs z := by
  obtain ⟨nm, es⟩ := z
  unfold zoneP
  simp only [Bool.and_eq_true, decide_eq_true_eq]
  constructor
  · rintro ⟨⟨h1, h2, h3, h4, h5⟩, h6⟩
    have hE : ∀ k e, es[k]? = some e → eraM rs e = true := fun k e hk => (era_same hr e).mp ⟨List.all_eq_true.mp h3 e (List.mem_of_getElem? hk), List.all_eq_true.mp h6 e (List.mem_of_getElem? hk)⟩
    have hla : ∀ k e, es[k]? = some e → k + 1 = es.length → e.until_ = 253402300799 ∧ e.of.toList = [119] := by
      intro k e hk hl
      unfold laB2 at h5
      rw [show es.length - 1 = k by omega, hk] at h5
      simp only [Bool.and_eq_true, beq_iff_eq] at h5
      exact h5
    refine ⟨h1, h2, fun k e hk => ⟨hE k e hk, ?_, ⟨fun hu => ?_, fun hl => (hla k e hk hl).1⟩, fun hl => (hla k e hk hl).2⟩⟩
    · rintro j p rfl hp
      exact up_of h4 hp hk
    · have hkl : k < es.length := (List.getElem?_eq_some_iff.mp hk).1
      by_cases hl : k + 1 = es.length
      · exact hl
      · obtain ⟨y, hy⟩ : ∃ y, es[k + 1]? = some y := ⟨_, List.getElem?_eq_getElem (by omega)⟩
        have := up_of h4 hk hy
        have := eraM_until (hE _ y hy)
        omega
  · rintro ⟨h1, h2, hs⟩
    simp only at h1 h2 hs
    have hE : ∀ e ∈ es, eraP e = true ∧ thereB rs e = true := fun e he => by
      obtain ⟨k, hk⟩ := List.getElem?_of_mem he
      exact (era_same hr e).mpr (hs k e hk).era
    refine ⟨⟨h1, h2, List.all_eq_true.mpr fun e he => (hE e he).1, up_yes fun i x y hx hy => (hs _ y hy).up i x rfl hx, ?_⟩, List.all_eq_true.mpr fun e he => (hE e he).2⟩
    obtain ⟨y, hy⟩ : ∃ y, es[es.length - 1]? = some y := ⟨_, List.getElem?_eq_getElem (by omega)⟩
    have hS := hs _ y hy
    unfold laB2
    rw [hy]
    simp only [Bool.and_eq_true, beq_iff_eq]
    exact ⟨hS.last.mpr (by omega), hS.of (by omega)⟩
end Go.Proofs.YtjdokmllidhapaaGreatDoor
namespace Go.Proofs.YtjdokmllidhapaaGreatDoor
open Go.RowKit

def stepMB (rs : List RuleD) (es : List EraD) (k : Nat) (e : EraD) : Bool :=
  eraM rs e && ((k == 0) || (match es[k - 1]? with | some p => decide (p.until_ < e.until_) | none => true)) && (decide (e.until_ = 253402300799) == decide (k + 1 = es.length)) && (!decide (k + 1 = es.length) || e.of.toList == [119])
theorem stepMB_iff {rs : List RuleD} {es : List EraD} {k : Nat} {e : EraD} : stepMB rs es k e = true ↔ StepM rs es k e := by
  unfold stepMB
  simp only [Bool.and_eq_true, Bool.or_eq_true, beq_iff_eq, Bool.not_eq_true', decide_eq_false_iff_not, decide_eq_decide]
  constructor
  · rintro ⟨⟨⟨h1, h2⟩, h3⟩, h4⟩
    refine ⟨h1, ?_, h3, ?_⟩
    · rintro j p rfl hp
      rcases h2 with h2 | h2
      · omega
      · rw [show j + 1 - 1 = j by omega, hp] at h2
        exact of_decide_eq_true h2
    · intro hk
      rcases h4 with h4 | h4
      · exact absurd hk h4
      · exact h4
  · rintro ⟨h1, h2, h3, h4⟩
    refine ⟨⟨⟨h1, ?_⟩, h3⟩, ?_⟩
    · by_cases hk : k = 0
      · exact .inl hk
      · refine .inr ?_
        cases hp : es[k - 1]? with
        | none => rfl
        | some p => exact decide_eq_true (h2 (k - 1) p (by omega) hp)
    · by_cases hk : k + 1 = es.length
      · exact .inr (h4 hk)
      · exact .inl hk
def zoneMB (rs : List RuleD) (z : ZoneD) : Bool :=
  nameB z.name && decide (1 ≤ z.eras.length ∧ z.eras.length ≤ 8) && (List.range z.eras.length).all fun k => match z.eras[k]? with | some e => stepMB rs z.eras k e | none => true
theorem zoneMB_iff {rs : List RuleD} {z : ZoneD} : zoneMB rs z = true ↔ ZoneM rs z := by
  unfold zoneMB
  simp only [Bool.and_eq_true, decide_eq_true_eq, List.all_eq_true, List.mem_range]
  constructor
  · rintro ⟨⟨h1, h2⟩, h3⟩
    refine ⟨h1, h2, fun k e hk => ?_⟩
    have := h3 k (List.getElem?_eq_some_iff.mp hk).1
    rw [hk] at this
    exact stepMB_iff.mp this
  · rintro ⟨h1, h2, h3⟩
    refine ⟨⟨h1, h2⟩, fun k hk => ?_⟩
    cases he : z.eras[k]? with
    | none => rfl
    | some e => exact stepMB_iff.mpr (h3 k e he)
theorem zoneM_no {rs : List RuleD} {z : ZoneD} (h : ¬ ZoneM rs z) : zoneMB rs z = false := by
  cases hb : zoneMB rs z
  · rfl
  · exact absurd (zoneMB_iff.mp hb) h
theorem zoneM_yes {rs : List RuleD} {z : ZoneD} (h : ZoneM rs z) : zoneMB rs z = true := zoneMB_iff.mpr h
end Go.Proofs.YtjdokmllidhapaaGreatDoor
namespace Go.Proofs.YtjdokmllidhapaaGreatDoor
open Go.RowKit

theorem hasZ_name {zs : List ZoneD} {s : ByteArray} (hz : ∀ z ∈ zs, nameB z.name = true) (h : hasZ zs s = true) : nameB s = true := by
  unfold hasZ at h
  obtain ⟨x, hx, he⟩ := List.any_eq_true.mp h
  rw [← toList_inj (beq_iff_eq.mp he)]
  exact hz x hx
theorem links_same {zs : List ZoneD} {ls : List LinkD} (hz : ∀ z ∈ zs, nameB z.name = true) : (ls.all linkB = true ∧ (ls.all fun x => hasZ zs x.to_) = true) ↔ ∀ x ∈ ls, nameB x.name = true ∧ hasZ zs x.to_ = true := by
  simp only [List.all_eq_true]
  unfold linkB
  simp only [Bool.and_eq_true]
  constructor
  · rintro ⟨h1, h2⟩ x hx
    exact ⟨(h1 x hx).2, h2 x hx⟩
  · intro h
    exact ⟨fun x hx => ⟨hasZ_name hz (h x hx).2, (h x hx).1⟩, fun x hx => (h x hx).2⟩
/-- the zones of a release, where its rules are right: what the program asks is what the model asks. -/
theorem zones_same {rs : List RuleD} {zs : List ZoneD} (hr : rs.all ruleB = true) : (zs.all zoneP = true ∧ (zs.all fun z => z.eras.all (thereB rs)) = true) ↔ ∀ z ∈ zs, ZoneM rs z := by
  simp only [List.all_eq_true (l := zs)]
  exact ⟨fun h z hz => (zone_same hr z).mp ⟨h.1 z hz, h.2 z hz⟩, fun h => ⟨fun z hz => ((zone_same hr z).mpr (h z hz)).1, fun z hz => ((zone_same hr z).mpr (h z hz)).2⟩⟩
end Go.Proofs.YtjdokmllidhapaaGreatDoor
namespace Go.Proofs.YtjdokmllidhapaaGreatDoor
open Go.RowKit Go.Sort

set_option maxHeartbeats 4000000 in
theorem spec_l02Zone (r : RelD) (v : Value) (z : ZoneD) (u : Value) (w : World) (hv : RelAt w v r) (hu : EraSl w u z.eras) (ok : z.ok) (hl : r.rules.length ≤ 1048576) :
    Calls Tryz.prog 63 #[v, .agg #[.string z.name, u]] w fun e w' => e = .returned (.bool (zoneMB r.rules z)) ∧ Below w.heap.size w w' := by
  obtain ⟨a, cap, rfl, hA⟩ := hu
  obtain ⟨m1, m2, m3⟩ := ok
  unfold maxLen at m2
  have h1 := fun w => spec_NameRight z.name w m1
  obtain ⟨ra, rb, rc, ca, cb, cc, hvv, _, _, _⟩ := hv.form
  have hB0 := fun o o2 => ((Below.refl w.heap.size w).alloc (Nat.le_refl _) o).alloc (by simp) o2
  generalize r.zones.length = zn at *
  generalize r.links.length = kn at *
  generalize hrn : r.rules.length = rn at *
  subst hvv
  cases hn : nameB z.name
  · rw [zoneM_no fun h => by have := h.name; rw [hn] at this; cases this]
    rw [hn] at h1
    clear hn
    go_enter Tryz.func63, Tryz.ntmps63
    go_wp2_with fail
    refine (h1 _).mono ?_
    rintro e w' ⟨rfl, rfl⟩
    go_wp2
    go_ret
    exact ⟨rfl, hB0 _ _⟩
  rw [hn] at h1
  by_cases hl0 : z.eras.length < 1
  · rw [zoneM_no fun h => by have := h.len; omega]
    go_enter Tryz.func63, Tryz.ntmps63
    go_wp2_with fail
    refine (h1 _).mono ?_
    rintro e w' ⟨rfl, rfl⟩
    go_wp2
    go_ret
    exact ⟨rfl, hB0 _ _⟩
  by_cases hl8 : 8 < z.eras.length
  · rw [zoneM_no fun h => by have := h.len; omega]
    go_enter Tryz.func63, Tryz.ntmps63
    go_wp2_with fail
    refine (h1 _).mono ?_
    rintro e w' ⟨rfl, rfl⟩
    go_wp2
    go_ret
    exact ⟨rfl, hB0 _ _⟩
  have HZ : Hid ((∀ k e, z.eras[k]? = some e → StepM r.rules z.eras k e) → zoneMB r.rules z = true) := fun h => zoneM_yes ⟨hn, by omega, h⟩
  have HN : Hid (∀ k e, z.eras[k]? = some e → ¬ StepM r.rules z.eras k e → zoneMB r.rules z = false) := fun k e hk h => zoneM_no fun hz => h (hz.steps k e hk)
  clear hn
  generalize zoneMB r.rules z = zb at *
  obtain ⟨nm, es⟩ := z
  simp only at *
  go_enter Tryz.func63, Tryz.ntmps63
  go_wp2_with fail
  refine (h1 _).mono ?_
  rintro e w' ⟨rfl, rfl⟩
  clear h1
  go_wp2
  have hB0' := hB0 (.cells #[.slice ra rn ca, .slice rb zn cb, .slice rc kn cc] 27) (.cells #[.string nm, .slice a es.length cap] 49)
  clear hB0
  have hA1 := hA.below hB0'
  have hv1 := hv.below hB0'
  have x0 : ((w.alloc (.cells #[.slice ra rn ca, .slice rb zn cb, .slice rc kn cc] 27)).alloc (.cells #[.string nm, .slice a es.length cap] 49)).cell? ⟨w.heap.size, 0, none⟩ = some (.slice ra rn ca) := by simp [go_sem]
  have x1 : ((w.alloc (.cells #[.slice ra rn ca, .slice rb zn cb, .slice rc kn cc] 27)).alloc (.cells #[.string nm, .slice a es.length cap] 49)).cell? ⟨w.heap.size, 1, none⟩ = some (.slice rb zn cb) := by simp [go_sem]
  have x2 : ((w.alloc (.cells #[.slice ra rn ca, .slice rb zn cb, .slice rc kn cc] 27)).alloc (.cells #[.string nm, .slice a es.length cap] 49)).cell? ⟨w.heap.size, 2, none⟩ = some (.slice rc kn cc) := by simp [go_sem]
  have x3 : ((w.alloc (.cells #[.slice ra rn ca, .slice rb zn cb, .slice rc kn cc] 27)).alloc (.cells #[.string nm, .slice a es.length cap] 49)).cell? ⟨w.heap.size + 1, 1, none⟩ = some (.slice a es.length cap) := by simp [go_sem]
  generalize hW : ((w.alloc (.cells #[.slice ra rn ca, .slice rb zn cb, .slice rc kn cc] 27)).alloc (.cells #[.string nm, .slice a es.length cap] 49)) = W at *
  go_loopw [6] (fun i wr => ∃ k : Nat, k ≤ es.length ∧ i = .int .i64 k ∧ Hid (∀ j, j < k → ∀ x, es[j]? = some x → StepM r.rules es j x) ∧ Below W.heap.size W wr) (fun i _ => es.length - (intOf i).toNat)
  case atStart => exact ⟨0, by omega, rfl, fun j hj => by omega, by subst hW; exact Below.refl _ _⟩
  case round =>
    obtain ⟨k, hk, rfl, hall, hB⟩ := hrel
    by_cases hlt : k < es.length
    · obtain ⟨x, hx⟩ : ∃ x, es[k]? = some x := ⟨_, List.getElem?_eq_getElem hlt⟩
      have okx := m3 x (List.mem_of_getElem? hx)
      have hBV : Below W.heap.size W (wr.alloc (.cells #[.int .i64 x.offset, .string x.rules, .int .i64 x.save, .string x.format, .int .i64 x.until_, .string x.of] 55)) := hB.alloc hB.size _
      obtain ⟨b, o, rfl, hc⟩ := (hA1.below hB).at (i := k) (r := x.cs) (by rw [List.getElem?_map, hx]; rfl)
      have c0 : wr.cell? ⟨b, o + k * 6, none⟩ = some (.int .i64 x.offset) := hc 0 _ rfl
      have c1 := hc 1 _ rfl
      have c2 := hc 2 _ rfl
      have c3 := hc 3 _ rfl
      have c4 := hc 4 _ rfl
      have c5 := hc 5 _ rfl
      clear hc
      have y3 : wr.cell? ⟨w.heap.size + 1, 1, none⟩ = some (.slice (some ⟨b, o, none⟩) es.length cap) := by rw [(bcell hB).1 _ _ (World.block_lt_of_cell? _ _ x3)]; exact x3
      have k0 := cell_regrown ((bcell hBV).1 _ _ (World.block_lt_of_cell? _ _ x0) |>.trans x0)
      have k1 := cell_regrown ((bcell hBV).1 _ _ (World.block_lt_of_cell? _ _ x1) |>.trans x1)
      have k2 := cell_regrown ((bcell hBV).1 _ _ (World.block_lt_of_cell? _ _ x2) |>.trans x2)
      have k3 := cell_regrown ((bcell hBV).1 _ _ (World.block_lt_of_cell? _ _ x3) |>.trans x3)
      have e0 := cell_regrown (w := wr.alloc (.cells #[.int .i64 x.offset, .string x.rules, .int .i64 x.save, .string x.format, .int .i64 x.until_, .string x.of] 55)) (show _ = some (Value.int .i64 x.offset) from by first | (simp; done) | simp [go_sem] : (wr.alloc (.cells #[.int .i64 x.offset, .string x.rules, .int .i64 x.save, .string x.format, .int .i64 x.until_, .string x.of] 55)).cell? ⟨wr.heap.size, 0, none⟩ = _)
      have e1 := cell_regrown (w := wr.alloc (.cells #[.int .i64 x.offset, .string x.rules, .int .i64 x.save, .string x.format, .int .i64 x.until_, .string x.of] 55)) (show _ = some (Value.string x.rules) from by first | (simp; done) | simp [go_sem] : (wr.alloc (.cells #[.int .i64 x.offset, .string x.rules, .int .i64 x.save, .string x.format, .int .i64 x.until_, .string x.of] 55)).cell? ⟨wr.heap.size, 1, none⟩ = _)
      have e2 := cell_regrown (w := wr.alloc (.cells #[.int .i64 x.offset, .string x.rules, .int .i64 x.save, .string x.format, .int .i64 x.until_, .string x.of] 55)) (show _ = some (Value.int .i64 x.save) from by first | (simp; done) | simp [go_sem] : (wr.alloc (.cells #[.int .i64 x.offset, .string x.rules, .int .i64 x.save, .string x.format, .int .i64 x.until_, .string x.of] 55)).cell? ⟨wr.heap.size, 2, none⟩ = _)
      have e3 := cell_regrown (w := wr.alloc (.cells #[.int .i64 x.offset, .string x.rules, .int .i64 x.save, .string x.format, .int .i64 x.until_, .string x.of] 55)) (show _ = some (Value.string x.format) from by first | (simp; done) | simp [go_sem] : (wr.alloc (.cells #[.int .i64 x.offset, .string x.rules, .int .i64 x.save, .string x.format, .int .i64 x.until_, .string x.of] 55)).cell? ⟨wr.heap.size, 3, none⟩ = _)
      have e4 := cell_regrown (w := wr.alloc (.cells #[.int .i64 x.offset, .string x.rules, .int .i64 x.save, .string x.format, .int .i64 x.until_, .string x.of] 55)) (show _ = some (Value.int .i64 x.until_) from by first | (simp; done) | simp [go_sem] : (wr.alloc (.cells #[.int .i64 x.offset, .string x.rules, .int .i64 x.save, .string x.format, .int .i64 x.until_, .string x.of] 55)).cell? ⟨wr.heap.size, 4, none⟩ = _)
      have e5 := cell_regrown (w := wr.alloc (.cells #[.int .i64 x.offset, .string x.rules, .int .i64 x.save, .string x.format, .int .i64 x.until_, .string x.of] 55)) (show _ = some (Value.string x.of) from by first | (simp; done) | simp [go_sem] : (wr.alloc (.cells #[.int .i64 x.offset, .string x.rules, .int .i64 x.save, .string x.format, .int .i64 x.until_, .string x.of] 55)).cell? ⟨wr.heap.size, 5, none⟩ = _)
      have cE : ∀ dd os, Calls Tryz.prog _ _ (grow (redrawn (wr.alloc (.cells #[.int .i64 x.offset, .string x.rules, .int .i64 x.save, .string x.format, .int .i64 x.until_, .string x.of] 55)) dd) os) fun e w'' => e = .returned (.bool (eraM r.rules x)) ∧ ∃ p : Regrown, w'' = grow (redrawn (wr.alloc (.cells #[.int .i64 x.offset, .string x.rules, .int .i64 x.save, .string x.format, .int .i64 x.until_, .string x.of] 55)) p.d) p.os := fun dd os => Calls.regrown_of (spec_l02Era r _ x _ ((hv1.below hBV).below (below_regrown _ dd os)) okx (by omega))
      unfold EraD.v at cE
      go_wp2_with fail
      generalize hV : (wr.alloc (.cells #[.int .i64 x.offset, .string x.rules, .int .i64 x.save, .string x.format, .int .i64 x.until_, .string x.of] 55)) = V at *
      generalize wr.heap.size = g at *
      clear c0 c1 c2 c3 c4 c5 y3
      cases hbe : eraM r.rules x
      · rw [hbe] at cE
        have HR : Hid (zb = false) := HN.out k x hx fun h => by have := h.era; rw [hbe] at this; cases this
        clear HZ HN
        refine wp_region_quiet_below (by kernel_rfl) (by kernel_rfl) ?_
        repeat (first | go_big_quiet_step ((go_at_call 127; exact cE _ _)) | quiet_step ((go_at_call 127; exact cE _ _)))
        refine wpQuiet_nil ?_
        intro _ hw'
        obtain ⟨⟨dq, osq⟩, hw''⟩ := hw'
        subst hw''
        have hb2 := below_regrown V dq osq
        go_wp2
        go_ret
        exact ⟨ret_bool HR.out.symm, hB0'.trans ((hBV.trans (hb2.mono hBV.size)).mono hB0'.size)⟩

      · rw [hbe] at cE
        by_cases hk0 : k = 0
        · have hk1 : decide ((0 : Int) < (k : Int)) = false := by simp; omega
          have hk3 : decide (0 < k) = false := by simp; omega
          have hk2 : Hid (k = 0) := hk0
          clear hk0
          by_cases g1 : Hid (x.until_ = 253402300799)
          · have g1' : (x.until_ == 253402300799) = true := by simpa using g1.out
            by_cases g2 : Hid (k + 1 = es.length)
            · have g2' : ((((k : Nat) : Int)) == ((es.length : Int) - 1)) = true := by have := g2.out; simp; omega
              cases g3 : (x.of.toList == [119])
              · have g4 : Hid (x.of.toList ≠ [119]) := by simp only [Hid]; simpa using g3
                have HR : Hid (zb = false) := HN.out (k) x hx fun h => by exact g4.out (h.of g2.out)
                clear HZ HN hall
                refine wp_region_quiet_below (by kernel_rfl) (by kernel_rfl) ?_
                repeat (first | go_big_quiet_step ((go_at_call 127; exact cE _ _)) | quiet_step ((go_at_call 127; exact cE _ _)))
                refine wpQuiet_nil ?_
                intro _ hw'
                obtain ⟨⟨dq, osq⟩, hw''⟩ := hw'
                subst hw''
                have hb2 := below_regrown V dq osq
                go_wp2
                go_ret
                exact ⟨ret_bool HR.out.symm, hB0'.trans ((hBV.trans (hb2.mono hBV.size)).mono hB0'.size)⟩
              · have g4 : Hid (x.of.toList = [119]) := by simp only [Hid]; simpa using g3
                have HR : Hid (∀ i, i < k + 1 → ∀ y, es[i]? = some y → StepM r.rules es i y) := fun i hi y hy => by
                  by_cases e : i = k
                  · subst e; rw [hx] at hy; obtain rfl := Option.some.inj hy; exact ⟨hbe, fun j p hj _ => by have := hk2.out; omega, ⟨fun _ => g2.out, fun _ => g1.out⟩, fun _ => g4.out⟩
                  · exact hall.out i (by omega) y hy
                clear HZ HN hall
                refine wp_region_quiet_below (by kernel_rfl) (by kernel_rfl) ?_
                repeat (first | go_big_quiet_step ((go_at_call 127; exact cE _ _)) | quiet_step ((go_at_call 127; exact cE _ _)))
                refine wpQuiet_nil ?_
                intro _ hw'
                obtain ⟨⟨dq, osq⟩, hw''⟩ := hw'
                subst hw''
                have hb2 := below_regrown V dq osq
                go_wp2
                go_roundw
                case rel => exact ⟨k + 1, by omega, by go_num, HR, hBV.trans (hb2.mono hBV.size)⟩
                case measure => simp [intOf]; omega
            · have g2' : ((((k : Nat) : Int)) == ((es.length : Int) - 1)) = false := by have g2n : ¬ (k + 1 = es.length) := fun h => g2 h; simp; omega
              have HR : Hid (zb = false) := HN.out (k) x hx fun h => by exact g2 (h.last.mp g1.out)
              clear HZ HN hall
              refine wp_region_quiet_below (by kernel_rfl) (by kernel_rfl) ?_
              repeat (first | go_big_quiet_step ((go_at_call 127; exact cE _ _)) | quiet_step ((go_at_call 127; exact cE _ _)))
              refine wpQuiet_nil ?_
              intro _ hw'
              obtain ⟨⟨dq, osq⟩, hw''⟩ := hw'
              subst hw''
              have hb2 := below_regrown V dq osq
              go_wp2
              go_ret
              exact ⟨ret_bool HR.out.symm, hB0'.trans ((hBV.trans (hb2.mono hBV.size)).mono hB0'.size)⟩
          · have g1' : (x.until_ == 253402300799) = false := by simp; exact fun h => g1 h
            by_cases g2 : Hid (k + 1 = es.length)
            · have g2' : ((((k : Nat) : Int)) == ((es.length : Int) - 1)) = true := by have := g2.out; simp; omega
              have HR : Hid (zb = false) := HN.out (k) x hx fun h => by exact g1 (h.last.mpr g2.out)
              clear HZ HN hall
              refine wp_region_quiet_below (by kernel_rfl) (by kernel_rfl) ?_
              repeat (first | go_big_quiet_step ((go_at_call 127; exact cE _ _)) | quiet_step ((go_at_call 127; exact cE _ _)))
              refine wpQuiet_nil ?_
              intro _ hw'
              obtain ⟨⟨dq, osq⟩, hw''⟩ := hw'
              subst hw''
              have hb2 := below_regrown V dq osq
              go_wp2
              go_ret
              exact ⟨ret_bool HR.out.symm, hB0'.trans ((hBV.trans (hb2.mono hBV.size)).mono hB0'.size)⟩
            · have g2' : ((((k : Nat) : Int)) == ((es.length : Int) - 1)) = false := by have g2n : ¬ (k + 1 = es.length) := fun h => g2 h; simp; omega
              have HR : Hid (∀ i, i < k + 1 → ∀ y, es[i]? = some y → StepM r.rules es i y) := fun i hi y hy => by
                by_cases e : i = k
                · subst e; rw [hx] at hy; obtain rfl := Option.some.inj hy; exact ⟨hbe, fun j p hj _ => by have := hk2.out; omega, ⟨fun h => absurd h g1, fun h => absurd h g2⟩, fun h => absurd h g2⟩
                · exact hall.out i (by omega) y hy
              clear HZ HN hall
              refine wp_region_quiet_below (by kernel_rfl) (by kernel_rfl) ?_
              repeat (first | go_big_quiet_step ((go_at_call 127; exact cE _ _)) | quiet_step ((go_at_call 127; exact cE _ _)))
              refine wpQuiet_nil ?_
              intro _ hw'
              obtain ⟨⟨dq, osq⟩, hw''⟩ := hw'
              subst hw''
              have hb2 := below_regrown V dq osq
              go_wp2
              go_roundw
              case rel => exact ⟨k + 1, by omega, by go_num, HR, hBV.trans (hb2.mono hBV.size)⟩
              case measure => simp [intOf]; omega

        · obtain ⟨j, rfl⟩ : ∃ j, k = j + 1 := ⟨k - 1, by omega⟩
          obtain ⟨q, hq⟩ : ∃ q, es[j]? = some q := ⟨_, List.getElem?_eq_getElem (by omega)⟩
          obtain ⟨b', o', he, hd⟩ := (hA1.below hBV).at (i := j) (r := q.cs) (by rw [List.getElem?_map, hq]; rfl)
          injection he with he
          injection he with u1 u2
          subst u1 u2
          have p4 := cell_regrown (hd 4 _ rfl)
          clear hd
          by_cases hu : q.until_ < x.until_
          · have hu' : decide (x.until_ ≤ q.until_) = false := by simpa using hu
            by_cases g1 : Hid (x.until_ = 253402300799)
            · have g1' : (x.until_ == 253402300799) = true := by simpa using g1.out
              by_cases g2 : Hid (j + 1 + 1 = es.length)
              · have g2' : ((((j + 1 : Nat) : Int)) == ((es.length : Int) - 1)) = true := by have := g2.out; simp; omega
                have g5 : (((j : Int) + 1) == ((es.length : Int) - 1)) = true := by have := g2.out; simp; omega
                cases g3 : (x.of.toList == [119])
                · have g4 : Hid (x.of.toList ≠ [119]) := by simp only [Hid]; simpa using g3
                  have HR : Hid (zb = false) := HN.out (j + 1) x hx fun h => by exact g4.out (h.of g2.out)
                  clear HZ HN hall
                  refine wp_region_quiet_below (by kernel_rfl) (by kernel_rfl) ?_
                  repeat (first | go_big_quiet_step ((go_at_call 127; exact cE _ _)) | quiet_step ((go_at_call 127; exact cE _ _)))
                  refine wpQuiet_nil ?_
                  intro _ hw'
                  obtain ⟨⟨dq, osq⟩, hw''⟩ := hw'
                  subst hw''
                  have hb2 := below_regrown V dq osq
                  go_wp2
                  go_ret
                  exact ⟨ret_bool HR.out.symm, hB0'.trans ((hBV.trans (hb2.mono hBV.size)).mono hB0'.size)⟩
                · have g4 : Hid (x.of.toList = [119]) := by simp only [Hid]; simpa using g3
                  have HR : Hid (∀ i, i < j + 1 + 1 → ∀ y, es[i]? = some y → StepM r.rules es i y) := fun i hi y hy => by
                    by_cases e : i = j + 1
                    · subst e; rw [hx] at hy; obtain rfl := Option.some.inj hy; exact ⟨hbe, fun i p hi hp => by obtain rfl : i = j := (by omega); rw [hq] at hp; obtain rfl := Option.some.inj hp; exact hu, ⟨fun _ => g2.out, fun _ => g1.out⟩, fun _ => g4.out⟩
                    · exact hall.out i (by omega) y hy
                  clear HZ HN hall
                  refine wp_region_quiet_below (by kernel_rfl) (by kernel_rfl) ?_
                  repeat (first | go_big_quiet_step ((go_at_call 127; exact cE _ _)) | quiet_step ((go_at_call 127; exact cE _ _)))
                  refine wpQuiet_nil ?_
                  intro _ hw'
                  obtain ⟨⟨dq, osq⟩, hw''⟩ := hw'
                  subst hw''
                  have hb2 := below_regrown V dq osq
                  go_wp2
                  go_roundw
                  case rel => exact ⟨j + 1 + 1, by omega, by go_num, HR, hBV.trans (hb2.mono hBV.size)⟩
                  case measure => simp [intOf]; omega
              · have g2' : ((((j + 1 : Nat) : Int)) == ((es.length : Int) - 1)) = false := by have g2n : ¬ (j + 1 + 1 = es.length) := fun h => g2 h; simp; omega
                have g5 : (((j : Int) + 1) == ((es.length : Int) - 1)) = false := by have g2n : ¬ (j + 1 + 1 = es.length) := fun h => g2 h; simp; omega
                have HR : Hid (zb = false) := HN.out (j + 1) x hx fun h => by exact g2 (h.last.mp g1.out)
                clear HZ HN hall
                refine wp_region_quiet_below (by kernel_rfl) (by kernel_rfl) ?_
                repeat (first | go_big_quiet_step ((go_at_call 127; exact cE _ _)) | quiet_step ((go_at_call 127; exact cE _ _)))
                refine wpQuiet_nil ?_
                intro _ hw'
                obtain ⟨⟨dq, osq⟩, hw''⟩ := hw'
                subst hw''
                have hb2 := below_regrown V dq osq
                go_wp2
                go_ret
                exact ⟨ret_bool HR.out.symm, hB0'.trans ((hBV.trans (hb2.mono hBV.size)).mono hB0'.size)⟩
            · have g1' : (x.until_ == 253402300799) = false := by simp; exact fun h => g1 h
              by_cases g2 : Hid (j + 1 + 1 = es.length)
              · have g2' : ((((j + 1 : Nat) : Int)) == ((es.length : Int) - 1)) = true := by have := g2.out; simp; omega
                have g5 : (((j : Int) + 1) == ((es.length : Int) - 1)) = true := by have := g2.out; simp; omega
                have HR : Hid (zb = false) := HN.out (j + 1) x hx fun h => by exact g1 (h.last.mpr g2.out)
                clear HZ HN hall
                refine wp_region_quiet_below (by kernel_rfl) (by kernel_rfl) ?_
                repeat (first | go_big_quiet_step ((go_at_call 127; exact cE _ _)) | quiet_step ((go_at_call 127; exact cE _ _)))
                refine wpQuiet_nil ?_
                intro _ hw'
                obtain ⟨⟨dq, osq⟩, hw''⟩ := hw'
                subst hw''
                have hb2 := below_regrown V dq osq
                go_wp2
                go_ret
                exact ⟨ret_bool HR.out.symm, hB0'.trans ((hBV.trans (hb2.mono hBV.size)).mono hB0'.size)⟩
              · have g2' : ((((j + 1 : Nat) : Int)) == ((es.length : Int) - 1)) = false := by have g2n : ¬ (j + 1 + 1 = es.length) := fun h => g2 h; simp; omega
                have g5 : (((j : Int) + 1) == ((es.length : Int) - 1)) = false := by have g2n : ¬ (j + 1 + 1 = es.length) := fun h => g2 h; simp; omega
                have HR : Hid (∀ i, i < j + 1 + 1 → ∀ y, es[i]? = some y → StepM r.rules es i y) := fun i hi y hy => by
                  by_cases e : i = j + 1
                  · subst e; rw [hx] at hy; obtain rfl := Option.some.inj hy; exact ⟨hbe, fun i p hi hp => by obtain rfl : i = j := (by omega); rw [hq] at hp; obtain rfl := Option.some.inj hp; exact hu, ⟨fun h => absurd h g1, fun h => absurd h g2⟩, fun h => absurd h g2⟩
                  · exact hall.out i (by omega) y hy
                clear HZ HN hall
                refine wp_region_quiet_below (by kernel_rfl) (by kernel_rfl) ?_
                repeat (first | go_big_quiet_step ((go_at_call 127; exact cE _ _)) | quiet_step ((go_at_call 127; exact cE _ _)))
                refine wpQuiet_nil ?_
                intro _ hw'
                obtain ⟨⟨dq, osq⟩, hw''⟩ := hw'
                subst hw''
                have hb2 := below_regrown V dq osq
                go_wp2
                go_roundw
                case rel => exact ⟨j + 1 + 1, by omega, by go_num, HR, hBV.trans (hb2.mono hBV.size)⟩
                case measure => simp [intOf]; omega

          · have hu' : decide (x.until_ ≤ q.until_) = true := by simpa using hu
            have HR : Hid (zb = false) := HN.out (j + 1) x hx fun h => by exact hu (h.up j q rfl hq)
            clear HZ HN hall
            refine wp_region_quiet_below (by kernel_rfl) (by kernel_rfl) ?_
            repeat (first | go_big_quiet_step ((go_at_call 127; exact cE _ _)) | quiet_step ((go_at_call 127; exact cE _ _)))
            refine wpQuiet_nil ?_
            intro _ hw'
            obtain ⟨⟨dq, osq⟩, hw''⟩ := hw'
            subst hw''
            have hb2 := below_regrown V dq osq
            go_wp2
            go_ret
            exact ⟨ret_bool HR.out.symm, hB0'.trans ((hBV.trans (hb2.mono hBV.size)).mono hB0'.size)⟩

    · have e : k = es.length := by omega
      subst e
      have HR : Hid (zb = true) := HZ.out fun j y hy => hall.out j (List.getElem?_eq_some_iff.mp hy).1 y hy
      go_wp2
      go_ret
      exact ⟨ret_bool HR.out.symm, hB0'.trans (hB.mono hB0'.size)⟩
end Go.Proofs.YtjdokmllidhapaaGreatDoor
namespace Go.Proofs.YtjdokmllidhapaaGreatDoor
open Go.RowKit

theorem compact_len {α : Type} [DecidableEq α] [Inhabited α] (zs : List α) : (Lib.compact zs).length = zs.length ↔ ∀ j, j < zs.length → Lib.keeps zs.toArray j = true := by
  unfold Lib.compact Lib.compactUpTo
  rw [List.length_map]
  have h := List.length_filter_eq_length_iff (p := Lib.keeps zs.toArray) (l := List.range zs.length)
  rw [List.length_range] at h
  rw [h]
  exact ⟨fun h j hj => h j (List.mem_range.mpr hj), fun h j hj => h j (List.mem_range.mp hj)⟩
theorem keeps_iff {α : Type} [DecidableEq α] [Inhabited α] (zs : List α) (j : Nat) (hj : j < zs.length) : Lib.keeps zs.toArray j = true ↔ (j = 0 ∨ zs[j]? ≠ zs[j - 1]?) := by
  unfold Lib.keeps
  rw [decide_eq_true_iff]
  have e : ∀ i, i < zs.length → zs.toArray[i]! = zs[i]! := fun i hi => by simp [hi]
  rw [e j hj, e (j - 1) (by omega)]
  have e2 : ∀ i (hi : i < zs.length), zs[i]! = zs[i] := fun i hi => by simp [hi]
  rw [e2 j hj, e2 (j - 1) (by omega), List.getElem?_eq_getElem hj, List.getElem?_eq_getElem (show j - 1 < zs.length by omega)]
  simp
theorem nodup_of_sorted {l : List (List UInt8)} (hs : l.Pairwise (· ≤ ·)) : (∀ j, j < l.length → (j = 0 ∨ l[j]? ≠ l[j - 1]?)) ↔ l.Nodup := by
  constructor
  · intro h
    rw [List.nodup_iff_pairwise_ne, List.pairwise_iff_getElem]
    intro i j hi hj hij he
    rw [List.pairwise_iff_getElem] at hs
    have h1 : l[i] ≤ l[i + 1] := hs i (i + 1) hi (by omega) (by omega)
    have h2 : l[i + 1] ≤ l[j] := by
      by_cases e : i + 1 = j
      · subst e; exact List.le_refl _
      · exact hs (i + 1) j (by omega) hj (by omega)
    rw [← he] at h2
    have e3 : l[i + 1] = l[i] := List.le_antisymm h2 h1
    rcases h (i + 1) (by omega) with h4 | h4
    · omega
    · apply h4
      rw [show i + 1 - 1 = i by omega, List.getElem?_eq_getElem (show i + 1 < l.length by omega), List.getElem?_eq_getElem hi, e3]
  · intro h j hj
    by_cases e : j = 0
    · exact .inl e
    · right
      rw [List.getElem?_eq_getElem hj, List.getElem?_eq_getElem (show j - 1 < l.length by omega)]
      intro he
      rw [List.nodup_iff_pairwise_ne, List.pairwise_iff_getElem] at h
      exact h (j - 1) j (by omega) hj (by omega) (Option.some.inj he).symm
theorem sort_pairwise (l : List (List UInt8)) : (l.mergeSort fun x y => decide (x ≤ y)).Pairwise (· ≤ ·) := by
  have := List.pairwise_mergeSort (le := fun (x y : List UInt8) => decide (x ≤ y)) (fun a b c h1 h2 => by
    simp at h1 h2 ⊢; exact List.le_trans h1 h2) (fun a b => by
    simp only [Bool.or_eq_true, decide_eq_true_eq]; exact List.le_total a b) l
  exact this.imp fun h => by simpa using h
theorem compact_nodup (l : List (List UInt8)) : ((Lib.compact (l.mergeSort fun x y => decide (x ≤ y))).length = l.length) ↔ l.Nodup := by
  have hl : (l.mergeSort fun x y => decide (x ≤ y)).length = l.length := List.length_mergeSort l
  rw [← hl, compact_len]
  have hp := List.mergeSort_perm l (fun x y => decide (x ≤ y))
  rw [← hp.nodup_iff, ← nodup_of_sorted (sort_pairwise l)]
  exact ⟨fun h j hj => (keeps_iff _ j hj).mp (h j hj), fun h j hj => (keeps_iff _ j hj).mpr (h j hj)⟩
/-- none of a list is among those ahead of it. -/
theorem nodup_ahead (l : List (List UInt8)) : (∀ (k : Nat) x, l[k]? = some x → ¬ x ∈ l.take k) ↔ l.Nodup := by
  rw [List.nodup_iff_pairwise_ne, List.pairwise_iff_getElem]
  constructor
  · intro h i j hi hj hij he
    refine h j l[j] (List.getElem?_eq_getElem hj) ?_
    rw [← he]
    exact List.mem_take_iff_getElem.mpr ⟨i, by omega, rfl⟩
  · intro h k x hk hm
    obtain ⟨hk1, rfl⟩ := List.getElem?_eq_some_iff.mp hk
    obtain ⟨i, hi, he⟩ := List.mem_take_iff_getElem.mp hm
    exact h i k (by omega) hk1 (by omega) he
/-- the names of zones and links. -/
def namesL (r : RelD) : List ByteArray := r.zones.map ZoneD.name ++ r.links.map LinkD.name
def keysL (l : List ByteArray) : List (List UInt8) := l.map (·.data.toList)
def namesB (r : RelD) : Bool := decide (keysL (namesL r)).Nodup
set_option maxRecDepth 100000 in
theorem infoStr : ∃ i : TypeInfo, Tryz.prog.info? 9 = some i ∧ i.zero = some (.string ⟨#[]⟩) ∧ i.size = 1 ∧ i.bytes = 16 := ⟨_, rfl, rfl, rfl, rfl⟩
theorem ownR_empty (w : World) (t : TypeId) : (w.alloc (.cells #[] t)).ownsRow w.heap.size t 1 (.slice (some ⟨w.heap.size, 0, none⟩) 0 0) 0 [] :=
  ⟨rfl, .inr ⟨w.heap.size, 0, #[], rfl, Nat.le_refl _, (MapKept.heap_alloc w _).1, Nat.le_refl _, by unfold maxLen; omega, rfl, rfl⟩⟩
theorem ownR_nil (w : World) (base : Nat) (t : TypeId) : w.ownsRow base t 1 (.slice none 0 0) 0 [] := ⟨rfl, .inl ⟨rfl, rfl⟩⟩
theorem ownR_blk {w : World} {base : Nat} {e : TypeId} {size : Nat} {v : Value} {n : Nat} {xs : List Value} (h : w.ownsRow base e size v n xs) : ∀ k, v.ownBlock = some k → base ≤ k := by
  intro k hk
  rcases h.2 with ⟨rfl, _⟩ | ⟨g, cap, cur, rfl, hg, _⟩
  · cases hk
  · simp [Value.ownBlock] at hk; omega
theorem takeN_succ {l : List ByteArray} {k : Nat} {x : ByteArray} (h : l[k]? = some x) : (l.take (k + 1)).map Value.string = (l.take k).map Value.string ++ [.string x] := by
  rw [List.take_add_one, h]; simp
set_option maxHeartbeats 4000000 in
theorem impl_namesUnlike (r : RelD) (v : Value) (w : World) (hv : RelAt w v r) (hz : r.zones.length ≤ 1048576) (hl : r.links.length ≤ 1048576) :
    Calls Tryz.prog 75 #[v] w fun e w' => e = .returned (.bool (namesB r)) ∧ Below w.heap.size w w' := by
  obtain ⟨a, b, c, ca, cb, cc, rfl, _, hZ, hA⟩ := hv.form
  obtain ⟨i0, hi, hz0, hz1, hz2⟩ := infoStr
  clear hv
  have HB : Hid (namesB r = decide (keysL (r.zones.map ZoneD.name ++ r.links.map LinkD.name)).Nodup) := rfl
  generalize namesB r = nb at *
  generalize r.rules.length = rn at *
  generalize r.links = l at *
  generalize r.zones = zs at *
  have hB0 := (Below.refl w.heap.size w).alloc (Nat.le_refl _) (.cells #[.slice a rn ca, .slice b zs.length cb, .slice c l.length cc] 27)
  have hA1 := hA.below hB0
  have hZ1 := hZ.below hB0
  have hown : (w.alloc (.cells #[.slice a rn ca, .slice b zs.length cb, .slice c l.length cc] 27)).cell? ⟨w.heap.size, 2, none⟩ = some (.slice c l.length cc) := by simp
  go_enter Tryz.func75, Tryz.ntmps75
  go_wp2
  generalize hW : (w.alloc (.cells #[.slice a rn ca, .slice b zs.length cb, .slice c l.length cc] 27)) = W at *
  go_loopw [3, 12] (fun s i wr => ∃ k : Nat, k ≤ zs.length ∧ i = .int .i64 k ∧ wr.ownsRow W.heap.size 9 1 s k (((zs.map ZoneD.name).take k).map Value.string) ∧ Below W.heap.size W wr) (fun _ i _ => zs.length - (intOf i).toNat)
  case atStart => exact ⟨0, by omega, rfl, ownR_nil _ _ _, by subst hW; exact Below.refl _ _⟩
  case round =>
    obtain ⟨k, hk, rfl, hO, hB⟩ := hrel
    by_cases hlt : k < zs.length
    · obtain ⟨x, hx⟩ : ∃ x, zs[k]? = some x := ⟨_, List.getElem?_eq_getElem hlt⟩
      obtain ⟨b', o, rfl, c0, v, c1, hv⟩ := (hZ1.below hB).at hx
      have hs := takeN_succ (l := zs.map ZoneD.name) (k := k) (x := x.name) (by rw [List.getElem?_map, hx]; rfl)
      have HS : Hid (((zs.map ZoneD.name).take (k + 1)).map Value.string = ((zs.map ZoneD.name).take k).map Value.string ++ [.string x.name]) := hs
      obtain ⟨ae, ce, rfl, _⟩ := hv
      clear hs
      have hsz := hB.size
      generalize ((zs.map ZoneD.name).take k).map Value.string = xs at *
      go_wp2_with (first
        | (at_builtin; refine wpList_append_own _ rfl _ _ 81 rfl W.heap.size 9 i0 (.string ⟨#[]⟩) 1 16 Tryz.underlying81 hi hz0 hz1 hz2 rfl (by decide) _ _ _ rfl ((hO.alloc _).alloc _) ⟨wr.heap.size + 1, 0, none⟩ 1 1 [.string x.name] rfl rfl ?c1 ?c2 ?c3 ?c4 ?c5 ?_)
        | fail)
      case c1 => simp [go_sem]
      case c2 => intro u hu; simp at hu; subst hu; rfl
      case c3 => unfold maxLen; omega
      case c4 => omega
      case c5 => simp; omega
      · intro v' w1 hown' hgrow _
        have hB1 : Below W.heap.size W w1 := ((hB.alloc hsz _).alloc (by simp; omega) _).grown hgrow (by simp; omega) (ownR_blk hO)
        clear hgrow hO
        go_wp2
        go_roundw
        case rel => exact ⟨k + 1, by omega, by go_num, by rw [HS.out]; exact hown', hB1⟩
        case measure => simp [intOf]; omega
    · have e : k = zs.length := by omega
      subst e
      rw [List.take_of_length_le (by simp)] at hO
      have y2 : wr.cell? ⟨w.heap.size, 2, none⟩ = some (.slice c l.length cc) := by rw [(bcell hB).1 _ _ (World.block_lt_of_cell? _ _ hown)]; exact hown
      go_wp2
      obtain ⟨wo, rfl⟩ : ∃ wo : World, wo = wr := ⟨_, rfl⟩
      go_loopw [3, 25] (fun s i wr => ∃ k : Nat, k ≤ l.length ∧ i = .int .i64 k ∧ wr.ownsRow W.heap.size 9 1 s (zs.length + k) ((zs.map ZoneD.name ++ (l.map LinkD.name).take k).map Value.string) ∧ Below W.heap.size W wr) (fun _ i _ => l.length - (intOf i).toNat)
      case atStart => exact ⟨0, by omega, rfl, by simpa using hO, hB⟩
      case round =>
        clear hO hB y2
        obtain ⟨m, hm, rfl, hO, hB⟩ := hrel
        by_cases hlt2 : m < l.length
        · obtain ⟨x, hx⟩ : ∃ x, l[m]? = some x := ⟨_, List.getElem?_eq_getElem hlt2⟩
          obtain ⟨b', o, rfl, hc⟩ := (hA1.below hB).at (i := m) (r := x.cs) (by rw [List.getElem?_map, hx]; rfl)
          have c0 : wr.cell? ⟨b', o + m * 2, none⟩ = some (.string x.to_) := hc 0 _ rfl
          have c1 := hc 1 _ rfl
          clear hc
          have hs := takeN_succ (l := l.map LinkD.name) (k := m) (x := x.name) (by rw [List.getElem?_map, hx]; rfl)
          have HS : Hid ((zs.map ZoneD.name ++ (l.map LinkD.name).take (m + 1)).map Value.string = (zs.map ZoneD.name ++ (l.map LinkD.name).take m).map Value.string ++ [.string x.name]) := by
            simp only [Hid]; rw [List.map_append, hs, ← List.append_assoc, ← List.map_append]
          clear hs
          have hsz := hB.size
          generalize (zs.map ZoneD.name ++ (l.map LinkD.name).take m).map Value.string = xs at *
          obtain ⟨n, hn⟩ : ∃ n, n = zs.length + m := ⟨_, rfl⟩
          have HN : Hid (zs.length + (m + 1) = n + 1) := by simp only [Hid]; omega
          have hn2 : n ≤ 2097152 := by omega
          rw [← hn] at hO
          clear hn
          go_wp2_with (first
            | (at_builtin; refine wpList_append_own _ rfl _ _ 81 rfl W.heap.size 9 i0 (.string ⟨#[]⟩) 1 16 Tryz.underlying81 hi hz0 hz1 hz2 rfl (by decide) _ _ _ rfl ((hO.alloc _).alloc _) ⟨wr.heap.size + 1, 0, none⟩ 1 1 [.string x.name] rfl rfl ?c1 ?c2 ?c3 ?c4 ?c5 ?_)
            | fail)
          case c1 => simp [go_sem]
          case c2 => intro u hu; simp at hu; subst hu; rfl
          case c3 => unfold maxLen; omega
          case c4 => omega
          case c5 => simp; omega
          · intro v' w1 hown' hgrow _
            have hB1 : Below W.heap.size W w1 := ((hB.alloc hsz _).alloc (by simp; omega) _).grown hgrow (by simp; omega) (ownR_blk hO)
            clear hgrow hO
            go_wp2
            go_roundw
            case rel => exact ⟨m + 1, by omega, by go_num, by rw [HS.out, HN.out]; exact hown', hB1⟩
            case measure => simp [intOf]; omega
        · have e : m = l.length := by omega
          subst e
          rw [List.take_of_length_le (by simp)] at hO
          obtain ⟨n, hn⟩ : ∃ n, n = zs.length + l.length := ⟨_, rfl⟩
          have hn2 : n ≤ 2097152 := by omega
          rw [← hn] at hO
          have hlen : (zs.map ZoneD.name ++ l.map LinkD.name).length = n := by simp [hn]
          generalize zs.map ZoneD.name ++ l.map LinkD.name = ns at *
          clear hn
          have hO' := hO
          rw [← Lib.map_encStr] at hO'
          rcases hO.2 with ⟨rfl, rfl⟩ | ⟨g, cap, cur, rfl, _, _, _, _, _, _⟩
          · have HR : Hid (nb = true) := by
              simp only [Hid]; rw [HB.out, List.eq_nil_of_length_eq_zero hlen]; rfl
            have hS := fun w => Tryz.slices_Sort_string_none none 0 w
            have hC := fun w => Tryz.slices_Compact_string_empty none 0 w
            go_wp2_with (first | (go_at_call 140; refine (hS _).mono ?_; rintro e w' ⟨rfl, rfl⟩) | (go_at_call 141; refine (hC _).mono ?_; rintro e w' ⟨rfl, rfl⟩))
            go_ret
            exact ⟨ret_bool HR.out.symm, hB0.trans (hB.mono hB0.size)⟩
          · obtain ⟨g', cap', he, hbg, hglt, hncap, hcm, hzl, hH⟩ := Lib.holds_of_ownsRow hO' (by simp)
            injection he with he1 _ he3
            injection he1 with he1
            injection he1 with he1
            subst he1 he3
            have hS := Tryz.slices_Sort_string g 0 cap (ns.map (·.data.toList)) wr hH hglt (by omega)
            rw [hzl] at hS
            have hsl : ((ns.map (·.data.toList)).mergeSort fun x y => decide (x ≤ y)).length = n := by rw [List.length_mergeSort]; exact hzl
            have hC := fun w' hH2 => Tryz.slices_Compact_string g 0 cap ((ns.map (·.data.toList)).mergeSort fun x y => decide (x ≤ y)) w' hH2 (by omega) (by omega)
            have hK := compact_nodup (ns.map (·.data.toList))
            rw [hzl] at hK
            have hHH : ∀ q os, Go.Sort.Holds encStr (Go.Sort.grow (Go.Sort.putRow encStr (Go.Sort.ahead wr q) g 0 ((ns.map (·.data.toList)).mergeSort fun x y => decide (x ≤ y)).toArray) os) g 0 ((ns.map (·.data.toList)).mergeSort fun x y => decide (x ≤ y)).toArray := fun q os =>
              Go.Sort.holds_grow _ _ _ _ _ _ (by simpa using hglt) (Go.Sort.holds_putRow _ _ _ _ _ _ (Go.Sort.holds_ahead _ _ _ _ _ _ hH) (by simp))
            rw [hsl] at hC
            have HR : Hid (nb = (((Lib.compact ((ns.map (·.data.toList)).mergeSort fun x y => decide (x ≤ y))).length : Int) == (n : Int))) := by
              simp only [Hid]
              rw [HB.out, Bool.eq_iff_iff]
              simp only [decide_eq_true_eq, beq_iff_eq, Int.natCast_inj]
              exact hK.symm
            have hcl : (Lib.compact ((ns.map (·.data.toList)).mergeSort fun x y => decide (x ≤ y))).length ≤ n := by
              unfold Lib.compact Lib.compactUpTo
              rw [List.length_map]
              have := List.length_filter_le (Lib.keeps ((ns.map (·.data.toList)).mergeSort fun x y => decide (x ≤ y)).toArray) (List.range ((ns.map (·.data.toList)).mergeSort fun x y => decide (x ≤ y)).length)
              rw [List.length_range] at this
              exact Nat.le_trans this (Nat.le_of_eq hsl)
            generalize (ns.map (·.data.toList)).mergeSort (fun x y => decide (x ≤ y)) = so at *
            generalize (Lib.compact so).length = cl at *
            clear hO hO' hH hK HB hsl hzl hlen
            go_wp2_with fail
            refine hS.mono ?_
            rintro e w2 ⟨rfl, q, os, rfl⟩
            go_wp2_with fail
            refine (hC _ (hHH q os)).mono ?_
            rintro e w3 ⟨rfl, q2, rfl⟩
            go_wp2
            go_ret
            refine ⟨ret_bool HR.out.symm, hB0.trans (Below.mono (Lib.below_putRow ?_ hbg) hB0.size)⟩
            have hb1 := Lib.below_putRow (enc := encStr) (q := q) (d := so.toArray) hB hbg
            exact ⟨hb1.os, hb1.tape, hb1.output, by simp; have := hb1.size; simp at this; omega, fun k hk => by rw [Go.Sort.heap_grow_old _ _ (by have := hb1.size; omega)]; exact hb1.block k hk⟩
end Go.Proofs.YtjdokmllidhapaaGreatDoor
namespace Go.Proofs.YtjdokmllidhapaaGreatDoor
open Go.RowKit

def relB (r : RelD) : Bool := decide (r.rules.length ≤ 40 ∧ r.zones.length ≤ 12 ∧ r.links.length ≤ 20) && (r.rules.all ruleB && (r.zones.all zoneP && (r.links.all linkB && (namesB r && ((r.zones.all fun z => z.eras.all (thereB r.rules)) && (r.links.all fun x => hasZ r.zones x.to_))))))
theorem rel_no0 {r : RelD} (h : ¬ (r.rules.length ≤ 40 ∧ r.zones.length ≤ 12 ∧ r.links.length ≤ 20)) : relB r = false := by unfold relB; rw [decide_eq_false h]; rfl
theorem rel_no1 {r : RelD} (h : r.rules.all ruleB = false) : relB r = false := by unfold relB; rw [h]; simp
theorem rel_no2 {r : RelD} (h : r.zones.all zoneP = false) : relB r = false := by unfold relB; rw [h]; simp
theorem rel_no3 {r : RelD} (h : r.links.all linkB = false) : relB r = false := by unfold relB; rw [h]; simp
theorem rel_no4 {r : RelD} (h : namesB r = false) : relB r = false := by unfold relB; rw [h]; simp
theorem rel_no5 {r : RelD} (h : (r.zones.all fun z => z.eras.all (thereB r.rules)) = false) : relB r = false := by unfold relB; rw [h]; simp
theorem rel_no6 {r : RelD} (h : (r.links.all fun x => hasZ r.zones x.to_) = false) : relB r = false := by unfold relB; rw [h]; simp
theorem rel_yes {r : RelD} (h0 : r.rules.length ≤ 40 ∧ r.zones.length ≤ 12 ∧ r.links.length ≤ 20) (h1 : r.rules.all ruleB = true) (h2 : r.zones.all zoneP = true) (h3 : r.links.all linkB = true) (h4 : namesB r = true) (h5 : (r.zones.all fun z => z.eras.all (thereB r.rules)) = true) (h6 : (r.links.all fun x => hasZ r.zones x.to_) = true) : relB r = true := by unfold relB; rw [decide_eq_true h0, h1, h2, h3, h4, h5, h6]; rfl
set_option maxHeartbeats 4000000 in
theorem impl_ReleaseRight (r : RelD) (v : Value) (w : World) (hE : EnvZ w) (hv : RelAt w v r) (ok : r.ok) (sm : r.small) (hon : ∀ x ∈ r.rules, x.on.size ≤ 1048576) :
    Calls Tryz.prog 26 #[v] w fun e w' => e = .returned (.bool (relB r)) ∧ Below w.heap.size w w' := by
  obtain ⟨a, b, c, ca, cb, cc, hvv, hAr, hAz, hAl⟩ := hv.form
  obtain ⟨⟨p1, p2⟩, ⟨q1, q2⟩, ⟨s1, s2⟩⟩ := ok
  obtain ⟨m1, m2, m3, m4⟩ := sm
  have hB0 := (Below.refl w.heap.size w).alloc (Nat.le_refl _) (.cells #[.slice a r.rules.length ca, .slice b r.zones.length cb, .slice c r.links.length cc] 27)
  have hR := fun w hE (h : SeqAt w a 9 (r.rules.map RuleD.cs)) => impl_allRule r.rules a ca w hE h p2 hon m1
  have hZ := fun w (h : ZonesAt w b r.zones) => impl_allZone r.zones b cb w h q2 m2
  have hK := fun w (h : SeqAt w c 2 (r.links.map LinkD.cs)) => impl_allLink r.links c cc w h s2 m3
  have hU := fun w (h : RelAt w v r) => impl_namesUnlike r v w h m2 m3
  have hT := fun w (h : RelAt w v r) => impl_rulesThere r v w h m1 m2 q2
  have hY := fun w (h : RelAt w v r) => impl_zonesThere r v w h m2 m3
  subst hvv
  have N0 := @rel_no0 r
  have N1 := @rel_no1 r
  have N2 := @rel_no2 r
  have N3 := @rel_no3 r
  have N4 := @rel_no4 r
  have N5 := @rel_no5 r
  have N6 := @rel_no6 r
  have YY := @rel_yes r
  generalize relB r = rb at *
  by_cases g40 : 40 < r.rules.length
  · have HR : Hid (rb = false) := N0 (by omega)
    clear N0 N1 N2 N3 N4 N5 N6 YY
    go_enter Tryz.func26, Tryz.ntmps26
    go_wp2
    go_ret
    exact ⟨ret_bool HR.out.symm, hB0⟩
  by_cases g12 : 12 < r.zones.length
  · have HR : Hid (rb = false) := N0 (by omega)
    clear N0 N1 N2 N3 N4 N5 N6 YY
    go_enter Tryz.func26, Tryz.ntmps26
    go_wp2
    go_ret
    exact ⟨ret_bool HR.out.symm, hB0⟩
  by_cases g20 : 20 < r.links.length
  · have HR : Hid (rb = false) := N0 (by omega)
    clear N0 N1 N2 N3 N4 N5 N6 YY
    go_enter Tryz.func26, Tryz.ntmps26
    go_wp2
    go_ret
    exact ⟨ret_bool HR.out.symm, hB0⟩
  have x0 : (w.alloc (.cells #[.slice a r.rules.length ca, .slice b r.zones.length cb, .slice c r.links.length cc] 27)).cell? ⟨w.heap.size, 0, none⟩ = some (.slice a r.rules.length ca) := by simp [go_sem]
  have y0 : (w.alloc (.cells #[.slice a r.rules.length ca, .slice b r.zones.length cb, .slice c r.links.length cc] 27)).cell? ⟨w.heap.size, 1, none⟩ = some (.slice b r.zones.length cb) := by simp [go_sem]
  have z0 : (w.alloc (.cells #[.slice a r.rules.length ca, .slice b r.zones.length cb, .slice c r.links.length cc] 27)).cell? ⟨w.heap.size, 2, none⟩ = some (.slice c r.links.length cc) := by simp [go_sem]
  cases k1 : r.rules.all ruleB
  · have HR : Hid (rb = false) := N1 k1
    rw [k1] at hR
    clear N0 N1 N2 N3 N4 N5 N6 YY
    clear k1
    go_enter Tryz.func26, Tryz.ntmps26
    go_wp2_with fail
    refine (hR _ (hE.of_below hB0) (hAr.below hB0)).mono ?_
    rintro e w1 ⟨rfl, hb1⟩
    have hB1 := hB0.trans (hb1.mono hB0.size)
    go_wp2
    go_ret
    exact ⟨ret_bool HR.out.symm, hB1⟩
  rw [k1] at hR
  cases k2 : r.zones.all zoneP
  · have HR : Hid (rb = false) := N2 k2
    rw [k2] at hZ
    clear N0 N1 N2 N3 N4 N5 N6 YY
    clear k1 k2
    go_enter Tryz.func26, Tryz.ntmps26
    go_wp2_with fail
    refine (hR _ (hE.of_below hB0) (hAr.below hB0)).mono ?_
    rintro e w1 ⟨rfl, hb1⟩
    have hB1 := hB0.trans (hb1.mono hB0.size)
    have x1 := ((bcell hb1).1 _ _ (World.block_lt_of_cell? _ _ x0)).trans x0
    have y1 := ((bcell hb1).1 _ _ (World.block_lt_of_cell? _ _ y0)).trans y0
    have z1 := ((bcell hb1).1 _ _ (World.block_lt_of_cell? _ _ z0)).trans z0
    go_wp2_with fail
    refine (hZ _ (hAz.below hB1)).mono ?_
    rintro e w2 ⟨rfl, hb2⟩
    have hB2 := hB1.trans (hb2.mono hB1.size)
    go_wp2
    go_ret
    exact ⟨ret_bool HR.out.symm, hB2⟩
  rw [k2] at hZ
  cases k3 : r.links.all linkB
  · have HR : Hid (rb = false) := N3 k3
    rw [k3] at hK
    clear N0 N1 N2 N3 N4 N5 N6 YY
    clear k1 k2 k3
    go_enter Tryz.func26, Tryz.ntmps26
    go_wp2_with fail
    refine (hR _ (hE.of_below hB0) (hAr.below hB0)).mono ?_
    rintro e w1 ⟨rfl, hb1⟩
    have hB1 := hB0.trans (hb1.mono hB0.size)
    have x1 := ((bcell hb1).1 _ _ (World.block_lt_of_cell? _ _ x0)).trans x0
    have y1 := ((bcell hb1).1 _ _ (World.block_lt_of_cell? _ _ y0)).trans y0
    have z1 := ((bcell hb1).1 _ _ (World.block_lt_of_cell? _ _ z0)).trans z0
    go_wp2_with fail
    refine (hZ _ (hAz.below hB1)).mono ?_
    rintro e w2 ⟨rfl, hb2⟩
    have hB2 := hB1.trans (hb2.mono hB1.size)
    have x2 := ((bcell hb2).1 _ _ (World.block_lt_of_cell? _ _ x1)).trans x1
    have y2 := ((bcell hb2).1 _ _ (World.block_lt_of_cell? _ _ y1)).trans y1
    have z2 := ((bcell hb2).1 _ _ (World.block_lt_of_cell? _ _ z1)).trans z1
    go_wp2_with fail
    refine (hK _ (hAl.below hB2)).mono ?_
    rintro e w3 ⟨rfl, hb3⟩
    have hB3 := hB2.trans (hb3.mono hB2.size)
    go_wp2
    go_ret
    exact ⟨ret_bool HR.out.symm, hB3⟩
  rw [k3] at hK
  cases k4 : namesB r
  · have HR : Hid (rb = false) := N4 k4
    rw [k4] at hU
    clear N0 N1 N2 N3 N4 N5 N6 YY
    clear k1 k2 k3 k4
    go_enter Tryz.func26, Tryz.ntmps26
    go_wp2_with fail
    refine (hR _ (hE.of_below hB0) (hAr.below hB0)).mono ?_
    rintro e w1 ⟨rfl, hb1⟩
    have hB1 := hB0.trans (hb1.mono hB0.size)
    have x1 := ((bcell hb1).1 _ _ (World.block_lt_of_cell? _ _ x0)).trans x0
    have y1 := ((bcell hb1).1 _ _ (World.block_lt_of_cell? _ _ y0)).trans y0
    have z1 := ((bcell hb1).1 _ _ (World.block_lt_of_cell? _ _ z0)).trans z0
    go_wp2_with fail
    refine (hZ _ (hAz.below hB1)).mono ?_
    rintro e w2 ⟨rfl, hb2⟩
    have hB2 := hB1.trans (hb2.mono hB1.size)
    have x2 := ((bcell hb2).1 _ _ (World.block_lt_of_cell? _ _ x1)).trans x1
    have y2 := ((bcell hb2).1 _ _ (World.block_lt_of_cell? _ _ y1)).trans y1
    have z2 := ((bcell hb2).1 _ _ (World.block_lt_of_cell? _ _ z1)).trans z1
    go_wp2_with fail
    refine (hK _ (hAl.below hB2)).mono ?_
    rintro e w3 ⟨rfl, hb3⟩
    have hB3 := hB2.trans (hb3.mono hB2.size)
    have x3 := ((bcell hb3).1 _ _ (World.block_lt_of_cell? _ _ x2)).trans x2
    have y3 := ((bcell hb3).1 _ _ (World.block_lt_of_cell? _ _ y2)).trans y2
    have z3 := ((bcell hb3).1 _ _ (World.block_lt_of_cell? _ _ z2)).trans z2
    go_wp2_with fail
    refine (hU _ (hv.below hB3)).mono ?_
    rintro e w4 ⟨rfl, hb4⟩
    have hB4 := hB3.trans (hb4.mono hB3.size)
    go_wp2
    go_ret
    exact ⟨ret_bool HR.out.symm, hB4⟩
  rw [k4] at hU
  cases k5 : (r.zones.all fun z => z.eras.all (thereB r.rules))
  · have HR : Hid (rb = false) := N5 k5
    rw [k5] at hT
    clear N0 N1 N2 N3 N4 N5 N6 YY
    clear k1 k2 k3 k4 k5
    go_enter Tryz.func26, Tryz.ntmps26
    go_wp2_with fail
    refine (hR _ (hE.of_below hB0) (hAr.below hB0)).mono ?_
    rintro e w1 ⟨rfl, hb1⟩
    have hB1 := hB0.trans (hb1.mono hB0.size)
    have x1 := ((bcell hb1).1 _ _ (World.block_lt_of_cell? _ _ x0)).trans x0
    have y1 := ((bcell hb1).1 _ _ (World.block_lt_of_cell? _ _ y0)).trans y0
    have z1 := ((bcell hb1).1 _ _ (World.block_lt_of_cell? _ _ z0)).trans z0
    go_wp2_with fail
    refine (hZ _ (hAz.below hB1)).mono ?_
    rintro e w2 ⟨rfl, hb2⟩
    have hB2 := hB1.trans (hb2.mono hB1.size)
    have x2 := ((bcell hb2).1 _ _ (World.block_lt_of_cell? _ _ x1)).trans x1
    have y2 := ((bcell hb2).1 _ _ (World.block_lt_of_cell? _ _ y1)).trans y1
    have z2 := ((bcell hb2).1 _ _ (World.block_lt_of_cell? _ _ z1)).trans z1
    go_wp2_with fail
    refine (hK _ (hAl.below hB2)).mono ?_
    rintro e w3 ⟨rfl, hb3⟩
    have hB3 := hB2.trans (hb3.mono hB2.size)
    have x3 := ((bcell hb3).1 _ _ (World.block_lt_of_cell? _ _ x2)).trans x2
    have y3 := ((bcell hb3).1 _ _ (World.block_lt_of_cell? _ _ y2)).trans y2
    have z3 := ((bcell hb3).1 _ _ (World.block_lt_of_cell? _ _ z2)).trans z2
    go_wp2_with fail
    refine (hU _ (hv.below hB3)).mono ?_
    rintro e w4 ⟨rfl, hb4⟩
    have hB4 := hB3.trans (hb4.mono hB3.size)
    have x4 := ((bcell hb4).1 _ _ (World.block_lt_of_cell? _ _ x3)).trans x3
    have y4 := ((bcell hb4).1 _ _ (World.block_lt_of_cell? _ _ y3)).trans y3
    have z4 := ((bcell hb4).1 _ _ (World.block_lt_of_cell? _ _ z3)).trans z3
    go_wp2_with fail
    refine (hT _ (hv.below hB4)).mono ?_
    rintro e w5 ⟨rfl, hb5⟩
    have hB5 := hB4.trans (hb5.mono hB4.size)
    go_wp2
    go_ret
    exact ⟨ret_bool HR.out.symm, hB5⟩
  rw [k5] at hT
  cases k6 : (r.links.all fun x => hasZ r.zones x.to_)
  · have HR : Hid (rb = false) := N6 k6
    rw [k6] at hY
    clear N0 N1 N2 N3 N4 N5 N6 YY
    clear k1 k2 k3 k4 k5 k6
    go_enter Tryz.func26, Tryz.ntmps26
    go_wp2_with fail
    refine (hR _ (hE.of_below hB0) (hAr.below hB0)).mono ?_
    rintro e w1 ⟨rfl, hb1⟩
    have hB1 := hB0.trans (hb1.mono hB0.size)
    have x1 := ((bcell hb1).1 _ _ (World.block_lt_of_cell? _ _ x0)).trans x0
    have y1 := ((bcell hb1).1 _ _ (World.block_lt_of_cell? _ _ y0)).trans y0
    have z1 := ((bcell hb1).1 _ _ (World.block_lt_of_cell? _ _ z0)).trans z0
    go_wp2_with fail
    refine (hZ _ (hAz.below hB1)).mono ?_
    rintro e w2 ⟨rfl, hb2⟩
    have hB2 := hB1.trans (hb2.mono hB1.size)
    have x2 := ((bcell hb2).1 _ _ (World.block_lt_of_cell? _ _ x1)).trans x1
    have y2 := ((bcell hb2).1 _ _ (World.block_lt_of_cell? _ _ y1)).trans y1
    have z2 := ((bcell hb2).1 _ _ (World.block_lt_of_cell? _ _ z1)).trans z1
    go_wp2_with fail
    refine (hK _ (hAl.below hB2)).mono ?_
    rintro e w3 ⟨rfl, hb3⟩
    have hB3 := hB2.trans (hb3.mono hB2.size)
    have x3 := ((bcell hb3).1 _ _ (World.block_lt_of_cell? _ _ x2)).trans x2
    have y3 := ((bcell hb3).1 _ _ (World.block_lt_of_cell? _ _ y2)).trans y2
    have z3 := ((bcell hb3).1 _ _ (World.block_lt_of_cell? _ _ z2)).trans z2
    go_wp2_with fail
    refine (hU _ (hv.below hB3)).mono ?_
    rintro e w4 ⟨rfl, hb4⟩
    have hB4 := hB3.trans (hb4.mono hB3.size)
    have x4 := ((bcell hb4).1 _ _ (World.block_lt_of_cell? _ _ x3)).trans x3
    have y4 := ((bcell hb4).1 _ _ (World.block_lt_of_cell? _ _ y3)).trans y3
    have z4 := ((bcell hb4).1 _ _ (World.block_lt_of_cell? _ _ z3)).trans z3
    go_wp2_with fail
    refine (hT _ (hv.below hB4)).mono ?_
    rintro e w5 ⟨rfl, hb5⟩
    have hB5 := hB4.trans (hb5.mono hB4.size)
    have x5 := ((bcell hb5).1 _ _ (World.block_lt_of_cell? _ _ x4)).trans x4
    have y5 := ((bcell hb5).1 _ _ (World.block_lt_of_cell? _ _ y4)).trans y4
    have z5 := ((bcell hb5).1 _ _ (World.block_lt_of_cell? _ _ z4)).trans z4
    go_wp2_with fail
    refine (hY _ (hv.below hB5)).mono ?_
    rintro e w6 ⟨rfl, hb6⟩
    have hB6 := hB5.trans (hb6.mono hB5.size)
    go_wp2
    go_ret
    exact ⟨ret_bool HR.out.symm, hB6⟩
  rw [k6] at hY
  have HR : Hid (rb = true) := YY (by omega) k1 k2 k3 k4 k5 k6
  clear N0 N1 N2 N3 N4 N5 N6 YY k1 k2 k3 k4 k5 k6
  go_enter Tryz.func26, Tryz.ntmps26
  go_wp2_with fail
  refine (hR _ (hE.of_below hB0) (hAr.below hB0)).mono ?_
  rintro e w1 ⟨rfl, hb1⟩
  have hB1 := hB0.trans (hb1.mono hB0.size)
  have x1 := ((bcell hb1).1 _ _ (World.block_lt_of_cell? _ _ x0)).trans x0
  have y1 := ((bcell hb1).1 _ _ (World.block_lt_of_cell? _ _ y0)).trans y0
  have z1 := ((bcell hb1).1 _ _ (World.block_lt_of_cell? _ _ z0)).trans z0
  go_wp2_with fail
  refine (hZ _ (hAz.below hB1)).mono ?_
  rintro e w2 ⟨rfl, hb2⟩
  have hB2 := hB1.trans (hb2.mono hB1.size)
  have x2 := ((bcell hb2).1 _ _ (World.block_lt_of_cell? _ _ x1)).trans x1
  have y2 := ((bcell hb2).1 _ _ (World.block_lt_of_cell? _ _ y1)).trans y1
  have z2 := ((bcell hb2).1 _ _ (World.block_lt_of_cell? _ _ z1)).trans z1
  go_wp2_with fail
  refine (hK _ (hAl.below hB2)).mono ?_
  rintro e w3 ⟨rfl, hb3⟩
  have hB3 := hB2.trans (hb3.mono hB2.size)
  have x3 := ((bcell hb3).1 _ _ (World.block_lt_of_cell? _ _ x2)).trans x2
  have y3 := ((bcell hb3).1 _ _ (World.block_lt_of_cell? _ _ y2)).trans y2
  have z3 := ((bcell hb3).1 _ _ (World.block_lt_of_cell? _ _ z2)).trans z2
  go_wp2_with fail
  refine (hU _ (hv.below hB3)).mono ?_
  rintro e w4 ⟨rfl, hb4⟩
  have hB4 := hB3.trans (hb4.mono hB3.size)
  have x4 := ((bcell hb4).1 _ _ (World.block_lt_of_cell? _ _ x3)).trans x3
  have y4 := ((bcell hb4).1 _ _ (World.block_lt_of_cell? _ _ y3)).trans y3
  have z4 := ((bcell hb4).1 _ _ (World.block_lt_of_cell? _ _ z3)).trans z3
  go_wp2_with fail
  refine (hT _ (hv.below hB4)).mono ?_
  rintro e w5 ⟨rfl, hb5⟩
  have hB5 := hB4.trans (hb5.mono hB4.size)
  have x5 := ((bcell hb5).1 _ _ (World.block_lt_of_cell? _ _ x4)).trans x4
  have y5 := ((bcell hb5).1 _ _ (World.block_lt_of_cell? _ _ y4)).trans y4
  have z5 := ((bcell hb5).1 _ _ (World.block_lt_of_cell? _ _ z4)).trans z4
  go_wp2_with fail
  refine (hY _ (hv.below hB5)).mono ?_
  rintro e w6 ⟨rfl, hb6⟩
  have hB6 := hB5.trans (hb6.mono hB5.size)
  go_wp2
  go_ret
  exact ⟨ret_bool HR.out.symm, hB6⟩
end Go.Proofs.YtjdokmllidhapaaGreatDoor
namespace Go.Proofs.YtjdokmllidhapaaGreatDoor
open Go.RowKit

theorem mem_le_sum {l : List Nat} {x : Nat} (h : x ∈ l) : x ≤ l.sum := by
  induction l with
  | nil => cases h
  | cons a l ih =>
    rw [List.sum_cons]
    rcases List.mem_cons.mp h with rfl | h
    · omega
    · have := ih h; omega
theorem rel_small {r : RelD} (h : r.sz ≤ 1048576) : r.small ∧ ∀ x ∈ r.rules, x.on.size ≤ 1048576 := by
  unfold RelD.sz at h
  refine ⟨⟨by omega, by omega, by omega, fun z hz => ?_⟩, fun x hx => ?_⟩
  · have h1 : z.sz ≤ zsz r.zones := mem_le_sum (List.mem_map.mpr ⟨z, hz, rfl⟩)
    have h2 : z.eras.length ≤ z.sz := by unfold ZoneD.sz; omega
    omega
  · have h1 : x.sz ≤ rsz r.rules := mem_le_sum (List.mem_map.mpr ⟨x, hx, rfl⟩)
    have h2 : x.on.size ≤ x.sz := by unfold RuleD.sz; omega
    omega
end Go.Proofs.YtjdokmllidhapaaGreatDoor
namespace Go.Proofs.YtjdokmllidhapaaGreatDoor
open Go.RowKit

theorem ownR_below {w w' : World} {base : Nat} {e : TypeId} {size : Nat} {v : Value} {n : Nat} {xs : List Value} (h : w.ownsRow base e size v n xs) (hb : Below w.heap.size w w') : w'.ownsRow base e size v n xs := by
  refine ⟨h.1, ?_⟩
  rcases h.2 with h2 | ⟨g, cap, cur, hv, hg, hh, rest⟩
  · exact .inl h2
  · refine .inr ⟨g, cap, cur, hv, hg, ?_, rest⟩
    rw [hb.block g (by
      rcases Nat.lt_or_ge g w.heap.size with h' | h'
      · exact h'
      · rw [Array.getElem?_eq_none h'] at hh; cases hh)]
    exact hh
theorem ownR_some {w : World} {base : Nat} {e : TypeId} {size : Nat} {v : Value} {n : Nat} {xs : List Value} (h : w.ownsRow base e size v n xs) (hn : 0 < n) : ∃ g cap, v = .slice (some ⟨g, 0, none⟩) n cap := by
  rcases h.2 with ⟨_, h0⟩ | ⟨g, cap, _, hv, _⟩
  · omega
  · exact ⟨g, cap, hv⟩
theorem ownR_strs {w : World} {base : Nat} {e : TypeId} {g cap n : Nat} {ss : List ByteArray} (h : w.ownsRow base e 1 (.slice (some ⟨g, 0, none⟩) n cap) n (ss.map Value.string)) : StrsAt w (some ⟨g, 0, none⟩) ss ∧ n ≤ cap ∧ ss.length = n := by
  have hl : ss.length = n := by simpa using h.1
  rcases h.2 with ⟨h0, _⟩ | ⟨g', cap', cur, hv, hg, hh, hc, hm, hs, ht⟩
  · cases h0
  · injection hv with h1 _ h3
    injection h1 with h1
    injection h1 with h1
    subst h1 h3
    refine ⟨.inr ⟨g, 0, rfl, fun i s hi => ?_⟩, hc, hl⟩
    have hil := (List.getElem?_eq_some_iff.mp hi).1
    have e1 : (cur.toList.take (n * 1))[i]? = (ss.map Value.string)[i]? := by rw [ht]
    rw [List.getElem?_take, if_pos (by omega), Array.getElem?_toList, List.getElem?_map, hi] at e1
    simp only [World.cell?, hh, Nat.zero_add]
    simp only [Option.isSome_none, Bool.false_eq_true, if_false]
    exact e1
theorem inB_iff {ss : List ByteArray} {t : ByteArray} : inB ss t = true ↔ t.data.toList ∈ keysL ss := by
  unfold inB keysL
  rw [List.any_eq_true, List.mem_map]
  constructor
  · rintro ⟨x, hx, he⟩
    exact ⟨x, hx, by rw [beq_iff_eq, ByteArray.toList_eq, ByteArray.toList_eq] at he; exact he⟩
  · rintro ⟨x, hx, he⟩
    exact ⟨x, hx, by rw [beq_iff_eq, ByteArray.toList_eq, ByteArray.toList_eq]; exact he⟩
theorem inB_hasZ {zs : List ZoneD} {t : ByteArray} : inB (zs.map ZoneD.name) t = hasZ zs t := by
  unfold inB hasZ
  rw [List.any_map]
  rfl
structure RelT (r : RelD) : Prop where
  lens : r.rules.length ≤ 40 ∧ r.zones.length ≤ 12 ∧ r.links.length ≤ 20
  rules : r.rules.all ruleB = true
  zones : r.zones.all zoneP = true
  links : r.links.all linkB = true
  names : namesB r = true
  there : (r.zones.all fun z => z.eras.all (thereB r.rules)) = true
  has : (r.links.all fun x => hasZ r.zones x.to_) = true
theorem rel_of {r : RelD} (h : relB r = true) : RelT r := by
  unfold relB at h
  simp only [Bool.and_eq_true, decide_eq_true_eq] at h
  obtain ⟨h0, h1, h2, h3, h4, h5, h6⟩ := h
  exact ⟨h0, h1, h2, h3, h4, h5, h6⟩
theorem rel_false {r : RelD} (h : RelT r → False) : relB r = false := by
  cases hb : relB r
  · rfl
  · exact (h (rel_of hb)).elim
theorem rel_rule {r : RelD} {k : Nat} {x : RuleD} (hk : r.rules[k]? = some x) (h : ruleB x = false) : relB r = false := rel_no1 (all_no hk h)
theorem rel_zone {r : RelD} {k : Nat} {z : ZoneD} (hk : r.zones[k]? = some z) (h : zoneMB r.rules z = false) : relB r = false := rel_false fun t => by
  have := (zones_same t.rules).mp ⟨t.zones, t.there⟩ z (List.mem_of_getElem? hk)
  rw [zoneM_yes this] at h; cases h
theorem rel_link {r : RelD} {k : Nat} {x : LinkD} (hk : r.links[k]? = some x) (h : nameB x.name = false ∨ inB (r.zones.map ZoneD.name) x.to_ = false) : relB r = false := rel_false fun t => by
  have h1 := List.all_eq_true.mp t.links x (List.mem_of_getElem? hk)
  have h2 := List.all_eq_true.mp t.has x (List.mem_of_getElem? hk)
  unfold linkB at h1
  simp only [Bool.and_eq_true] at h1
  rcases h with h | h
  · rw [h1.2] at h; cases h
  · rw [inB_hasZ, h2] at h; cases h
theorem keysL_take (l : List ByteArray) (k : Nat) : keysL (l.take k) = (keysL l).take k := by unfold keysL; rw [List.map_take]
theorem rel_dup {r : RelD} {k : Nat} {x : ByteArray} (hk : (namesL r)[k]? = some x) (h : inB ((namesL r).take k) x = true) : relB r = false := rel_false fun t => by
  have hn : (keysL (namesL r)).Nodup := by have := t.names; unfold namesB at this; exact of_decide_eq_true this
  rw [inB_iff, keysL_take] at h
  exact (nodup_ahead _).mpr hn k x.data.toList (by unfold keysL; rw [List.getElem?_map, hk]; rfl) h
theorem rel_all {r : RelD} (h0 : r.rules.length ≤ 40 ∧ r.zones.length ≤ 12 ∧ r.links.length ≤ 20) (h1 : ∀ (k : Nat) x, r.rules[k]? = some x → ruleB x = true) (h2 : ∀ (k : Nat) z, r.zones[k]? = some z → zoneMB r.rules z = true)
    (h3 : ∀ (k : Nat) x, r.links[k]? = some x → nameB x.name = true ∧ inB (r.zones.map ZoneD.name) x.to_ = true) (h4 : ∀ (k : Nat) x, (namesL r)[k]? = some x → inB ((namesL r).take k) x = false) : relB r = true := by
  have k1 : r.rules.all ruleB = true := all_yes fun j _ x hx => h1 j x hx
  have kz : ∀ z ∈ r.zones, ZoneM r.rules z := fun z hz => by
    obtain ⟨k, hk⟩ := List.getElem?_of_mem hz
    exact zoneMB_iff.mp (h2 k z hk)
  obtain ⟨k2, k5⟩ := (zones_same k1).mpr kz
  obtain ⟨k3, k6⟩ := (links_same (ls := r.links) fun z hz => (kz z hz).name).mpr fun x hx => by
    obtain ⟨k, hk⟩ := List.getElem?_of_mem hx
    have := h3 k x hk
    rw [inB_hasZ] at this
    exact this
  refine rel_yes h0 k1 k2 k3 ?_ k5 k6
  unfold namesB
  refine decide_eq_true ((nodup_ahead _).mp fun k x hk hm => ?_)
  unfold keysL at hk
  rw [List.getElem?_map] at hk
  obtain ⟨y, hy, rfl⟩ := Option.map_eq_some_iff.mp hk
  have := h4 k y hy
  rw [← keysL_take, ← inB_iff] at hm
  rw [this] at hm; cases hm
end Go.Proofs.YtjdokmllidhapaaGreatDoor
namespace Go.Proofs.YtjdokmllidhapaaGreatDoor
open Go.RowKit Go.Sort

set_option maxRecDepth 100000 in
set_option maxHeartbeats 8000000 in
theorem spec_ReleaseRight (r : RelD) (v : Value) (w : World) (hv : RelAt w v r) (ok : r.ok) (sm : r.small) (hon : ∀ x ∈ r.rules, x.on.size ≤ 1048576) :
    Calls Tryz.prog 24 #[v] w fun e w' => e = .returned (.bool (relB r)) ∧ Below w.heap.size w w' := by
  obtain ⟨a, b, c, ca, cb, cc, hvv, hAr, hAz, hAl⟩ := hv.form
  obtain ⟨⟨p1, p2⟩, ⟨q1, q2⟩, ⟨s1, s2⟩⟩ := ok
  obtain ⟨m1, m2, m3, m4⟩ := sm
  obtain ⟨i0, hi, hz0, hz1, hz2⟩ := infoStr
  have hB0 := (Below.refl w.heap.size w).alloc (Nat.le_refl _) (.cells #[.slice a r.rules.length ca, .slice b r.zones.length cb, .slice c r.links.length cc] 27)
  have N0 := @rel_no0 r
  have HN1 : Hid (∀ (k : Nat) (x : RuleD), r.rules[k]? = some x → ruleB x = false → relB r = false) := fun k x h1 h2 => rel_rule h1 h2
  have HN2 : Hid (∀ (k : Nat) (z : ZoneD), r.zones[k]? = some z → zoneMB r.rules z = false → relB r = false) := fun k x h1 h2 => rel_zone h1 h2
  have HN3 : Hid (∀ (k : Nat) (x : LinkD), r.links[k]? = some x → (nameB x.name = false ∨ inB (r.zones.map ZoneD.name) x.to_ = false) → relB r = false) := fun k x h1 h2 => rel_link h1 h2
  have HN4 : Hid (∀ (k : Nat) (x : ByteArray), (r.zones.map ZoneD.name ++ r.links.map LinkD.name)[k]? = some x → inB ((r.zones.map ZoneD.name ++ r.links.map LinkD.name).take k) x = true → relB r = false) := fun k x h1 h2 => rel_dup h1 h2
  have HY : Hid ((r.rules.length ≤ 40 ∧ r.zones.length ≤ 12 ∧ r.links.length ≤ 20) → (∀ (k : Nat) x, r.rules[k]? = some x → ruleB x = true) → (∀ (k : Nat) z, r.zones[k]? = some z → zoneMB r.rules z = true) →
    (∀ (k : Nat) x, r.links[k]? = some x → nameB x.name = true ∧ inB (r.zones.map ZoneD.name) x.to_ = true) → (∀ (k : Nat) x, (r.zones.map ZoneD.name ++ r.links.map LinkD.name)[k]? = some x → inB ((r.zones.map ZoneD.name ++ r.links.map LinkD.name).take k) x = false) → relB r = true) := fun h0 h1 h2 h3 h4 => rel_all h0 h1 h2 h3 h4
  generalize relB r = rb at *
  subst hvv
  by_cases g40 : 40 < r.rules.length
  · have HR : Hid (rb = false) := N0 (by omega)
    clear N0 HN1 HN2 HN3 HN4 HY
    go_enter Tryz.func24, Tryz.ntmps24
    go_wp2
    go_ret
    exact ⟨ret_bool HR.out.symm, hB0⟩
  by_cases g12 : 12 < r.zones.length
  · have HR : Hid (rb = false) := N0 (by omega)
    clear N0 HN1 HN2 HN3 HN4 HY
    go_enter Tryz.func24, Tryz.ntmps24
    go_wp2
    go_ret
    exact ⟨ret_bool HR.out.symm, hB0⟩
  by_cases g20 : 20 < r.links.length
  · have HR : Hid (rb = false) := N0 (by omega)
    clear N0 HN1 HN2 HN3 HN4 HY
    go_enter Tryz.func24, Tryz.ntmps24
    go_wp2
    go_ret
    exact ⟨ret_bool HR.out.symm, hB0⟩
  clear N0
  have x0 : (w.alloc (.cells #[.slice a r.rules.length ca, .slice b r.zones.length cb, .slice c r.links.length cc] 27)).cell? ⟨w.heap.size, 0, none⟩ = some (.slice a r.rules.length ca) := by simp [go_sem]
  have y0 : (w.alloc (.cells #[.slice a r.rules.length ca, .slice b r.zones.length cb, .slice c r.links.length cc] 27)).cell? ⟨w.heap.size, 1, none⟩ = some (.slice b r.zones.length cb) := by simp [go_sem]
  have z0 : (w.alloc (.cells #[.slice a r.rules.length ca, .slice b r.zones.length cb, .slice c r.links.length cc] 27)).cell? ⟨w.heap.size, 2, none⟩ = some (.slice c r.links.length cc) := by simp [go_sem]
  have HL : Hid (r.rules.length ≤ 40 ∧ r.zones.length ≤ 12 ∧ r.links.length ≤ 20) := by simp only [Hid]; omega
  have hO0 := ownR_empty (w.alloc (.cells #[.slice a r.rules.length ca, .slice b r.zones.length cb, .slice c r.links.length cc] 27)) 9
  have hb00 := (Below.refl (w.alloc (.cells #[.slice a r.rules.length ca, .slice b r.zones.length cb, .slice c r.links.length cc] 27)).heap.size (w.alloc (.cells #[.slice a r.rules.length ca, .slice b r.zones.length cb, .slice c r.links.length cc] 27))).alloc (Nat.le_refl _) (.cells #[] 9)
  have hAr1 := hAr.below hB0
  have hAz1 := hAz.below hB0
  have hAl1 := hAl.below hB0
  have hv1 := hv.below hB0
  clear hAr hAz hAl hv
  have hW0 : Hid ((w.alloc (.cells #[.slice a r.rules.length ca, .slice b r.zones.length cb, .slice c r.links.length cc] 27)).heap.size = w.heap.size + 1) := by simp [Hid]
  go_enter Tryz.func24, Tryz.ntmps24
  go_wp2
  generalize hW : (w.alloc (.cells #[.slice a r.rules.length ca, .slice b r.zones.length cb, .slice c r.links.length cc] 27)) = W at *
  generalize hW1 : W.alloc (.cells #[] 9) = W1 at *
  go_loopw [4] (fun i wr => ∃ k : Nat, k ≤ r.rules.length ∧ i = .int .i64 k ∧ Hid (∀ j, j < k → ∀ x, r.rules[j]? = some x → ruleB x = true) ∧ Below W1.heap.size W1 wr) (fun i _ => r.rules.length - (intOf i).toNat)
  case atStart => exact ⟨0, by omega, rfl, fun j hj => by omega, by subst hW1; exact Below.refl _ _⟩
  case round =>
    obtain ⟨k, hk, rfl, hall, hB1⟩ := hrel
    have hB := hb00.trans (hB1.mono hb00.size)
    have hBB := hB0.trans (hB.mono hB0.size)
    have x1 := ((bcell hB).1 _ _ (World.block_lt_of_cell? _ _ x0)).trans x0
    have y1 := ((bcell hB).1 _ _ (World.block_lt_of_cell? _ _ y0)).trans y0
    have z1 := ((bcell hB).1 _ _ (World.block_lt_of_cell? _ _ z0)).trans z0
    by_cases hlt : k < r.rules.length
    · obtain ⟨x, hx⟩ : ∃ x, r.rules[k]? = some x := ⟨_, List.getElem?_eq_getElem hlt⟩
      obtain ⟨b', o, rfl, hc⟩ := (hAr1.below hB).at (i := k) (r := x.cs) (by rw [List.getElem?_map, hx]; rfl)
      have hS := fun w => spec_l02Rule x w (p2 x (List.mem_of_getElem? hx)) (hon x (List.mem_of_getElem? hx))
      have c0 : wr.cell? ⟨b', o + k * 9, none⟩ = some (.string x.name) := hc 0 _ rfl
      have c1 := hc 1 _ rfl
      have c2 := hc 2 _ rfl
      have c3 := hc 3 _ rfl
      have c4 := hc 4 _ rfl
      have c5 := hc 5 _ rfl
      have c6 := hc 6 _ rfl
      have c7 := hc 7 _ rfl
      have c8 := hc 8 _ rfl
      clear hc
      unfold RuleD.v at hS
      cases hb : ruleB x
      · have HR : Hid (rb = false) := HN1.out k x hx hb
        rw [hb] at hS
        clear hb HN1 HN2 HN3 HN4 HY
        go_wp2_with fail
        refine (hS _).mono ?_
        rintro e w2 ⟨rfl, hb2⟩
        go_wp2
        go_ret
        exact ⟨ret_bool HR.out.symm, hBB.trans (hb2.mono hBB.size)⟩
      · have HR : Hid (∀ j, j < k + 1 → ∀ x, r.rules[j]? = some x → ruleB x = true) := fun j hj y hy => by
          by_cases e : j = k
          · subst e; rw [hx] at hy; obtain rfl := Option.some.inj hy; exact hb
          · exact hall.out j (by omega) y hy
        rw [hb] at hS
        clear hb
        go_wp2_with fail
        refine (hS _).mono ?_
        rintro e w2 ⟨rfl, hb2⟩
        go_wp2
        go_roundw
        case rel => exact ⟨k + 1, by omega, by go_num, HR, hB1.trans (hb2.mono hB1.size)⟩
        case measure => simp [intOf]; omega
    · have e : k = r.rules.length := by omega
      subst e
      have H1 : Hid (∀ (k : Nat) x, r.rules[k]? = some x → ruleB x = true) := fun j x hx => hall.out j (List.getElem?_eq_some_iff.mp hx).1 x hx
      have hO1 := ownR_below hO0 hB1
      clear hall HN1
      go_wp2
      obtain ⟨wo, rfl⟩ : ∃ wo : World, wo = wr := ⟨_, rfl⟩
      go_loopw [3, 5] (fun s i wr => ∃ k : Nat, k ≤ r.zones.length ∧ i = .int .i64 k ∧ (∃ g cap, s = .slice (some ⟨g, 0, none⟩) k cap) ∧ wr.ownsRow W.heap.size 9 1 s k (((r.zones.map ZoneD.name).take k).map Value.string) ∧ Hid (∀ j, j < k → ∀ x, r.zones[j]? = some x → zoneMB r.rules x = true) ∧ Below W.heap.size W wr) (fun _ i _ => r.zones.length - (intOf i).toNat)
      case atStart => exact ⟨0, by omega, rfl, ⟨_, _, rfl⟩, by rw [← hW0.out]; exact hO1, fun j hj => by omega, hB⟩
      case round =>
        clear hO1 hO0 hB hBB x1 y1 z1 hB1
        obtain ⟨k, hk, rfl, hform, hO, hall, hB⟩ := hrel
        have hBB := hB0.trans (hB.mono hB0.size)
        have x1 := ((bcell hB).1 _ _ (World.block_lt_of_cell? _ _ x0)).trans x0
        have y1 := ((bcell hB).1 _ _ (World.block_lt_of_cell? _ _ y0)).trans y0
        have z1 := ((bcell hB).1 _ _ (World.block_lt_of_cell? _ _ z0)).trans z0
        by_cases hlt : k < r.zones.length
        · obtain ⟨x, hx⟩ : ∃ x, r.zones[k]? = some x := ⟨_, List.getElem?_eq_getElem hlt⟩
          obtain ⟨b', o, rfl, c0, u, c1, hu⟩ := (hAz1.below hB).at hx
          have okx := q2 x (List.mem_of_getElem? hx)
          have cE : ∀ dd os, Calls Tryz.prog 63 #[.agg #[.slice a r.rules.length ca, .slice (some ⟨b', o, none⟩) r.zones.length cb, .slice c r.links.length cc], .agg #[.string x.name, u]] (grow (redrawn wr dd) os) fun e w'' => e = .returned (.bool (zoneMB r.rules x)) ∧ ∃ p : Regrown, w'' = grow (redrawn wr p.d) p.os := fun dd os => Calls.regrown_of (spec_l02Zone r _ x u _ ((hv1.below hB).below (below_regrown wr dd os)) (hu.below (below_regrown wr dd os)) okx m1)
          obtain ⟨ae, ce, rfl, _⟩ := hu
          have kx := cell_regrown x1
          have ky := cell_regrown y1
          have kz := cell_regrown z1
          have kc0 := cell_regrown c0
          have kc1 := cell_regrown c1
          cases hb : zoneMB r.rules x
          · have HR : Hid (rb = false) := HN2.out k x hx hb
            rw [hb] at cE
            clear hb HN2 HN3 HN4 HY hform hO
            go_wp2_with fail
            refine wp_region_quiet_below (by kernel_rfl) (by kernel_rfl) ?_
            repeat (quiet_step ((go_at_call 63; exact cE _ _)))
            refine wpQuiet_nil ?_
            intro _ hw'
            obtain ⟨⟨dq, osq⟩, hw''⟩ := hw'
            subst hw''
            have hb2 := below_regrown wr dq osq
            go_wp2
            go_ret
            exact ⟨ret_bool HR.out.symm, hBB.trans (hb2.mono hBB.size)⟩
          · have HR : Hid (∀ j, j < k + 1 → ∀ x, r.zones[j]? = some x → zoneMB r.rules x = true) := fun j hj y hy => by
              by_cases e : j = k
              · subst e; rw [hx] at hy; obtain rfl := Option.some.inj hy; exact hb
              · exact hall.out j (by omega) y hy
            rw [hb] at cE
            have hs := takeN_succ (l := r.zones.map ZoneD.name) (k := k) (x := x.name) (by rw [List.getElem?_map, hx]; rfl)
            have HS : Hid (((r.zones.map ZoneD.name).take (k + 1)).map Value.string = ((r.zones.map ZoneD.name).take k).map Value.string ++ [.string x.name]) := hs
            clear hs hb hform
            go_wp2_with fail
            refine wp_region_quiet_below (by kernel_rfl) (by kernel_rfl) ?_
            repeat (quiet_step ((go_at_call 63; exact cE _ _)))
            refine wpQuiet_nil ?_
            intro V hw'
            obtain ⟨⟨dq, osq⟩, hw''⟩ := hw'
            have hb2 : Below wr.heap.size wr V := hw'' ▸ below_regrown wr dq osq
            clear hw'' kx ky kz kc0 kc1 cE
            have hB2 := hB.trans (hb2.mono hB.size)
            have hO2 := ownR_below hO hb2
            have x2 := ((bcell hb2).1 _ _ (World.block_lt_of_cell? _ _ x1)).trans x1
            have y2 := ((bcell hb2).1 _ _ (World.block_lt_of_cell? _ _ y1)).trans y1
            have d0 := ((bcell hb2).1 _ _ (World.block_lt_of_cell? _ _ c0)).trans c0
            have hsz := hB2.size
            clear hb2 hO x1 y1 z1 c0 c1
            generalize ((r.zones.map ZoneD.name).take k).map Value.string = xs at *
            go_wp2_with (first
              | (at_builtin; refine wpList_append_own _ rfl _ _ 81 rfl W.heap.size 9 i0 (.string ⟨#[]⟩) 1 16 Tryz.underlying81 hi hz0 hz1 hz2 rfl (by decide) _ _ _ rfl (hO2.alloc _) ⟨V.heap.size, 0, none⟩ 1 1 [.string x.name] rfl rfl ?c1 ?c2 ?c3 ?c4 ?c5 ?_)
              | fail)
            case c2 => rfl
            case c3 => unfold maxLen; omega
            case c4 => omega
            case c5 => omega
            · intro v' w3 hown' hgrow _
              have hB3 : Below W.heap.size W w3 := (hB2.alloc hsz _).grown hgrow (by simp; omega) (ownR_blk hO2)
              clear hgrow hO2
              go_wp2
              go_roundw
              case rel => exact ⟨k + 1, by omega, by go_num, ownR_some hown' (by omega), by rw [HS.out]; exact hown', HR, hB3⟩
              case measure => simp [intOf]; omega
        · have e : k = r.zones.length := by omega
          subst e
          have H2 : Hid (∀ (k : Nat) x, r.zones[k]? = some x → zoneMB r.rules x = true) := fun j x hx => hall.out j (List.getElem?_eq_some_iff.mp hx).1 x hx
          obtain ⟨g0, cap0, rfl⟩ := hform
          rw [List.take_of_length_le (by simp)] at hO
          clear hall HN2
          go_wp2
          obtain ⟨wo2, rfl⟩ : ∃ wo : World, wo = wr := ⟨_, rfl⟩
          go_loopw [3, 7] (fun s i wr => ∃ k : Nat, k ≤ r.links.length ∧ i = .int .i64 k ∧ (∃ g cap, s = .slice (some ⟨g, 0, none⟩) (r.zones.length + k) cap) ∧ wr.ownsRow W.heap.size 9 1 s (r.zones.length + k) ((r.zones.map ZoneD.name ++ (r.links.map LinkD.name).take k).map Value.string) ∧ Hid (∀ j, j < k → ∀ x, r.links[j]? = some x → nameB x.name = true ∧ inB (r.zones.map ZoneD.name) x.to_ = true) ∧ Below W.heap.size W wr) (fun _ i _ => r.links.length - (intOf i).toNat)
          case atStart => exact ⟨0, by omega, rfl, ⟨_, _, rfl⟩, by simpa using hO, fun j hj => by omega, hB⟩
          case round =>
            clear hO hB hBB x1 y1 z1
            obtain ⟨k, hk, rfl, ⟨g, cap, rfl⟩, hO, hall, hB⟩ := hrel
            have hBB := hB0.trans (hB.mono hB0.size)
            have x1 := ((bcell hB).1 _ _ (World.block_lt_of_cell? _ _ x0)).trans x0
            have y1 := ((bcell hB).1 _ _ (World.block_lt_of_cell? _ _ y0)).trans y0
            have z1 := ((bcell hB).1 _ _ (World.block_lt_of_cell? _ _ z0)).trans z0
            obtain ⟨hSt, hcap, hlen⟩ := ownR_strs hO
            have hStz := hSt.take r.zones.length
            rw [List.take_append_of_le_length (by simp), List.take_of_length_le (by simp)] at hStz
            by_cases hlt : k < r.links.length
            · obtain ⟨x, hx⟩ : ∃ x, r.links[k]? = some x := ⟨_, List.getElem?_eq_getElem hlt⟩
              obtain ⟨b', o, rfl, hc⟩ := (hAl1.below hB).at (i := k) (r := x.cs) (by rw [List.getElem?_map, hx]; rfl)
              have c0 : wr.cell? ⟨b', o + k * 2, none⟩ = some (.string x.to_) := hc 0 _ rfl
              have c1 := hc 1 _ rfl
              clear hc
              have okx := s2 x (List.mem_of_getElem? hx)
              have hN := fun w => spec_NameRight x.name w okx.2
              have hI := fun n => spec_l02In (r.zones.map ZoneD.name) (some ⟨g, 0, none⟩) cap x.to_ (wr.drewN n) (hStz.below (below_drewN (Below.refl _ _) n)) (by simp; omega)
              rw [List.length_map] at hI
              have j0 : (0 : Int) ≤ (r.zones.length : Int) := by omega
              have j1 : (r.zones.length : Int) ≤ (cap : Int) := by omega
              cases hb1 : nameB x.name
              · have HR : Hid (rb = false) := HN3.out k x hx (.inl hb1)
                rw [hb1] at hN
                clear hb1 HN3 HN4 HY
                go_wp2_with fail
                go_quiet ((first | (go_at_call 64; exact Calls.quiet_of_same (hN _)) | (go_at_call 65; exact Calls.quiet_of_same (hI _))))
                go_wp2
                go_ret
                exact ⟨ret_bool HR.out.symm, below_drewN hBB _⟩
              · rw [hb1] at hN
                cases hb2 : inB (r.zones.map ZoneD.name) x.to_
                · have HR : Hid (rb = false) := HN3.out k x hx (.inr hb2)
                  rw [hb2] at hI
                  clear hb1 hb2 HN3 HN4 HY
                  go_wp2_with fail
                  go_quiet ((first | (go_at_call 64; exact Calls.quiet_of_same (hN _)) | (go_at_call 65; exact Calls.quiet_of_same (hI _))))
                  go_wp2
                  go_ret
                  exact ⟨ret_bool HR.out.symm, below_drewN hBB _⟩
                · have HR : Hid (∀ j, j < k + 1 → ∀ x, r.links[j]? = some x → nameB x.name = true ∧ inB (r.zones.map ZoneD.name) x.to_ = true) := fun j hj y hy => by
                    by_cases e : j = k
                    · subst e; rw [hx] at hy; obtain rfl := Option.some.inj hy; exact ⟨hb1, hb2⟩
                    · exact hall.out j (by omega) y hy
                  rw [hb2] at hI
                  clear hb1 hb2
                  go_wp2_with fail
                  go_quiet ((first | (go_at_call 64; exact Calls.quiet_of_same (hN _)) | (go_at_call 65; exact Calls.quiet_of_same (hI _))))
                  obtain ⟨V, hV⟩ : ∃ V, V = wr.drewN nq := ⟨_, rfl⟩
                  rw [← hV]
                  have hb2 : Below wr.heap.size wr V := hV ▸ below_drewN (Below.refl _ _) _
                  clear hV hI hN hSt hStz
                  have hB2 := hB.trans (hb2.mono hB.size)
                  have hO2 := ownR_below hO hb2
                  have z2 := ((bcell hb2).1 _ _ (World.block_lt_of_cell? _ _ z1)).trans z1
                  have d1 := ((bcell hb2).1 _ _ (World.block_lt_of_cell? _ _ c1)).trans c1
                  have hsz := hB2.size
                  have hs := takeN_succ (l := r.links.map LinkD.name) (k := k) (x := x.name) (by rw [List.getElem?_map, hx]; rfl)
                  have HS : Hid ((r.zones.map ZoneD.name ++ (r.links.map LinkD.name).take (k + 1)).map Value.string = (r.zones.map ZoneD.name ++ (r.links.map LinkD.name).take k).map Value.string ++ [.string x.name]) := by
                    simp only [Hid]; rw [List.map_append, hs, ← List.append_assoc, ← List.map_append]
                  clear hs hb2 hO x1 y1 z1 c0 c1 hlen
                  generalize (r.zones.map ZoneD.name ++ (r.links.map LinkD.name).take k).map Value.string = xs at *
                  obtain ⟨n, hn⟩ : ∃ n, n = r.zones.length + k := ⟨_, rfl⟩
                  have HNN : Hid (r.zones.length + (k + 1) = n + 1) := by simp only [Hid]; omega
                  have hn2 : n ≤ 2097152 := by omega
                  rw [← hn] at hO2 ⊢
                  clear hn
                  go_wp2_with (first
                    | (at_builtin; refine wpList_append_own _ rfl _ _ 81 rfl W.heap.size 9 i0 (.string ⟨#[]⟩) 1 16 Tryz.underlying81 hi hz0 hz1 hz2 rfl (by decide) _ _ _ rfl (hO2.alloc _) ⟨V.heap.size, 0, none⟩ 1 1 [.string x.name] rfl rfl ?d1 ?d2 ?d3 ?d4 ?d5 ?_)
                    | fail)
                  case d2 => rfl
                  case d3 => unfold maxLen; omega
                  case d4 => omega
                  case d5 => omega
                  · intro v' w3 hown' hgrow _
                    have hB3 : Below W.heap.size W w3 := (hB2.alloc hsz _).grown hgrow (by simp; omega) (ownR_blk hO2)
                    clear hgrow hO2
                    go_wp2
                    go_roundw
                    case rel => exact ⟨k + 1, by omega, by go_num, by rw [HNN.out]; exact ownR_some hown' (by omega), by rw [HS.out, HNN.out]; exact hown', HR, hB3⟩
                    case measure => simp [intOf]; omega
            · have e : k = r.links.length := by omega
              subst e
              have H3 : Hid (∀ (k : Nat) x, r.links[k]? = some x → nameB x.name = true ∧ inB (r.zones.map ZoneD.name) x.to_ = true) := fun j x hx => hall.out j (List.getElem?_eq_some_iff.mp hx).1 x hx
              have HYY : Hid ((∀ (k : Nat) x, (r.zones.map ZoneD.name ++ r.links.map LinkD.name)[k]? = some x → inB ((r.zones.map ZoneD.name ++ r.links.map LinkD.name).take k) x = false) → rb = true) := fun h4 => HY.out HL.out H1.out H2.out H3.out h4
              rw [List.take_of_length_le (by simp)] at hSt hlen
              clear hall HN3 HY HL H1 H2 H3 hStz hO hW0 hW1
              generalize r.zones.map ZoneD.name ++ r.links.map LinkD.name = ns at *
              have hn2 : ns.length ≤ 1048576 := by omega
              rw [← hlen]
              rw [← hlen] at hcap
              clear hlen
              go_wp2
              obtain ⟨wo3, rfl⟩ : ∃ wo : World, wo = wr := ⟨_, rfl⟩
              go_loopw [8] (fun i wr => ∃ k : Nat, k ≤ ns.length ∧ i = .int .i64 k ∧ Hid (∀ j, j < k → ∀ x, ns[j]? = some x → inB (ns.take j) x = false) ∧ Below wo3.heap.size wo3 wr) (fun i _ => ns.length - (intOf i).toNat)
              case atStart => exact ⟨0, by omega, rfl, fun j hj => by omega, Below.refl _ _⟩
              case round =>
                obtain ⟨k, hk, rfl, hall, hB4⟩ := hrel
                have hSw := hSt.below hB4
                have hBE := hBB.trans (hB4.mono hBB.size)
                by_cases hlt : k < ns.length
                · obtain ⟨x, hx⟩ : ∃ x, ns[k]? = some x := ⟨_, List.getElem?_eq_getElem hlt⟩
                  obtain ⟨b', o', he, c0⟩ := hSw.at hx
                  injection he with he
                  injection he with u1 u2
                  subst u1 u2
                  rw [Nat.zero_add] at c0
                  have hI := fun n => spec_l02In (ns.take k) (some ⟨g, 0, none⟩) cap x (wr.drewN n) ((hSw.take k).below (below_drewN (Below.refl _ _) n)) (by rw [List.length_take]; omega)
                  rw [List.length_take, Nat.min_eq_left (by omega)] at hI
                  have j0 : (0 : Int) ≤ (k : Int) := by omega
                  have j1 : (k : Int) ≤ (cap : Int) := by omega
                  have j2 : (k : Int) < (ns.length : Int) := by omega
                  cases hb : inB (ns.take k) x
                  · have HR : Hid (∀ j, j < k + 1 → ∀ x, ns[j]? = some x → inB (ns.take j) x = false) := fun j hj y hy => by
                      by_cases e : j = k
                      · subst e; rw [hx] at hy; obtain rfl := Option.some.inj hy; exact hb
                      · exact hall.out j (by omega) y hy
                    rw [hb] at hI
                    clear hb
                    go_wp2_with fail
                    go_quiet ((go_at_call 65; exact Calls.quiet_of_same (hI _)))
                    go_wp2
                    go_roundw
                    case rel => exact ⟨k + 1, by omega, by go_num, HR, below_drewN hB4 _⟩
                    case measure => simp [intOf]; omega
                  · have HR : Hid (rb = false) := HN4.out k x hx hb
                    rw [hb] at hI
                    clear hb
                    go_wp2_with fail
                    go_quiet ((go_at_call 65; exact Calls.quiet_of_same (hI _)))
                    go_wp2
                    go_ret
                    exact ⟨ret_bool HR.out.symm, below_drewN hBE _⟩
                · have e : k = ns.length := by omega
                  subst e
                  have HR : Hid (rb = true) := HYY.out fun j x hx => hall.out j (List.getElem?_eq_some_iff.mp hx).1 x hx
                  go_wp2
                  go_ret
                  exact ⟨ret_bool HR.out.symm, hBE⟩
end Go.Proofs.YtjdokmllidhapaaGreatDoor
