/- What the model asks of a zone and of the links, and that it is what the program asks, where the rules are right. -/
import Derived.Test.YtjdokmllidhapaaGreatDoorRight13
namespace Go.Proofs.YtjdokmllidhapaaGreatDoor
open Go.RowKit

theorem hasB_name {rs : List RuleD} {s : ByteArray} (hr : rs.all ruleB = true) (h : hasB rs s = true) : nameB s = true := by
  unfold hasB at h
  obtain ⟨x, hx, he⟩ := List.any_eq_true.mp h
  have h1 := List.all_eq_true.mp hr x hx
  unfold ruleB at h1
  simp only [Bool.and_eq_true] at h1
  have e : x.name = s := toList_inj (beq_iff_eq.mp he)
  rw [← e]; exact h1.1
theorem era_same {rs : List RuleD} (hr : rs.all ruleB = true) (e : EraD) : (eraP e = true ∧ thereB rs e = true) ↔ eraM rs e = true := by
  unfold eraP thereB eraM erB isB
  cases he : e.rules.toList.isEmpty
  · cases hh : hasB rs e.rules
    · simp
    · have hn := hasB_name hr hh
      rw [hn]
      simp only [Bool.and_eq_true, decide_eq_true_eq, Bool.or_eq_true, Bool.false_eq_true, if_false, false_or, true_and, and_true]
      constructor
      · rintro ⟨a, b, c, d, f, g, h⟩
        exact ⟨c, ⟨a, b⟩, by omega, d, ⟨f, g⟩, h⟩
      · rintro ⟨c, ⟨a, b⟩, _, d, ⟨f, g⟩, h⟩
        exact ⟨a, b, c, d, f, g, h⟩
  · simp only [Bool.and_eq_true, decide_eq_true_eq, Bool.or_eq_true, if_true, true_or, true_and, and_true]
    constructor
    · rintro ⟨a, b, c, d, f, g, h⟩
      exact ⟨⟨a, b⟩, c, d, ⟨f, g⟩, h⟩
    · rintro ⟨⟨a, b⟩, c, d, ⟨f, g⟩, h⟩
      exact ⟨a, b, c, d, f, g, h⟩
/-- what is asked of the era at a place. -/
structure StepM (rs : List RuleD) (es : List EraD) (k : Nat) (e : EraD) : Prop where
  era : eraM rs e = true
  up : ∀ j p, k = j + 1 → es[j]? = some p → p.until_ < e.until_
  last : e.until_ = 253402300799 ↔ k + 1 = es.length
  of : k + 1 = es.length → e.of.toList = [119]
structure ZoneM (rs : List RuleD) (z : ZoneD) : Prop where
  name : nameB z.name = true
  len : 1 ≤ z.eras.length ∧ z.eras.length ≤ 8
  steps : ∀ k e, z.eras[k]? = some e → StepM rs z.eras k e
theorem up_of {es : List EraD} (h : upB es = true) {i : Nat} {x y : EraD} (hx : es[i]? = some x) (hy : es[i + 1]? = some y) : x.until_ < y.until_ := by
  by_cases hn : x.until_ < y.until_
  · exact hn
  · rw [up_no hx hy hn] at h; cases h
theorem eraM_until {rs : List RuleD} {e : EraD} (h : eraM rs e = true) : e.until_ ≤ 253402300799 := by
  unfold eraM isB at h
  simp only [Bool.and_eq_true, decide_eq_true_eq] at h
  exact h.2.2.2.2.1.2
theorem zone_same {rs : List RuleD} (hr : rs.all ruleB = true) (z : ZoneD) : (zoneP z = true ∧ z.eras.all (thereB rs) = true) ↔ ZoneM rs z := by
  obtain ⟨nm, es⟩ := z
  unfold zoneP
  simp only [Bool.and_eq_true, decide_eq_true_eq]
  constructor
  · rintro ⟨⟨h1, h2, h3, h4, h5⟩, h6⟩
    have hE : ∀ k e, es[k]? = some e → eraM rs e = true := fun k e hk => (era_same hr e).mp ⟨List.all_eq_true.mp h3 e (List.mem_of_getElem? hk), List.all_eq_true.mp h6 e (List.mem_of_getElem? hk)⟩
    have hla : ∀ k e, es[k]? = some e → k + 1 = es.length → e.until_ = 253402300799 ∧ e.of.toList = [119] := by
      intro k e hk hl
      unfold laB2 at h5
      rw [show es.length - 1 = k by omega, hk] at h5
      simp only [Bool.and_eq_true, beq_iff_eq] at h5
      exact h5
    refine ⟨h1, h2, fun k e hk => ⟨hE k e hk, ?_, ⟨fun hu => ?_, fun hl => (hla k e hk hl).1⟩, fun hl => (hla k e hk hl).2⟩⟩
    · rintro j p rfl hp
      exact up_of h4 hp hk
    · have hkl : k < es.length := (List.getElem?_eq_some_iff.mp hk).1
      by_cases hl : k + 1 = es.length
      · exact hl
      · obtain ⟨y, hy⟩ : ∃ y, es[k + 1]? = some y := ⟨_, List.getElem?_eq_getElem (by omega)⟩
        have := up_of h4 hk hy
        have := eraM_until (hE _ y hy)
        omega
  · rintro ⟨h1, h2, hs⟩
    simp only at h1 h2 hs
    have hE : ∀ e ∈ es, eraP e = true ∧ thereB rs e = true := fun e he => by
      obtain ⟨k, hk⟩ := List.getElem?_of_mem he
      exact (era_same hr e).mpr (hs k e hk).era
    refine ⟨⟨h1, h2, List.all_eq_true.mpr fun e he => (hE e he).1, up_yes fun i x y hx hy => (hs _ y hy).up i x rfl hx, ?_⟩, List.all_eq_true.mpr fun e he => (hE e he).2⟩
    obtain ⟨y, hy⟩ : ∃ y, es[es.length - 1]? = some y := ⟨_, List.getElem?_eq_getElem (by omega)⟩
    have hS := hs _ y hy
    unfold laB2
    rw [hy]
    simp only [Bool.and_eq_true, beq_iff_eq]
    exact ⟨hS.last.mpr (by omega), hS.of (by omega)⟩
end Go.Proofs.YtjdokmllidhapaaGreatDoor
namespace Go.Proofs.YtjdokmllidhapaaGreatDoor
open Go.RowKit

def stepMB (rs : List RuleD) (es : List EraD) (k : Nat) (e : EraD) : Bool :=
  eraM rs e && ((k == 0) || (match es[k - 1]? with | some p => decide (p.until_ < e.until_) | none => true)) && (decide (e.until_ = 253402300799) == decide (k + 1 = es.length)) && (!decide (k + 1 = es.length) || e.of.toList == [119])
theorem stepMB_iff {rs : List RuleD} {es : List EraD} {k : Nat} {e : EraD} : stepMB rs es k e = true ↔ StepM rs es k e := by
  unfold stepMB
  simp only [Bool.and_eq_true, Bool.or_eq_true, beq_iff_eq, Bool.not_eq_true', decide_eq_false_iff_not, decide_eq_decide]
  constructor
  · rintro ⟨⟨⟨h1, h2⟩, h3⟩, h4⟩
    refine ⟨h1, ?_, h3, ?_⟩
    · rintro j p rfl hp
      rcases h2 with h2 | h2
      · omega
      · rw [show j + 1 - 1 = j by omega, hp] at h2
        exact of_decide_eq_true h2
    · intro hk
      rcases h4 with h4 | h4
      · exact absurd hk h4
      · exact h4
  · rintro ⟨h1, h2, h3, h4⟩
    refine ⟨⟨⟨h1, ?_⟩, h3⟩, ?_⟩
    · by_cases hk : k = 0
      · exact .inl hk
      · refine .inr ?_
        cases hp : es[k - 1]? with
        | none => rfl
        | some p => exact decide_eq_true (h2 (k - 1) p (by omega) hp)
    · by_cases hk : k + 1 = es.length
      · exact .inr (h4 hk)
      · exact .inl hk
def zoneMB (rs : List RuleD) (z : ZoneD) : Bool :=
  nameB z.name && decide (1 ≤ z.eras.length ∧ z.eras.length ≤ 8) && (List.range z.eras.length).all fun k => match z.eras[k]? with | some e => stepMB rs z.eras k e | none => true
theorem zoneMB_iff {rs : List RuleD} {z : ZoneD} : zoneMB rs z = true ↔ ZoneM rs z := by
  unfold zoneMB
  simp only [Bool.and_eq_true, decide_eq_true_eq, List.all_eq_true, List.mem_range]
  constructor
  · rintro ⟨⟨h1, h2⟩, h3⟩
    refine ⟨h1, h2, fun k e hk => ?_⟩
    have := h3 k (List.getElem?_eq_some_iff.mp hk).1
    rw [hk] at this
    exact stepMB_iff.mp this
  · rintro ⟨h1, h2, h3⟩
    refine ⟨⟨h1, h2⟩, fun k hk => ?_⟩
    cases he : z.eras[k]? with
    | none => rfl
    | some e => exact stepMB_iff.mpr (h3 k e he)
theorem zoneM_no {rs : List RuleD} {z : ZoneD} (h : ¬ ZoneM rs z) : zoneMB rs z = false := by
  cases hb : zoneMB rs z
  · rfl
  · exact absurd (zoneMB_iff.mp hb) h
theorem zoneM_yes {rs : List RuleD} {z : ZoneD} (h : ZoneM rs z) : zoneMB rs z = true := zoneMB_iff.mpr h
end Go.Proofs.YtjdokmllidhapaaGreatDoor
namespace Go.Proofs.YtjdokmllidhapaaGreatDoor
open Go.RowKit

theorem hasZ_name {zs : List ZoneD} {s : ByteArray} (hz : ∀ z ∈ zs, nameB z.name = true) (h : hasZ zs s = true) : nameB s = true := by
  unfold hasZ at h
  obtain ⟨x, hx, he⟩ := List.any_eq_true.mp h
  rw [← toList_inj (beq_iff_eq.mp he)]
  exact hz x hx
theorem links_same {zs : List ZoneD} {ls : List LinkD} (hz : ∀ z ∈ zs, nameB z.name = true) : (ls.all linkB = true ∧ (ls.all fun x => hasZ zs x.to_) = true) ↔ ∀ x ∈ ls, nameB x.name = true ∧ hasZ zs x.to_ = true := by
  simp only [List.all_eq_true]
  unfold linkB
  simp only [Bool.and_eq_true]
  constructor
  · rintro ⟨h1, h2⟩ x hx
    exact ⟨(h1 x hx).2, h2 x hx⟩
  · intro h
    exact ⟨fun x hx => ⟨hasZ_name hz (h x hx).2, (h x hx).1⟩, fun x hx => (h x hx).2⟩
/-- the zones of a release, where its rules are right: what the program asks is what the model asks. -/
theorem zones_same {rs : List RuleD} {zs : List ZoneD} (hr : rs.all ruleB = true) : (zs.all zoneP = true ∧ (zs.all fun z => z.eras.all (thereB rs)) = true) ↔ ∀ z ∈ zs, ZoneM rs z := by
  simp only [List.all_eq_true (l := zs)]
  exact ⟨fun h z hz => (zone_same hr z).mp ⟨h.1 z hz, h.2 z hz⟩, fun h => ⟨fun z hz => ((zone_same hr z).mpr (h z hz)).1, fun z hz => ((zone_same hr z).mpr (h z hz)).2⟩⟩
end Go.Proofs.YtjdokmllidhapaaGreatDoor
