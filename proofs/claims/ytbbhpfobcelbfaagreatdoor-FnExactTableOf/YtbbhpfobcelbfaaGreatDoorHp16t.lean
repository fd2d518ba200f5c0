/- What happens by the rules of a name, at an offset: the model's HapsOf, of any arguments. -/
import Derived.Test.YtbbhpfobcelbfaaGreatDoorHp6t
import Derived.Test.YtbbhpfobcelbfaaGreatDoorRightWt
namespace Go.Proofs.YtbbhpfobcelbfaaGreatDoor
open Go.RowKit

/-- is it asked rightly? -/
def askB (r : RelD) (nm : ByteArray) (off : Int) : Bool := decide (nm.size ≤ 8000) && (relB r && isB off (-86400) 86400)
/-- what is told. -/
def HapsF (r : RelD) (nm : ByteArray) (off : Int) (H : List HapD) : Prop := (askB r nm off = true ∧ ∃ b, HapsR r nm off H b) ∨ (askB r nm off = false ∧ H = [])
theorem ask_no1 {r : RelD} {nm : ByteArray} {off : Int} (h : ¬ nm.size ≤ 8000) : askB r nm off = false := by unfold askB; rw [decide_eq_false h]; rfl
theorem ask_no2 {r : RelD} {nm : ByteArray} {off : Int} (h : relB r = false) : askB r nm off = false := by unfold askB; rw [h]; simp
theorem ask_no3 {r : RelD} {nm : ByteArray} {off : Int} (h : isB off (-86400) 86400 = false) : askB r nm off = false := by unfold askB; rw [h]; simp
theorem ask_yes {r : RelD} {nm : ByteArray} {off : Int} (h1 : nm.size ≤ 8000) (h2 : relB r = true) (h3 : isB off (-86400) 86400 = true) : askB r nm off = true := by unfold askB; rw [decide_eq_true h1, h2, h3]; rfl
theorem rel_rules {r : RelD} (h : relB r = true) : r.rules.length ≤ 40 ∧ ∀ x ∈ r.rules, ruleB x = true := by
  unfold relB at h
  simp only [Bool.and_eq_true, decide_eq_true_eq, List.all_eq_true] at h
  exact ⟨h.1.1, h.2.1⟩
set_option maxRecDepth 20000 in
set_option maxHeartbeats 2000000 in
theorem spec_HapsOf (r : RelD) (v : Value) (nm : ByteArray) (off : Int) (w : World) (hv : RelAt w v r) (ok : r.ok) (sm : r.small) (hon : ∀ x ∈ r.rules, x.on.size ≤ 1048576) (hm : nm.size ≤ maxLen) :
    Calls Tryz.prog 9 #[v, .string nm, .int .i64 off] w fun e W' => ∃ v' H, e = .returned v' ∧ OwnsH W' w.heap.size v' H ∧ HapsF r nm off H ∧ Below w.heap.size w W' := by
  unfold maxLen at hm
  obtain ⟨a, b, c, ca, cb, cc, rfl, hA, hAb, hAc⟩ := hv.form
  have hv : RelAt w (.agg #[.slice a r.rules.length ca, .slice b r.zones.length cb, .slice c r.links.length cc]) r := ⟨⟨a, b, c, ca, cb, cc, rfl, hA, hAb, hAc⟩⟩
  clear hA hAb hAc
  have hB0 := (Below.refl w.heap.size w).alloc (Nat.le_refl _) (.cells #[.slice a r.rules.length ca, .slice b r.zones.length cb, .slice c r.links.length cc] 27)
  have hE : ∀ w1 : World, w.heap.size ≤ w1.heap.size → OwnsH (w1.alloc (.cells #[] 36)) w.heap.size (.slice (some ⟨w1.heap.size, 0, none⟩) 0 0) [] := fun w1 h => owns_mono (own_empty w1 36 3) h
  by_cases h1 : nm.size ≤ 8000
  · have hR := fun w (h : RelAt w (.agg #[.slice a r.rules.length ca, .slice b r.zones.length cb, .slice c r.links.length cc]) r) => spec_ReleaseRight r _ w h ok sm hon
    have g1 : ¬ (8000 : Int) < (nm.size : Int) := by omega
    have x0 : ∀ j c', #[Value.slice a r.rules.length ca, .slice b r.zones.length cb, .slice c r.links.length cc].toList[j]? = some c' → (w.alloc (.cells #[.slice a r.rules.length ca, .slice b r.zones.length cb, .slice c r.links.length cc] 27)).cell? ⟨w.heap.size, j, none⟩ = some c' := fun j c' h => by
      have := World.news_of_block (heap_alloc_new w (.cells #[.slice a r.rules.length ca, .slice b r.zones.length cb, .slice c r.links.length cc] 27)) j c' h
      rw [addP, Nat.zero_add] at this
      exact this
    cases h2 : relB r
    · have HR : Hid (HapsF r nm off []) := .inr ⟨ask_no2 h2, rfl⟩
      rw [h2] at hR
      clear h2
      go_enter Tryz.func9, Tryz.ntmps9
      go_wp2_with fail
      refine (hR _ (hv.below hB0)).mono ?_
      rintro e w1 ⟨rfl, hb1⟩
      have hB1 := hB0.trans (hb1.mono (by simp))
      go_wp2
      go_ret
      exact ⟨_, [], rfl, hE w1 hB1.size, HR.out, hB1.alloc hB1.size _⟩
    · have hl := rel_rules h2
      have HQ : Hid (isB off (-86400) 86400 = true → askB r nm off = true) := fun h => ask_yes h1 h2 h
      rw [h2] at hR
      clear h2
      cases h3 : isB off (-86400) 86400
      · have HR : Hid (HapsF r nm off []) := .inr ⟨ask_no3 h3, rfl⟩
        have hI := fun w => h3 ▸ spec_l01Is off (-86400) 86400 w
        clear h3
        go_enter Tryz.func9, Tryz.ntmps9
        go_wp2_with fail
        refine (hR _ (hv.below hB0)).mono ?_
        rintro e w1 ⟨rfl, hb1⟩
        have hB1 := hB0.trans (hb1.mono (by simp))
        go_wp2_with fail
        refine (hI _).mono ?_
        rintro e wz ⟨rfl, hwz⟩
        have hwz := hwz.symm
        subst hwz
        go_wp2
        go_ret
        exact ⟨_, [], rfl, hE w1 hB1.size, HR.out, hB1.alloc hB1.size _⟩
      · have hI := fun w => h3 ▸ spec_l01Is off (-86400) 86400 w
        have HA : Hid (askB r nm off = true) := HQ.out h3
        have hH := fun w (h : RelAt w (.agg #[.slice a r.rules.length ca, .slice b r.zones.length cb, .slice c r.links.length cc]) r) => spec_l03Haps r _ nm off w h hl.2 hl.1 hon (isB_of_t h3).1 (isB_of_t h3).2
        have y0 := x0 0 _ rfl
        have y1 := x0 1 _ rfl
        have y2 := x0 2 _ rfl
        clear h3 x0
        go_enter Tryz.func9, Tryz.ntmps9
        go_wp2_with fail
        refine (hR _ (hv.below hB0)).mono ?_
        rintro e w1 ⟨rfl, hb1⟩
        have hB1 := hB0.trans (hb1.mono (by simp))
        have z0 := keepC hb1 y0
        have z1 := keepC hb1 y1
        have z2 := keepC hb1 y2
        go_wp2_with fail
        refine (hI _).mono ?_
        rintro e wz ⟨rfl, hwz⟩
        have hwz := hwz.symm
        subst hwz
        go_wp2_with fail
        refine (hH _ (hv.below hB1)).mono ?_
        rintro e w2 ⟨v2, H, bb, rfl, hO, hHR, hb2⟩
        have hB2 := hB1.trans (hb2.mono hB1.size)
        have HR : Hid (HapsF r nm off H) := .inl ⟨HA.out, bb, hHR⟩
        have HO : Hid (OwnsH w2 w.heap.size v2 H) := owns_mono hO hB1.size
        obtain ⟨a7, m7, d7, rfl⟩ := row_shape3 hO
        clear hO hHR hb2 hH hR
        go_wp2
        go_ret
        exact ⟨_, H, rfl, HO.out, HR.out, hB2⟩
  · have HR : Hid (HapsF r nm off []) := .inr ⟨ask_no1 h1, rfl⟩
    have g1 : (8000 : Int) < (nm.size : Int) := by omega
    clear h1
    go_enter Tryz.func9, Tryz.ntmps9
    go_wp2
    go_ret
    exact ⟨_, [], rfl, by simpa using hE _ hB0.size, HR.out, hB0.alloc hB0.size _⟩
end Go.Proofs.YtbbhpfobcelbfaaGreatDoor
