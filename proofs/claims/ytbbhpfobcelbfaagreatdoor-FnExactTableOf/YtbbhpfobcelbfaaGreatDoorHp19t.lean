/- What happens by the rules of a name, at an offset: the program's HapsOf, of any arguments. -/
import Derived.Test.YtbbhpfobcelbfaaGreatDoorMapPt
import Derived.Test.YtbbhpfobcelbfaaGreatDoorHpRt
import Derived.Test.YtbbhpfobcelbfaaGreatDoorHp16t
import Derived.Test.YtbbhpfobcelbfaaGreatDoorHp17t
namespace Go.Proofs.YtbbhpfobcelbfaaGreatDoor
open Go.RowKit

/-- what the program tells. -/
def HapsG (r : RelD) (nm : ByteArray) (off : Int) (H : List HapD) : Prop := (askB r nm off = true ∧ ∃ b, HapsA (ofName r.rules nm) off H b) ∨ (askB r nm off = false ∧ H = [])
theorem haps_one {r : RelD} {nm : ByteArray} {off : Int} {H1 H2 : List HapD} (h1 : HapsG r nm off H1) (h2 : HapsF r nm off H2) : H1 = H2 := by
  rcases h1 with ⟨a1, b1, c1⟩ | ⟨a1, rfl⟩
  · rcases h2 with ⟨_, b2, c2⟩ | ⟨a2, _⟩
    · exact (haps_same c1 c2).1
    · rw [a1] at a2; cases a2
  · rcases h2 with ⟨a2, _⟩ | ⟨_, rfl⟩
    · rw [a1] at a2; cases a2
    · rfl
theorem haps_len {r : RelD} {nm : ByteArray} {off : Int} {H : List HapD} (h : HapsG r nm off H) : H.length ≤ 2000 := by
  rcases h with ⟨ha, b, hh⟩ | ⟨_, rfl⟩
  · rcases hh with ⟨g, _, P, _, hp, rfl⟩ | ⟨_, _, rfl⟩
    · have := foldH_len (off := off) (s := P) (l := ofName r.rules nm) (fun m hm => wallsA_lt (hp.mem_iff.mp hm)) P.length (Nat.le_refl _)
      rw [List.take_length] at this
      rw [this, hp.length_eq]
      exact g
    · simp
  · simp
theorem ruleCs_len {P : List RuleD} : ∀ r ∈ P.map RuleD.cs, r.length = 9 := fun r hr => by
  obtain ⟨x, _, rfl⟩ := List.mem_map.mp hr
  rfl
theorem ruleB_on {x : RuleD} (h : ruleB x = true) : onB x.on = true ∧ x.name.size ≤ 20 := by
  unfold ruleB at h
  simp only [Bool.and_eq_true] at h
  obtain ⟨hn, _, _, _, ho, _⟩ := h
  exact ⟨ho, (nameB_t hn).2.1⟩
set_option maxRecDepth 20000 in
set_option maxHeartbeats 4000000 in
theorem impl_HapsOf (r : RelD) (v : Value) (nm : ByteArray) (off : Int) (w : World) (hE : EnvZ w) (hv : RelAt w v r) (ok : r.ok) (sm : r.small) (hon : ∀ x ∈ r.rules, x.on.size ≤ 1048576) (hm : nm.size ≤ maxLen) :
    Calls Tryz.prog 8 #[v, .string nm, .int .i64 off] w fun e W' => ∃ v' H, e = .returned v' ∧ OwnsH W' w.heap.size v' H ∧ HapsG r nm off H ∧ Below w.heap.size w W' := by
  unfold maxLen at hm
  obtain ⟨a, b, c, ca, cb, cc, rfl, hA, hAb, hAc⟩ := hv.form
  have hv : RelAt w (.agg #[.slice a r.rules.length ca, .slice b r.zones.length cb, .slice c r.links.length cc]) r := ⟨⟨a, b, c, ca, cb, cc, rfl, hA, hAb, hAc⟩⟩
  clear hAb hAc
  have hB0 := (Below.refl w.heap.size w).alloc (Nat.le_refl _) (.cells #[.slice a r.rules.length ca, .slice b r.zones.length cb, .slice c r.links.length cc] 27)
  by_cases h1 : nm.size ≤ 8000
  · have g1 : ¬ (8000 : Int) < (nm.size : Int) := by omega
    by_cases o1 : off < -86400
    · have HR : Hid (HapsG r nm off []) := .inr ⟨ask_no3 (isB_f (by omega)), rfl⟩
      go_enter Tryz.func8, Tryz.ntmps8
      go_wp2
      go_ret
      first
        | exact ⟨_, [], rfl, World.ownsRow_nil _ _ _ _, HR.out, hB0⟩
        | exact ⟨_, rfl, [], World.ownsRow_nil _ _ _ _, HR.out, hB0⟩
    by_cases o2 : 86400 < off
    · have HR : Hid (HapsG r nm off []) := .inr ⟨ask_no3 (isB_f (by omega)), rfl⟩
      go_enter Tryz.func8, Tryz.ntmps8
      go_wp2
      go_ret
      first
        | exact ⟨_, [], rfl, World.ownsRow_nil _ _ _ _, HR.out, hB0⟩
        | exact ⟨_, rfl, [], World.ownsRow_nil _ _ _ _, HR.out, hB0⟩
    have h3 : isB off (-86400) 86400 = true := isB_t (by omega) (by omega)
    have hR := fun w hE (h : RelAt w (.agg #[.slice a r.rules.length ca, .slice b r.zones.length cb, .slice c r.links.length cc]) r) => impl_ReleaseRight r _ w hE h ok sm hon
    have x0 : (w.alloc (.cells #[.slice a r.rules.length ca, .slice b r.zones.length cb, .slice c r.links.length cc] 27)).cell? ⟨w.heap.size, 0, none⟩ = some (.slice a r.rules.length ca) := by simp [go_sem]
    have x1 : (w.alloc (.cells #[.slice a r.rules.length ca, .slice b r.zones.length cb, .slice c r.links.length cc] 27)).cell? ⟨w.heap.size, 1, none⟩ = some (.slice b r.zones.length cb) := by simp [go_sem]
    have x2 : (w.alloc (.cells #[.slice a r.rules.length ca, .slice b r.zones.length cb, .slice c r.links.length cc] 27)).cell? ⟨w.heap.size, 2, none⟩ = some (.slice c r.links.length cc) := by simp [go_sem]
    cases h2 : relB r
    · have HR : Hid (HapsG r nm off []) := .inr ⟨ask_no2 h2, rfl⟩
      rw [h2] at hR
      clear h2 h3
      go_enter Tryz.func8, Tryz.ntmps8
      go_wp2_with fail
      refine (hR _ (hE.of_below hB0) (hv.below hB0)).mono ?_
      rintro e w1 ⟨rfl, hb1⟩
      have hB1 := hB0.trans (hb1.mono (by simp))
      go_wp2
      go_ret
      first
        | exact ⟨_, [], rfl, World.ownsRow_nil _ _ _ _, HR.out, hB1⟩
        | exact ⟨_, rfl, [], World.ownsRow_nil _ _ _ _, HR.out, hB1⟩
    · have hl := rel_rules h2
      have HA : Hid (askB r nm off = true) := ask_yes h1 h2 h3
      rw [h2] at hR
      have HL : Hid (∀ x ∈ r.rules, ruleB x = true) := hl.2
      have hl1 := hl.1
      have hN := fun w (h : SeqAt w a 9 (r.rules.map RuleD.cs)) => impl_rulesByName r.rules a ca w h hl1 (fun x hx => by have := (ruleB_on (HL.out x hx)).2; unfold maxLen; omega)
      have hmem : ∀ x ∈ ofName r.rules nm, ruleB x = true := fun x hx => HL.out x (List.mem_filter.mp hx).1
      have hH := fun a ca w (h : SeqAt w a 9 ((ofName r.rules nm).map RuleD.cs)) (hE : EnvZ w) => impl_hapsAt (ofName r.rules nm) a ca off w h hE.1 hE.2 (fun x hx => rule_r (hmem x hx)) (Nat.le_trans (List.length_filter_le _ _) hl1) (fun x hx => on_short (ruleB_on (hmem x hx)).1) (by omega) (by omega)
      clear h2 h3 hl hmem
      go_enter Tryz.func8, Tryz.ntmps8
      go_wp2_with fail
      refine (hR _ (hE.of_below hB0) (hv.below hB0)).mono ?_
      rintro e w1 ⟨rfl, hb1⟩
      have hB1 := hB0.trans (hb1.mono (by simp))
      have y0 := keepC hb1 x0
      clear hR
      go_wp2_with fail
      refine (hN _ (hA.below hB1)).mono ?_
      rintro e w2 ⟨rfl, hM, hb2⟩
      have hB2 := hB1.trans (hb2.mono hB1.size)
      obtain ⟨vl, hlk, hOl, _⟩ := mapR_at (P := Tryz.prog) (T := 82) hM Tryz.underlying82 Tryz.underlying9 zeroRules nm (by unfold maxLen; omega)
      obtain ⟨al, cl, rfl, hSl, _⟩ := seq_of_owns (rows := (ofName r.rules nm).map RuleD.cs) (by rw [List.length_map]; exact hOl) ruleCs_len
      have hlk := hlk w2 rfl
      rw [List.length_map] at hlk
      have hH2 := hH al cl w2 hSl (hE.of_below hB2)
      clear hOl hSl hM hN hH hb1 hb2
      go_wp2_with fail
      refine hH2.mono ?_
      rintro e w3 ⟨v3, H, bb, rfl, hO, hHA, hb3⟩
      have hB3 := hB2.trans (hb3.mono hB2.size)
      have HR : Hid (HapsG r nm off H) := .inl ⟨HA.out, bb, hHA⟩
      have HO : Hid (OwnsH w3 w.heap.size v3 H) := owns_mono hO hB2.size
      obtain ⟨a7, m7, d7, rfl⟩ := row_shape3 hO
      clear hO hHA hb3 hlk hH2
      go_wp2
      go_ret
      first
        | exact ⟨_, H, rfl, HO.out, HR.out, hB3⟩
        | exact ⟨_, rfl, H, HO.out, HR.out, hB3⟩
  · have HR : Hid (HapsG r nm off []) := .inr ⟨ask_no1 h1, rfl⟩
    have g1 : (8000 : Int) < (nm.size : Int) := by omega
    clear h1
    go_enter Tryz.func8, Tryz.ntmps8
    go_wp2
    go_ret
    first
      | exact ⟨_, [], rfl, World.ownsRow_nil _ _ _ _, HR.out, hB0⟩
      | exact ⟨_, rfl, [], World.ownsRow_nil _ _ _ _, HR.out, hB0⟩
end Go.Proofs.YtbbhpfobcelbfaaGreatDoor
