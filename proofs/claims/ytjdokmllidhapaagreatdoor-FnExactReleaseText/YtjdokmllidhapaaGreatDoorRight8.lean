/- Zones, all of them right: the program's; eras: the model's. -/
import Derived.Test.YtjdokmllidhapaaGreatDoorRight7
namespace Go.Proofs.YtjdokmllidhapaaGreatDoor
open Go.RowKit

set_option maxHeartbeats 2000000 in
theorem impl_allZone (l : List ZoneD) (a : Option Addr) (cap : Nat) (w : World) (hA : ZonesAt w a l) (hok : ∀ r ∈ l, r.ok) (hl : l.length ≤ 1048576) :
    Calls Tryz.prog 71 #[.slice a l.length cap, .func (.func 72) #[] #[]] w fun e w' => e = .returned (.bool (l.all zoneP)) ∧ Below w.heap.size w w' := by
  go_enter Tryz.func71, Tryz.ntmps71
  go_wp2
  go_loopw [9] (fun i wr => ∃ k : Nat, k ≤ l.length ∧ i = .int .i64 k ∧ Hid (∀ j, j < k → ∀ x, l[j]? = some x → zoneP x = true) ∧ Below w.heap.size w wr) (fun i _ => l.length - (intOf i).toNat)
  case atStart => exact ⟨0, by omega, rfl, fun j hj => by omega, Below.refl _ _⟩
  case round =>
    obtain ⟨k, hk, rfl, hall, hB⟩ := hrel
    by_cases hlt : k < l.length
    · obtain ⟨r, hr⟩ : ∃ r, l[k]? = some r := ⟨_, List.getElem?_eq_getElem hlt⟩
      obtain ⟨b, o, rfl, c0, v, c1, hv⟩ := (hA.below hB).at hr
      have ok := hok r (List.mem_of_getElem? hr)
      have hS := fun o => impl_zoneRight r v (wr.alloc o) (hv.below ((Below.refl _ _).alloc (Nat.le_refl _) o)) ok
      obtain ⟨ae, ce, rfl, _⟩ := hv
      generalize r.eras.length = en at *
      cases hb : zoneP r
      · have HR : Hid (l.all zoneP = false) := all_no hr hb
        rw [hb] at hS
        clear hb
        go_wp2_with fail
        refine (hS _).mono ?_
        rintro e w2 ⟨rfl, hb2⟩
        go_wp2
        go_ret
        exact ⟨ret_bool HR.out.symm, (hB.alloc hB.size _).trans (hb2.mono (by simp; have := hB.size; omega))⟩
      · have HR : Hid (∀ j, j < k + 1 → ∀ x, l[j]? = some x → zoneP x = true) := fun j hj x hx => by
          by_cases e : j = k
          · subst e; rw [hr] at hx; obtain rfl := Option.some.inj hx; exact hb
          · exact hall.out j (by omega) x hx
        rw [hb] at hS
        clear hb
        go_wp2_with fail
        refine (hS _).mono ?_
        rintro e w2 ⟨rfl, hb2⟩
        go_wp2
        go_roundw
        case rel => exact ⟨k + 1, by omega, by go_num, HR, (hB.alloc hB.size _).trans (hb2.mono (by simp; have := hB.size; omega))⟩
        case measure => simp [intOf]; omega
    · have e : k = l.length := by omega
      subst e
      have HR : Hid (l.all zoneP = true) := all_yes hall.out
      go_wp2
      go_ret
      exact ⟨ret_bool HR.out.symm, hB⟩
/-- an era, as the model asks of it. -/
def eraM (rs : List RuleD) (e : EraD) : Bool := (e.rules.toList.isEmpty || (decide (e.save = 0) && hasB rs e.rules)) && (isB e.offset (-86400) 86400 && (isB e.save (-7200) 7200 && (fmtB e.format && (isB e.until_ (-62135596800) 253402300799 && ofB e.of))))
set_option maxHeartbeats 400000 in
theorem spec_l01TimeZ (n : Int) (w : World) :
    Calls Tryz.prog 203 #[.int .i64 n] w fun e w' => e = .returned (.bool (isB n (-62135596800) 253402300799)) ∧ w' = w := by
  go_enter Tryz.func203, Tryz.ntmps203
  go_wp2_with (go_at_call 47; refine (spec_l01Is _ _ _ _).mono ?_; rintro e w' ⟨rfl, rfl⟩)
  go_ret
  exact ⟨rfl, rfl⟩
set_option maxHeartbeats 2000000 in
theorem spec_l02Era (r : RelD) (v : Value) (e : EraD) (w : World) (hv : RelAt w v r) (ok : e.ok) (hl : r.rules.length ≤ 1048576) :
    Calls Tryz.prog 127 #[v, e.v] w fun x w' => x = .returned (.bool (eraM r.rules e)) ∧ Below w.heap.size w w' := by
  have hB0 := fun o o2 => ((Below.refl w.heap.size w).alloc (Nat.le_refl _) o).alloc (by simp) o2
  have hR := fun s o o2 => spec_l02Rules r v s ((w.alloc o).alloc o2) (hv.below (hB0 o o2)) hl
  obtain ⟨a, b, c, ca, cb, cc, rfl, _, _, _⟩ := hv.form
  generalize r.rules.length = rn at *
  generalize r.zones.length = zn at *
  generalize r.links.length = ln at *
  clear hv
  obtain ⟨offset, rules, save, format, until_, of⟩ := e
  obtain ⟨k1, k2, k3⟩ := ok
  simp only [EraD.v, eraM] at *
  have h1 := fun w => spec_l01Is offset (-86400) 86400 w
  have h2 := fun w => spec_l02Save save w
  have h3 := fun w => spec_l02Format format w k2
  have h4 := fun w => spec_l01TimeZ until_ w
  have h5 := fun w => spec_l02Of of w
  have hR1 := hR rules
  clear hR
  generalize hasB r.rules rules = q at *
  generalize isB offset (-86400) 86400 = b1 at *
  generalize isB save (-7200) 7200 = b2 at *
  generalize fmtB format = b3 at *
  generalize isB until_ (-62135596800) 253402300799 = b4 at *
  generalize ofB of = b5 at *
  cases he : rules.toList.isEmpty
  · by_cases hs : save = 0
    · subst hs
      cases q
      · go_enter Tryz.func127, Tryz.ntmps127
        go_wp2_with fail
        refine (hR1 _ _).mono ?_
        rintro e w1 ⟨rfl, hb1⟩
        go_wp2
        go_ret
        exact ⟨ret_bool (by simp), (hB0 _ _).trans (hb1.mono (by simp; omega))⟩
      · go_enter Tryz.func127, Tryz.ntmps127
        go_wp2_with fail
        refine (hR1 _ _).mono ?_
        rintro e w1 ⟨rfl, hb1⟩
        obtain ⟨hc, _⟩ := bcell hb1
        have hlt : w.heap.size + 1 < w1.heap.size := by have := hb1.size; simp at this; omega
        have hB1 := (hB0 _ _).trans (hb1.mono (by simp; omega))
        go_wp2_with fail
        refine (h1 _).mono ?_
        rintro e w9 ⟨rfl, rfl⟩
        cases b1
        case false =>
          go_wp2
          go_ret
          exact ⟨ret_bool (by simp), hB1⟩
        go_wp2_with fail
        refine (h2 _).mono ?_
        rintro e w9 ⟨rfl, rfl⟩
        cases b2
        case false =>
          go_wp2
          go_ret
          exact ⟨ret_bool (by simp), hB1⟩
        go_wp2_with fail
        refine (h3 _).mono ?_
        rintro e w9 ⟨rfl, rfl⟩
        cases b3
        case false =>
          go_wp2
          go_ret
          exact ⟨ret_bool (by simp), hB1⟩
        go_wp2_with fail
        refine (h4 _).mono ?_
        rintro e w9 ⟨rfl, rfl⟩
        cases b4
        case false =>
          go_wp2
          go_ret
          exact ⟨ret_bool (by simp), hB1⟩
        go_wp2_with fail
        refine (h5 _).mono ?_
        rintro e w9 ⟨rfl, rfl⟩
        go_wp2
        go_ret
        exact ⟨ret_bool (by simp), hB1⟩
    · have hs' : (save != 0) = true := by simpa using hs
      go_enter Tryz.func127, Tryz.ntmps127
      go_wp2
      go_ret
      exact ⟨ret_bool (by simp [hs]), hB0 _ _⟩
  · go_enter Tryz.func127, Tryz.ntmps127
    go_wp2_with fail
    refine (h1 _).mono ?_
    rintro e w9 ⟨rfl, rfl⟩
    cases b1
    case false =>
      go_wp2
      go_ret
      exact ⟨ret_bool (by simp), hB0 _ _⟩
    go_wp2_with fail
    refine (h2 _).mono ?_
    rintro e w9 ⟨rfl, rfl⟩
    cases b2
    case false =>
      go_wp2
      go_ret
      exact ⟨ret_bool (by simp), hB0 _ _⟩
    go_wp2_with fail
    refine (h3 _).mono ?_
    rintro e w9 ⟨rfl, rfl⟩
    cases b3
    case false =>
      go_wp2
      go_ret
      exact ⟨ret_bool (by simp), hB0 _ _⟩
    go_wp2_with fail
    refine (h4 _).mono ?_
    rintro e w9 ⟨rfl, rfl⟩
    cases b4
    case false =>
      go_wp2
      go_ret
      exact ⟨ret_bool (by simp), hB0 _ _⟩
    go_wp2_with fail
    refine (h5 _).mono ?_
    rintro e w9 ⟨rfl, rfl⟩
    go_wp2
    go_ret
    exact ⟨ret_bool (by simp), hB0 _ _⟩
end Go.Proofs.YtjdokmllidhapaaGreatDoor
