/- Lists all of whose things are right: the program's. -/
import Derived.Test.YtjdokmllidhapaaGreatDoorRight4
import Derived.Test.YtjdokmllidhapaaGreatDoorRelRule
import Derived.Laws.EntriesVeiled
namespace Go.Proofs.YtjdokmllidhapaaGreatDoor
open Go.RowKit

theorem all_no {α : Type} {l : List α} {p : α → Bool} {k : Nat} {x : α} (hk : l[k]? = some x) (h : p x = false) : l.all p = false := by
  rw [List.all_eq_false]
  exact ⟨x, List.mem_of_getElem? hk, by simp [h]⟩
theorem all_yes {α : Type} {l : List α} {p : α → Bool} (h : ∀ j, j < l.length → ∀ x, l[j]? = some x → p x = true) : l.all p = true := by
  rw [List.all_eq_true]
  intro x hx
  obtain ⟨j, hj⟩ := List.getElem?_of_mem hx
  exact h j (List.getElem?_eq_some_iff.mp hj).1 x hj
set_option maxHeartbeats 2000000 in
theorem impl_allRule (l : List RuleD) (a : Option Addr) (cap : Nat) (w : World) (hE : EnvZ w) (hA : SeqAt w a 9 (l.map RuleD.cs)) (hok : ∀ r ∈ l, r.ok) (hz : ∀ r ∈ l, r.on.size ≤ 1048576) (hl : l.length ≤ 1048576) :
    Calls Tryz.prog 69 #[.slice a l.length cap, .func (.func 70) #[] #[]] w fun e w' => e = .returned (.bool (l.all ruleB)) ∧ Below w.heap.size w w' := by
  go_enter Tryz.func69, Tryz.ntmps69
  go_wp2
  go_loopw [9] (fun i wr => ∃ k : Nat, k ≤ l.length ∧ i = .int .i64 k ∧ Hid (∀ j, j < k → ∀ x, l[j]? = some x → ruleB x = true) ∧ Below w.heap.size w wr) (fun i _ => l.length - (intOf i).toNat)
  case atStart => exact ⟨0, by omega, rfl, fun j hj => by omega, Below.refl _ _⟩
  case round =>
    obtain ⟨k, hk, rfl, hall, hB⟩ := hrel
    by_cases hlt : k < l.length
    · obtain ⟨r, hr⟩ : ∃ r, l[k]? = some r := ⟨_, List.getElem?_eq_getElem hlt⟩
      have hrow : (l.map RuleD.cs)[k]? = some r.cs := by rw [List.getElem?_map, hr]; rfl
      obtain ⟨b, o, rfl, hc⟩ := (hA.below hB).at (i := k) hrow
      have ok := hok r (List.mem_of_getElem? hr)
      have hS := fun w (h : EnvZ w) => impl_ruleRight r w h ok (hz r (List.mem_of_getElem? hr))
      have hE1 := hE.of_below hB
      have c0 : wr.cell? ⟨b, o + k * 9, none⟩ = some (.string r.name) := hc 0 _ rfl
      have c1 := hc 1 _ rfl
      have c2 := hc 2 _ rfl
      have c3 := hc 3 _ rfl
      have c4 := hc 4 _ rfl
      have c5 := hc 5 _ rfl
      have c6 := hc 6 _ rfl
      have c7 := hc 7 _ rfl
      have c8 := hc 8 _ rfl
      clear hc
      unfold RuleD.v at hS
      cases hb : ruleB r
      · have HR : Hid (l.all ruleB = false) := all_no hr hb
        rw [hb] at hS
        clear hb
        go_wp2_with fail
        refine (hS _ (hE1.alloc _)).mono ?_
        rintro e w2 ⟨rfl, hb2⟩
        go_wp2
        go_ret
        exact ⟨ret_bool HR.out.symm, (hB.alloc hB.size _).trans (hb2.mono (by simp; have := hB.size; omega))⟩
      · have HR : Hid (∀ j, j < k + 1 → ∀ x, l[j]? = some x → ruleB x = true) := fun j hj x hx => by
          by_cases e : j = k
          · subst e; rw [hr] at hx; obtain rfl := Option.some.inj hx; exact hb
          · exact hall.out j (by omega) x hx
        rw [hb] at hS
        clear hb
        go_wp2_with fail
        refine (hS _ (hE1.alloc _)).mono ?_
        rintro e w2 ⟨rfl, hb2⟩
        go_wp2
        go_roundw
        case rel => exact ⟨k + 1, by omega, by go_num, HR, (hB.alloc hB.size _).trans (hb2.mono (by simp; have := hB.size; omega))⟩
        case measure => simp [intOf]; omega
    · have e : k = l.length := by omega
      subst e
      have HR : Hid (l.all ruleB = true) := all_yes hall.out
      go_wp2
      go_ret
      exact ⟨ret_bool HR.out.symm, hB⟩
set_option maxHeartbeats 2000000 in
theorem impl_allEra (l : List EraD) (a : Option Addr) (cap : Nat) (w : World) (hA : SeqAt w a 6 (l.map EraD.cs)) (hok : ∀ r ∈ l, r.ok) (hl : l.length ≤ 1048576) :
    Calls Tryz.prog 138 #[.slice a l.length cap, .func (.func 139) #[] #[]] w fun e w' => e = .returned (.bool (l.all eraP)) ∧ Below w.heap.size w w' := by
  go_enter Tryz.func138, Tryz.ntmps138
  go_wp2
  go_loopw [9] (fun i wr => ∃ k : Nat, k ≤ l.length ∧ i = .int .i64 k ∧ Hid (∀ j, j < k → ∀ x, l[j]? = some x → eraP x = true) ∧ Below w.heap.size w wr) (fun i _ => l.length - (intOf i).toNat)
  case atStart => exact ⟨0, by omega, rfl, fun j hj => by omega, Below.refl _ _⟩
  case round =>
    obtain ⟨k, hk, rfl, hall, hB⟩ := hrel
    by_cases hlt : k < l.length
    · obtain ⟨r, hr⟩ : ∃ r, l[k]? = some r := ⟨_, List.getElem?_eq_getElem hlt⟩
      have hrow : (l.map EraD.cs)[k]? = some r.cs := by rw [List.getElem?_map, hr]; rfl
      obtain ⟨b, o, rfl, hc⟩ := (hA.below hB).at (i := k) hrow
      have ok := hok r (List.mem_of_getElem? hr)
      have hS := fun w => impl_eraRight r w ok
      have c0 : wr.cell? ⟨b, o + k * 6, none⟩ = some (.int .i64 r.offset) := hc 0 _ rfl
      have c1 := hc 1 _ rfl
      have c2 := hc 2 _ rfl
      have c3 := hc 3 _ rfl
      have c4 := hc 4 _ rfl
      have c5 := hc 5 _ rfl
      clear hc
      unfold EraD.v at hS
      cases hb : eraP r
      · have HR : Hid (l.all eraP = false) := all_no hr hb
        rw [hb] at hS
        clear hb
        go_wp2_with fail
        refine (hS _).mono ?_
        rintro e w2 ⟨rfl, hb2⟩
        go_wp2
        go_ret
        exact ⟨ret_bool HR.out.symm, (hB.alloc hB.size _).trans (hb2.mono (by simp; have := hB.size; omega))⟩
      · have HR : Hid (∀ j, j < k + 1 → ∀ x, l[j]? = some x → eraP x = true) := fun j hj x hx => by
          by_cases e : j = k
          · subst e; rw [hr] at hx; obtain rfl := Option.some.inj hx; exact hb
          · exact hall.out j (by omega) x hx
        rw [hb] at hS
        clear hb
        go_wp2_with fail
        refine (hS _).mono ?_
        rintro e w2 ⟨rfl, hb2⟩
        go_wp2
        go_roundw
        case rel => exact ⟨k + 1, by omega, by go_num, HR, (hB.alloc hB.size _).trans (hb2.mono (by simp; have := hB.size; omega))⟩
        case measure => simp [intOf]; omega
    · have e : k = l.length := by omega
      subst e
      have HR : Hid (l.all eraP = true) := all_yes hall.out
      go_wp2
      go_ret
      exact ⟨ret_bool HR.out.symm, hB⟩
set_option maxHeartbeats 2000000 in
theorem impl_allLink (l : List LinkD) (a : Option Addr) (cap : Nat) (w : World) (hA : SeqAt w a 2 (l.map LinkD.cs)) (hok : ∀ r ∈ l, r.ok) (hl : l.length ≤ 1048576) :
    Calls Tryz.prog 73 #[.slice a l.length cap, .func (.func 74) #[] #[]] w fun e w' => e = .returned (.bool (l.all linkB)) ∧ Below w.heap.size w w' := by
  go_enter Tryz.func73, Tryz.ntmps73
  go_wp2
  go_loopw [9] (fun i wr => ∃ k : Nat, k ≤ l.length ∧ i = .int .i64 k ∧ Hid (∀ j, j < k → ∀ x, l[j]? = some x → linkB x = true) ∧ Below w.heap.size w wr) (fun i _ => l.length - (intOf i).toNat)
  case atStart => exact ⟨0, by omega, rfl, fun j hj => by omega, Below.refl _ _⟩
  case round =>
    obtain ⟨k, hk, rfl, hall, hB⟩ := hrel
    by_cases hlt : k < l.length
    · obtain ⟨r, hr⟩ : ∃ r, l[k]? = some r := ⟨_, List.getElem?_eq_getElem hlt⟩
      have hrow : (l.map LinkD.cs)[k]? = some r.cs := by rw [List.getElem?_map, hr]; rfl
      obtain ⟨b, o, rfl, hc⟩ := (hA.below hB).at (i := k) hrow
      have ok := hok r (List.mem_of_getElem? hr)
      have hS := fun w => impl_linkRight r w ok
      have c0 : wr.cell? ⟨b, o + k * 2, none⟩ = some (.string r.to_) := hc 0 _ rfl
      have c1 := hc 1 _ rfl
      clear hc
      unfold LinkD.v at hS
      cases hb : linkB r
      · have HR : Hid (l.all linkB = false) := all_no hr hb
        rw [hb] at hS
        clear hb
        go_wp2_with fail
        refine (hS _).mono ?_
        rintro e w2 ⟨rfl, hb2⟩
        go_wp2
        go_ret
        exact ⟨ret_bool HR.out.symm, (hB.alloc hB.size _).trans (hb2.mono (by simp; have := hB.size; omega))⟩
      · have HR : Hid (∀ j, j < k + 1 → ∀ x, l[j]? = some x → linkB x = true) := fun j hj x hx => by
          by_cases e : j = k
          · subst e; rw [hr] at hx; obtain rfl := Option.some.inj hx; exact hb
          · exact hall.out j (by omega) x hx
        rw [hb] at hS
        clear hb
        go_wp2_with fail
        refine (hS _).mono ?_
        rintro e w2 ⟨rfl, hb2⟩
        go_wp2
        go_roundw
        case rel => exact ⟨k + 1, by omega, by go_num, HR, (hB.alloc hB.size _).trans (hb2.mono (by simp; have := hB.size; omega))⟩
        case measure => simp [intOf]; omega
    · have e : k = l.length := by omega
      subst e
      have HR : Hid (l.all linkB = true) := all_yes hall.out
      go_wp2
      go_ret
      exact ⟨ret_bool HR.out.symm, hB⟩
end Go.Proofs.YtjdokmllidhapaaGreatDoor
