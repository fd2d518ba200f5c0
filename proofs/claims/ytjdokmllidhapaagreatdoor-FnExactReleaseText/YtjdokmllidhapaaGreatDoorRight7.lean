/- What is asked of eras: the model's. -/
import Derived.Test.YtjdokmllidhapaaGreatDoorRight6
import Derived.Test.YtjdokmllidhapaaGreatDoorRelRel
namespace Go.Proofs.YtjdokmllidhapaaGreatDoor
open Go.RowKit

theorem any_yes {α : Type} {l : List α} {p : α → Bool} {k : Nat} {x : α} (hk : l[k]? = some x) (h : p x = true) : l.any p = true := by
  rw [List.any_eq_true]
  exact ⟨x, List.mem_of_getElem? hk, h⟩
theorem any_no {α : Type} {l : List α} {p : α → Bool} (h : ∀ j, j < l.length → ∀ x, l[j]? = some x → p x = false) : l.any p = false := by
  rw [List.any_eq_false]
  intro x hx
  obtain ⟨j, hj⟩ := List.getElem?_of_mem hx
  simp [h j (List.getElem?_eq_some_iff.mp hj).1 x hj]
/-- is there a rule of that name. -/
def hasB (rs : List RuleD) (s : ByteArray) : Bool := rs.any fun x => x.name.toList == s.toList
set_option maxHeartbeats 2000000 in
theorem spec_l02Rules (r : RelD) (v : Value) (s : ByteArray) (w : World) (hv : RelAt w v r) (hl : r.rules.length ≤ 1048576) :
    Calls Tryz.prog 201 #[v, .string s] w fun e w' => e = .returned (.bool (hasB r.rules s)) ∧ Below w.heap.size w w' := by
  obtain ⟨a, b, c, ca, cb, cc, rfl, hA, _, _⟩ := hv.form
  generalize r.rules = l at *
  generalize r.zones.length = zn at *
  generalize r.links.length = ln at *
  clear hv
  have hB := (Below.refl w.heap.size w).alloc (Nat.le_refl _) (.cells #[.slice a l.length ca, .slice b zn cb, .slice c ln cc] 27)
  have hA1 := hA.below hB
  unfold hasB
  go_enter Tryz.func201, Tryz.ntmps201
  go_wp2
  go_loop [5] (fun i => ∃ k : Nat, k ≤ l.length ∧ i = .int .i64 k ∧ Hid (∀ j, j < k → ∀ x, l[j]? = some x → (x.name.toList == s.toList) = false)) (fun i => l.length - (intOf i).toNat)
  case atStart => exact ⟨0, by omega, rfl, fun j hj => by omega⟩
  case round =>
    obtain ⟨k, hk, rfl, hall⟩ := hrel
    by_cases hlt : k < l.length
    · obtain ⟨x, hx⟩ : ∃ x, l[k]? = some x := ⟨_, List.getElem?_eq_getElem hlt⟩
      obtain ⟨b', o, rfl, hc⟩ := hA1.at (i := k) (r := x.cs) (by rw [List.getElem?_map, hx]; rfl)
      have c0 : (w.alloc (.cells #[.slice (some ⟨b', o, none⟩) l.length ca, .slice b zn cb, .slice c ln cc] 27)).cell? ⟨b', o + k * 9, none⟩ = some (.string x.name) := hc 0 _ rfl
      clear hc
      cases hb : (x.name.toList == s.toList)
      · have HR : Hid (∀ j, j < k + 1 → ∀ x, l[j]? = some x → (x.name.toList == s.toList) = false) := fun j hj y hy => by
          by_cases e : j = k
          · subst e; rw [hx] at hy; obtain rfl := Option.some.inj hy; exact hb
          · exact hall.out j (by omega) y hy
        generalize x.name = nm at *
        go_wp2
        go_round
        case rel => exact ⟨k + 1, by omega, by go_num, HR⟩
        case measure => simp [intOf]; omega
      · have HR : Hid ((l.any fun x => x.name.toList == s.toList) = true) := any_yes hx hb
        generalize x.name = nm at *
        go_wp2
        go_ret
        exact ⟨ret_bool HR.out.symm, hB⟩
    · have e : k = l.length := by omega
      subst e
      have HR : Hid ((l.any fun x => x.name.toList == s.toList) = false) := any_no hall.out
      go_wp2
      go_ret
      exact ⟨ret_bool HR.out.symm, hB⟩
end Go.Proofs.YtjdokmllidhapaaGreatDoor
