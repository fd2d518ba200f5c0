/- Is there a zone of a link's name: the program's search with a closure. -/
import Derived.Test.YtjdokmllidhapaaGreatDoorRight10
namespace Go.Proofs.YtjdokmllidhapaaGreatDoor
open Go.RowKit

/-- is there a zone of a name? -/
def hasZ (l : List ZoneD) (s : ByteArray) : Bool := l.any fun x => x.name.toList == s.toList
set_option maxHeartbeats 400000 in
theorem impl_namedZ (r : ZoneD) (v : Value) (p : Nat) (s : ByteArray) (w : World) (hp : w.cell? ⟨p, 0, none⟩ = some (.string s)) :
    Calls Tryz.prog 144 #[.agg #[.string r.name, v], .pointer (some ⟨p, 0, none⟩)] w fun e w' => e = .returned (.bool (r.name.toList == s.toList)) ∧ Below w.heap.size w w' := by
  have hlt := World.block_lt_of_cell? _ _ hp
  have hne : p ≠ w.heap.size := by simp at hlt; omega
  go_enter Tryz.func144, Tryz.ntmps144
  go_wp2
  go_ret
  exact ⟨rfl, (Below.refl _ _).alloc (Nat.le_refl _) _⟩
set_option maxHeartbeats 2000000 in
theorem impl_indexZone (l : List ZoneD) (a : Option Addr) (cap p : Nat) (s : ByteArray) (w : World) (hA : ZonesAt w a l) (hl : l.length ≤ 1048576) (hp : w.cell? ⟨p, 0, none⟩ = some (.string s)) :
    Calls Tryz.prog 214 #[.slice a l.length cap, .func (.func 144) #[] #[.pointer (some ⟨p, 0, none⟩)]] w fun e w' => (∃ n : Int, e = .returned (.int .i64 n) ∧ decide (0 ≤ n) = hasZ l s) ∧ Below w.heap.size w w' := by
  unfold hasZ
  go_enter Tryz.func214, Tryz.ntmps214
  go_wp2
  go_loopw [8] (fun i wr => ∃ k : Nat, k ≤ l.length ∧ i = .int .i64 k ∧ Hid (∀ j, j < k → ∀ x, l[j]? = some x → (x.name.toList == s.toList) = false) ∧ Below w.heap.size w wr) (fun i _ => l.length - (intOf i).toNat)
  case atStart => exact ⟨0, by omega, rfl, fun j hj => by omega, Below.refl _ _⟩
  case round =>
    obtain ⟨k, hk, rfl, hall, hB⟩ := hrel
    by_cases hlt : k < l.length
    · obtain ⟨r, hr⟩ : ∃ r, l[k]? = some r := ⟨_, List.getElem?_eq_getElem hlt⟩
      obtain ⟨b, o, rfl, c0, v, c1, hv⟩ := (hA.below hB).at hr
      have hS := impl_namedZ r v p s wr (by rw [(bcell hB).1 _ _ (World.block_lt_of_cell? _ _ hp)]; exact hp)
      obtain ⟨ae, ce, rfl, _⟩ := hv
      generalize r.eras.length = en at *
      cases hb : (r.name.toList == s.toList)
      · have HR : Hid (∀ j, j < k + 1 → ∀ x, l[j]? = some x → (x.name.toList == s.toList) = false) := fun j hj x hx => by
          by_cases e : j = k
          · subst e; rw [hr] at hx; obtain rfl := Option.some.inj hx; exact hb
          · exact hall.out j (by omega) x hx
        rw [hb] at hS
        clear hb
        go_wp2_with fail
        refine hS.mono ?_
        rintro e w2 ⟨rfl, hb2⟩
        go_wp2
        go_roundw
        case rel => exact ⟨k + 1, by omega, by go_num, HR, hB.trans (hb2.mono hB.size)⟩
        case measure => simp [intOf]; omega
      · have HR : Hid ((l.any fun x => x.name.toList == s.toList) = true) := any_yes hr hb
        rw [hb] at hS
        clear hb
        go_wp2_with fail
        refine hS.mono ?_
        rintro e w2 ⟨rfl, hb2⟩
        go_wp2
        go_ret
        exact ⟨⟨_, rfl, by rw [HR.out]; simp⟩, hB.trans (hb2.mono hB.size)⟩
    · have e : k = l.length := by omega
      subst e
      have HR : Hid ((l.any fun x => x.name.toList == s.toList) = false) := any_no hall.out
      go_wp2
      go_ret
      exact ⟨⟨_, rfl, by rw [HR.out]; rfl⟩, hB⟩
set_option maxHeartbeats 400000 in
theorem impl_containsZone (l : List ZoneD) (a : Option Addr) (cap p : Nat) (s : ByteArray) (w : World) (hA : ZonesAt w a l) (hl : l.length ≤ 1048576) (hp : w.cell? ⟨p, 0, none⟩ = some (.string s)) :
    Calls Tryz.prog 145 #[.slice a l.length cap, .func (.func 144) #[] #[.pointer (some ⟨p, 0, none⟩)]] w fun e w' => e = .returned (.bool (hasZ l s)) ∧ Below w.heap.size w w' := by
  have hI := impl_indexZone l a cap p s w hA hl hp
  generalize hasZ l s = q at *
  go_enter Tryz.func145, Tryz.ntmps145
  go_wp2_with fail
  refine hI.mono ?_
  rintro e w1 ⟨⟨n, rfl, hn⟩, hb⟩
  go_wp2
  go_ret
  exact ⟨ret_bool (by simp), hb⟩
end Go.Proofs.YtjdokmllidhapaaGreatDoor
