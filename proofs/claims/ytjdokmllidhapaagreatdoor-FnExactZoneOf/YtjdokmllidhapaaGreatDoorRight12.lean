/- Is the zone of each link there: the program. -/
import Derived.Test.YtjdokmllidhapaaGreatDoorRight11
namespace Go.Proofs.YtjdokmllidhapaaGreatDoor
open Go.RowKit

set_option maxHeartbeats 2000000 in
theorem impl_zonesThere (r : RelD) (v : Value) (w : World) (hv : RelAt w v r) (hz : r.zones.length ≤ 1048576) (hl : r.links.length ≤ 1048576) :
    Calls Tryz.prog 77 #[v] w fun e w' => e = .returned (.bool (r.links.all fun x => hasZ r.zones x.to_)) ∧ Below w.heap.size w w' := by
  obtain ⟨a, b, c, ca, cb, cc, rfl, _, hZ, hA⟩ := hv.form
  clear hv
  generalize r.rules.length = rn at *
  generalize r.links = l at *
  generalize r.zones = zs at *
  have hB0 := (Below.refl w.heap.size w).alloc (Nat.le_refl _) (.cells #[.slice a rn ca, .slice b zs.length cb, .slice c l.length cc] 27)
  have hA1 := hA.below hB0
  have hZ1 := hZ.below hB0
  have hown : (w.alloc (.cells #[.slice a rn ca, .slice b zs.length cb, .slice c l.length cc] 27)).cell? ⟨w.heap.size, 1, none⟩ = some (.slice b zs.length cb) := by simp
  go_enter Tryz.func77, Tryz.ntmps77
  go_wp2
  generalize hW : (w.alloc (.cells #[.slice a rn ca, .slice b zs.length cb, .slice c l.length cc] 27)) = W at *
  go_loopw [9] (fun i wr => ∃ k : Nat, k ≤ l.length ∧ i = .int .i64 k ∧ Hid (∀ j, j < k → ∀ x, l[j]? = some x → hasZ zs x.to_ = true) ∧ Below W.heap.size W wr) (fun i _ => l.length - (intOf i).toNat)
  case atStart => exact ⟨0, by omega, rfl, fun j hj => by omega, by subst hW; exact Below.refl _ _⟩
  case round =>
    obtain ⟨k, hk, rfl, hall, hB⟩ := hrel
    have hT : Below w.heap.size w wr := hB0.trans (hB.mono hB0.size)
    have ho : wr.cell? ⟨w.heap.size, 1, none⟩ = some (.slice b zs.length cb) := by rw [(bcell hB).1 _ _ (World.block_lt_of_cell? _ _ hown)]; exact hown
    by_cases hlt : k < l.length
    · obtain ⟨x, hx⟩ : ∃ x, l[k]? = some x := ⟨_, List.getElem?_eq_getElem hlt⟩
      obtain ⟨b', o, rfl, hc⟩ := (hA1.below hB).at (i := k) (r := x.cs) (by rw [List.getElem?_map, hx]; rfl)
      have c0 : wr.cell? ⟨b', o + k * 2, none⟩ = some (.string x.to_) := hc 0 _ rfl
      have c1 := hc 1 _ rfl
      clear hc
      have hl0 := World.block_lt_of_cell? _ _ ho
      have hB2 : Below W.heap.size W (wr.alloc (.cells #[.string x.to_, .string x.name] 108)) := hB.alloc hB.size _
      have hS := impl_containsZone zs b cb wr.heap.size x.to_ (wr.alloc (.cells #[.string x.to_, .string x.name] 108)) (hZ1.below hB2) hz (by simp)
      cases hb : hasZ zs x.to_
      · have HR : Hid ((l.all fun x => hasZ zs x.to_) = false) := all_no hx hb
        rw [hb] at hS
        clear hb
        go_wp2_with fail
        refine hS.mono ?_
        rintro e w2 ⟨rfl, hb2⟩
        go_wp2
        go_ret
        exact ⟨ret_bool HR.out.symm, hB0.trans ((hB2.trans (hb2.mono hB2.size)).mono hB0.size)⟩
      · have HR : Hid (∀ j, j < k + 1 → ∀ x, l[j]? = some x → hasZ zs x.to_ = true) := fun j hj y hy => by
          by_cases e : j = k
          · subst e; rw [hx] at hy; obtain rfl := Option.some.inj hy; exact hb
          · exact hall.out j (by omega) y hy
        rw [hb] at hS
        clear hb
        go_wp2_with fail
        refine hS.mono ?_
        rintro e w2 ⟨rfl, hb2⟩
        go_wp2
        go_roundw
        case rel => exact ⟨k + 1, by omega, by go_num, HR, hB2.trans (hb2.mono hB2.size)⟩
        case measure => simp [intOf]; omega
    · have e : k = l.length := by omega
      subst e
      have HR : Hid ((l.all fun x => hasZ zs x.to_) = true) := all_yes hall.out
      go_wp2
      go_ret
      exact ⟨ret_bool HR.out.symm, hT⟩
end Go.Proofs.YtjdokmllidhapaaGreatDoor
