/- Is there a rule of an era's name: the program's search with a closure. -/
import Derived.Test.YtjdokmllidhapaaGreatDoorRight9
namespace Go.Proofs.YtjdokmllidhapaaGreatDoor
open Go.RowKit

set_option maxHeartbeats 400000 in
theorem impl_named (r : RuleD) (p : Nat) (s : ByteArray) (w : World) (hp : w.cell? ⟨p, 1, none⟩ = some (.string s)) :
    Calls Tryz.prog 142 #[r.v, .pointer (some ⟨p, 0, none⟩)] w fun e w' => e = .returned (.bool (r.name.toList == s.toList)) ∧ Below w.heap.size w w' := by
  have hlt := World.block_lt_of_cell? _ _ hp
  have hne : p ≠ w.heap.size := by simp at hlt; omega
  obtain ⟨name, lo, hi, month, on, at_, of, save, letter⟩ := r
  simp only [RuleD.v] at *
  go_enter Tryz.func142, Tryz.ntmps142
  go_wp2
  go_ret
  exact ⟨rfl, (Below.refl _ _).alloc (Nat.le_refl _) _⟩
set_option maxHeartbeats 2000000 in
theorem impl_indexRule (l : List RuleD) (a : Option Addr) (cap p : Nat) (s : ByteArray) (w : World) (hA : SeqAt w a 9 (l.map RuleD.cs)) (hl : l.length ≤ 1048576) (hp : w.cell? ⟨p, 1, none⟩ = some (.string s)) :
    Calls Tryz.prog 213 #[.slice a l.length cap, .func (.func 142) #[] #[.pointer (some ⟨p, 0, none⟩)]] w fun e w' => (∃ n : Int, e = .returned (.int .i64 n) ∧ decide (0 ≤ n) = hasB l s) ∧ Below w.heap.size w w' := by
  unfold hasB
  go_enter Tryz.func213, Tryz.ntmps213
  go_wp2
  go_loopw [8] (fun i wr => ∃ k : Nat, k ≤ l.length ∧ i = .int .i64 k ∧ Hid (∀ j, j < k → ∀ x, l[j]? = some x → (x.name.toList == s.toList) = false) ∧ Below w.heap.size w wr) (fun i _ => l.length - (intOf i).toNat)
  case atStart => exact ⟨0, by omega, rfl, fun j hj => by omega, Below.refl _ _⟩
  case round =>
    obtain ⟨k, hk, rfl, hall, hB⟩ := hrel
    by_cases hlt : k < l.length
    · obtain ⟨r, hr⟩ : ∃ r, l[k]? = some r := ⟨_, List.getElem?_eq_getElem hlt⟩
      obtain ⟨b, o, rfl, hc⟩ := (hA.below hB).at (i := k) (r := r.cs) (by rw [List.getElem?_map, hr]; rfl)
      have c0 : wr.cell? ⟨b, o + k * 9, none⟩ = some (.string r.name) := hc 0 _ rfl
      have c1 := hc 1 _ rfl
      have c2 := hc 2 _ rfl
      have c3 := hc 3 _ rfl
      have c4 := hc 4 _ rfl
      have c5 := hc 5 _ rfl
      have c6 := hc 6 _ rfl
      have c7 := hc 7 _ rfl
      have c8 := hc 8 _ rfl
      clear hc
      have hS := impl_named r p s wr (by rw [(bcell hB).1 _ _ (World.block_lt_of_cell? _ _ hp)]; exact hp)
      unfold RuleD.v at hS
      cases hb : (r.name.toList == s.toList)
      · have HR : Hid (∀ j, j < k + 1 → ∀ x, l[j]? = some x → (x.name.toList == s.toList) = false) := fun j hj x hx => by
          by_cases e : j = k
          · subst e; rw [hr] at hx; obtain rfl := Option.some.inj hx; exact hb
          · exact hall.out j (by omega) x hx
        rw [hb] at hS
        clear hb
        go_wp2_with fail
        refine hS.mono ?_
        rintro e w2 ⟨rfl, hb2⟩
        go_wp2
        go_roundw
        case rel => exact ⟨k + 1, by omega, by go_num, HR, hB.trans (hb2.mono hB.size)⟩
        case measure => simp [intOf]; omega
      · have HR : Hid ((l.any fun x => x.name.toList == s.toList) = true) := any_yes hr hb
        rw [hb] at hS
        clear hb
        go_wp2_with fail
        refine hS.mono ?_
        rintro e w2 ⟨rfl, hb2⟩
        go_wp2
        go_ret
        exact ⟨⟨_, rfl, by rw [HR.out]; simp⟩, hB.trans (hb2.mono hB.size)⟩
    · have e : k = l.length := by omega
      subst e
      have HR : Hid ((l.any fun x => x.name.toList == s.toList) = false) := any_no hall.out
      go_wp2
      go_ret
      exact ⟨⟨_, rfl, by rw [HR.out]; rfl⟩, hB⟩
set_option maxHeartbeats 400000 in
theorem impl_containsRule (l : List RuleD) (a : Option Addr) (cap p : Nat) (s : ByteArray) (w : World) (hA : SeqAt w a 9 (l.map RuleD.cs)) (hl : l.length ≤ 1048576) (hp : w.cell? ⟨p, 1, none⟩ = some (.string s)) :
    Calls Tryz.prog 143 #[.slice a l.length cap, .func (.func 142) #[] #[.pointer (some ⟨p, 0, none⟩)]] w fun e w' => e = .returned (.bool (hasB l s)) ∧ Below w.heap.size w w' := by
  have hI := impl_indexRule l a cap p s w hA hl hp
  generalize hasB l s = q at *
  go_enter Tryz.func143, Tryz.ntmps143
  go_wp2_with fail
  refine hI.mono ?_
  rintro e w1 ⟨⟨n, rfl, hn⟩, hb⟩
  go_wp2
  go_ret
  exact ⟨ret_bool (by simp), hb⟩
end Go.Proofs.YtjdokmllidhapaaGreatDoor
