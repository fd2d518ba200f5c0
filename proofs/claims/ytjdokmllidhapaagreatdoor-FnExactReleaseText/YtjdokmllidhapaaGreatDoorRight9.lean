/- Is a text among some: the model's. -/
import Derived.Test.YtjdokmllidhapaaGreatDoorRight8
namespace Go.Proofs.YtjdokmllidhapaaGreatDoor
open Go.RowKit

/-- a list of texts in memory. -/
def StrsAt (w : World) (a : Option Addr) (ss : List ByteArray) : Prop :=
  ss = [] ∨ ∃ b o, a = some ⟨b, o, none⟩ ∧ ∀ i s, ss[i]? = some s → w.cell? ⟨b, o + i, none⟩ = some (.string s)
theorem StrsAt.at {w : World} {a : Option Addr} {ss : List ByteArray} (h : StrsAt w a ss) {i : Nat} {s : ByteArray} (hi : ss[i]? = some s) : ∃ b o, a = some ⟨b, o, none⟩ ∧ w.cell? ⟨b, o + i, none⟩ = some (.string s) := by
  rcases h with rfl | ⟨b, o, ha, hc⟩
  · simp at hi
  · exact ⟨b, o, ha, hc i s hi⟩
theorem StrsAt.below {w w' : World} {a : Option Addr} {ss : List ByteArray} (h : StrsAt w a ss) (hb : Below w.heap.size w w') : StrsAt w' a ss := by
  rcases h with h | ⟨b, o, ha, hc⟩
  · exact .inl h
  · exact .inr ⟨b, o, ha, fun i s hi => by
      have := hc i s hi
      rw [(bcell hb).1 _ _ (World.block_lt_of_cell? _ _ this)]; exact this⟩
theorem StrsAt.take {w : World} {a : Option Addr} {ss : List ByteArray} (h : StrsAt w a ss) (n : Nat) : StrsAt w a (ss.take n) := by
  rcases h with rfl | ⟨b, o, ha, hc⟩
  · exact .inl (by simp)
  · exact .inr ⟨b, o, ha, fun i s hi => hc i s (by rw [List.getElem?_take] at hi; split at hi <;> simp_all)⟩
def inB (ss : List ByteArray) (t : ByteArray) : Bool := ss.any fun s => s.toList == t.toList
set_option maxHeartbeats 2000000 in
theorem spec_l02In (l : List ByteArray) (a : Option Addr) (cap : Nat) (t : ByteArray) (w : World) (hA : StrsAt w a l) (hl : l.length ≤ 1048576) :
    Calls Tryz.prog 65 #[.slice a l.length cap, .string t] w fun e w' => e = .returned (.bool (inB l t)) ∧ w' = w := by
  unfold inB
  go_enter Tryz.func65, Tryz.ntmps65
  go_wp2
  go_loop [5] (fun i => ∃ k : Nat, k ≤ l.length ∧ i = .int .i64 k ∧ Hid (∀ j, j < k → ∀ x, l[j]? = some x → (x.toList == t.toList) = false)) (fun i => l.length - (intOf i).toNat)
  case atStart => exact ⟨0, by omega, rfl, fun j hj => by omega⟩
  case round =>
    obtain ⟨k, hk, rfl, hall⟩ := hrel
    by_cases hlt : k < l.length
    · obtain ⟨x, hx⟩ : ∃ x, l[k]? = some x := ⟨_, List.getElem?_eq_getElem hlt⟩
      obtain ⟨b, o, rfl, c0⟩ := hA.at hx
      cases hb : (x.toList == t.toList)
      · have HR : Hid (∀ j, j < k + 1 → ∀ x, l[j]? = some x → (x.toList == t.toList) = false) := fun j hj y hy => by
          by_cases e : j = k
          · subst e; rw [hx] at hy; obtain rfl := Option.some.inj hy; exact hb
          · exact hall.out j (by omega) y hy
        go_wp2
        go_round
        case rel => exact ⟨k + 1, by omega, by go_num, HR⟩
        case measure => simp [intOf]; omega
      · have HR : Hid ((l.any fun x => x.toList == t.toList) = true) := any_yes hx hb
        go_wp2
        go_ret
        exact ⟨ret_bool HR.out.symm, rfl⟩
    · have e : k = l.length := by omega
      subst e
      have HR : Hid ((l.any fun x => x.toList == t.toList) = false) := any_no hall.out
      go_wp2
      go_ret
      exact ⟨ret_bool HR.out.symm, rfl⟩
end Go.Proofs.YtjdokmllidhapaaGreatDoor
