/- What happens by the rules of a name: the program's HapsOf where the model's answer is known. -/
import Derived.Test.YtbbhpfobcelbfaaGreatDoorHpTt
import Derived.Test.YtbbhpfobcelbfaaGreatDoorHp19t
import Derived.Test.YtbbhpfobcelbfaaGreatDoorMarkPt
namespace Go.Proofs.YtbbhpfobcelbfaaGreatDoor
open Go.RowKit

theorem owns_touch {S : Nat → Prop} {w w' : World} {base : Nat} {e : TypeId} {size : Nat} {v : Value} {n : Nat} {xs : List Value} (h : w.ownsRow base e size v n xs) (ht : Touch S w w') (hs : ∀ g, v.ownBlock = some g → ¬ S g) : w'.ownsRow base e size v n xs := by
  refine ⟨h.1, ?_⟩
  rcases h.2 with h | ⟨g, cap, cur, rfl, e2, e3, e4⟩
  · exact .inl h
  · exact .inr ⟨g, cap, cur, rfl, e2, (ht.block g (Array.getElem?_eq_some_iff.1 e3).1 (hs g rfl)).trans e3, e4⟩
theorem OwnRelU.belowH {w w' : World} {B U : Nat} {v : Value} {r : RelD} (h : OwnRelU w B U v r) (hb : Below w.heap.size w w') : OwnRelU w' B U v r := by
  obtain ⟨ka, kb, kc, k1, k2, k3, k4, k5, k6, k7, k8⟩ := h.form
  exact ⟨ka, kb, kc, k1, k2, k3, k4, k5.below hb, k6.below hb, k7.below hb, k8.below hb⟩
theorem impl_HapsOn (r : RelD) (v : Value) (nm : ByteArray) (off : Int) (w : World) (hE : EnvZ w) (hv : RelAt w v r) (ok : r.ok) (sm : r.small) (hon : ∀ x ∈ r.rules, x.on.size ≤ 1048576) (hm : nm.size ≤ maxLen) {H : List HapD} (hF : HapsF r nm off H) :
    Calls Tryz.prog 8 #[v, .string nm, .int .i64 off] w fun e W' => ∃ v', e = .returned v' ∧ OwnsH W' w.heap.size v' H ∧ H.length ≤ 2000 ∧ Below w.heap.size w W' := by
  refine (impl_HapsOf r v nm off w hE hv ok sm hon hm).mono ?_
  rintro e w' ⟨v', G, rfl, hO, hG, hb⟩
  have e := haps_one hG hF
  subst e
  exact ⟨v', rfl, hO, haps_len hG, hb⟩
end Go.Proofs.YtbbhpfobcelbfaaGreatDoor
