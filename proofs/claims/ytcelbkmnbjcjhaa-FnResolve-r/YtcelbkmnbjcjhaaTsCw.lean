/- Packed: Hp19 Hp20 Ts9. -/
import Derived.Test.YtcelbkmnbjcjhaaRelAw
import Derived.Test.YtcelbkmnbjcjhaaHpBw
import Derived.Test.YtcelbkmnbjcjhaaHpCw
import Derived.Test.YtcelbkmnbjcjhaaRightAw
import Derived.Test.YtcelbkmnbjcjhaaTbRw
import Derived.Test.YtcelbkmnbjcjhaaTbSw
import Derived.Test.YtcelbkmnbjcjhaaTabPw
namespace Go.Proofs.Ytcelbkmnbjcjhaa
open Go.RowKit

/-- what the program tells. -/
def HapsG (r : RelD) (nm : ByteArray) (off : Int) (H : List HapD) : Prop := (askB r nm off = true ∧ ∃ b, HapsA (ofName r.rules nm) off H b) ∨ (askB r nm off = false ∧ H = [])
theorem haps_one {r : RelD} {nm : ByteArray} {off : Int} {H1 H2 : List HapD} (h1 : HapsG r nm off H1) (h2 : HapsF r nm off H2) : H1 = H2 := by
  rcases h1 with ⟨a1, b1, c1⟩ | ⟨a1, rfl⟩
  · rcases h2 with ⟨_, b2, c2⟩ | ⟨a2, _⟩
    · exact (haps_same c1 c2).1
    · rw [a1] at a2; cases a2
  · rcases h2 with ⟨a2, _⟩ | ⟨_, rfl⟩
    · rw [a1] at a2; cases a2
    · rfl
theorem haps_len {r : RelD} {nm : ByteArray} {off : Int} {H : List HapD} (h : HapsG r nm off H) : H.length ≤ 2000 := by
  rcases h with ⟨ha, b, hh⟩ | ⟨_, rfl⟩
  · rcases hh with ⟨g, _, P, _, hp, rfl⟩ | ⟨_, _, rfl⟩
    · have := foldH_len (off := off) (s := P) (l := ofName r.rules nm) (fun m hm => wallsA_lt (hp.mem_iff.mp hm)) P.length (Nat.le_refl _)
      rw [List.take_length] at this
      rw [this, hp.length_eq]
      exact g
    · simp
  · simp
theorem ruleCs_len {P : List RuleD} : ∀ r ∈ P.map RuleD.cs, r.length = 9 := fun r hr => by
  obtain ⟨x, _, rfl⟩ := List.mem_map.mp hr
  rfl
theorem ruleB_on {x : RuleD} (h : ruleB x = true) : onB x.on = true ∧ x.name.size ≤ 20 := by
  unfold ruleB at h
  simp only [Bool.and_eq_true] at h
  obtain ⟨hn, _, _, _, ho, _⟩ := h
  exact ⟨ho, (nameB_t hn).2.1⟩
end Go.Proofs.Ytcelbkmnbjcjhaa
namespace Go.Proofs.Ytcelbkmnbjcjhaa
open Go.RowKit

theorem owns_touch {S : Nat → Prop} {w w' : World} {base : Nat} {e : TypeId} {size : Nat} {v : Value} {n : Nat} {xs : List Value} (h : w.ownsRow base e size v n xs) (ht : Touch S w w') (hs : ∀ g, v.ownBlock = some g → ¬ S g) : w'.ownsRow base e size v n xs := by
  refine ⟨h.1, ?_⟩
  rcases h.2 with h | ⟨g, cap, cur, rfl, e2, e3, e4⟩
  · exact .inl h
  · exact .inr ⟨g, cap, cur, rfl, e2, (ht.block g (Array.getElem?_eq_some_iff.1 e3).1 (hs g rfl)).trans e3, e4⟩
theorem OwnRelU.belowH {w w' : World} {B U : Nat} {v : Value} {r : RelD} (h : OwnRelU w B U v r) (hb : Below w.heap.size w w') : OwnRelU w' B U v r := by
  obtain ⟨ka, kb, kc, k1, k2, k3, k4, k5, k6, k7, k8⟩ := h.form
  exact ⟨ka, kb, kc, k1, k2, k3, k4, k5.below hb, k6.below hb, k7.below hb, k8.below hb⟩
end Go.Proofs.Ytcelbkmnbjcjhaa
namespace Go.Proofs.Ytcelbkmnbjcjhaa
open Go.RowKit Go.Sort

theorem tabD_len (r : RelD) (nm : ByteArray) : (tabD r nm).2.length ≤ 600 := by
  unfold tabD
  split
  · split
    · split
      · simp
      · split
        · rename_i h
          unfold tabE at h ⊢
          split at h
          · rename_i h2
            rw [if_pos h2]
            exact of_decide_eq_true h
          · cases h
        · simp
    · simp
  · simp
end Go.Proofs.Ytcelbkmnbjcjhaa
