/- Packed: TabRel MarkTurn Ts9. -/
import Derived.Test.YtcelbkmnbjcjhaaGreatDoorRelPk
import Derived.Test.YtcelbkmnbjcjhaaGreatDoorMarkPk
import Derived.Lib.QuietBelow
import Derived.Test.YtcelbkmnbjcjhaaGreatDoorTbSk
import Derived.Test.YtcelbkmnbjcjhaaGreatDoorHpUk
import Derived.Test.YtcelbkmnbjcjhaaGreatDoorHkPk
namespace Go.Proofs.YtcelbkmnbjcjhaaGreatDoor
open Go.RowKit Go.Sort

def TabAt (w : World) (v : Value) (l : List TurnD) : Prop := ∃ a cap, v = .agg #[.slice a l.length cap] ∧ SeqAt w a 4 (l.map TurnD.cs)
theorem TabAt.below {w w' : World} {v : Value} {l : List TurnD} (h : TabAt w v l) (hb : Below w.heap.size w w') : TabAt w' v l := by
 obtain ⟨a, cap, rfl, hA⟩ := h
 exact ⟨a, cap, rfl, hA.below hb⟩
end Go.Proofs.YtcelbkmnbjcjhaaGreatDoor
namespace Go.Proofs.YtcelbkmnbjcjhaaGreatDoor
open Go.RowKit Go.Sort

end Go.Proofs.YtcelbkmnbjcjhaaGreatDoor
namespace Go.Proofs.YtcelbkmnbjcjhaaGreatDoor
open Go.RowKit Go.Sort

theorem tabD_len (r : RelD) (nm : ByteArray) : (tabD r nm).2.length ≤ 600 := by
 unfold tabD
 split
 ·
  split
  ·
   split
   ·
    simp
   ·
    split
    ·
     rename_i h
     unfold tabE at h ⊢
     split at h
     ·
      rename_i h2
      rw [if_pos h2]
      exact of_decide_eq_true h
     ·
      cases h
    ·
     simp
  ·
   simp
 ·
  simp
end Go.Proofs.YtcelbkmnbjcjhaaGreatDoor
