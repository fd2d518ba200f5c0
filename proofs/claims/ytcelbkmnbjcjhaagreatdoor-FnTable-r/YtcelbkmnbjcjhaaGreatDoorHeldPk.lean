/- Packed: HeldL Held. -/
import Derived.Test.YtcelbkmnbjcjhaaGreatDoorBasePk
import Derived.Deep.RegionHeld3
namespace Go.Proofs.YtcelbkmnbjcjhaaGreatDoor
section
variable {P : Program} {ops : Array Oper} {Q : Exit → Act → World → Prop} {md : Region.Mode} {k : Nat} {S : World → Prop}

/-! the moves of a walk -/
end
end Go.Proofs.YtcelbkmnbjcjhaaGreatDoor
namespace Go.Proofs.YtcelbkmnbjcjhaaGreatDoor

theorem wpAnyH_sub {P : Program} {md : Region.Mode} {ops : Array Oper} {Q : Exit → Act → World → Prop} {S1 S2 : World → Prop} (h : ∀ w, S2 w → S1 w) :
  ∀ (fuel : Nat) (listed : Array Bool) (a : Act) (w : World), wpAnyH P md ops Q S2 fuel listed a w → wpAnyH P md ops Q S1 fuel listed a w
 | 0, _, _, _, hw => hw
 | n + 1, _, _, _, ⟨h0, h1⟩ => ⟨h0, fun i hi => wpOp_mono (fun a w ⟨hs, hw⟩ => ⟨h w hs, wpAnyH_sub h n _ a w hw⟩) (h1 i hi)⟩
end Go.Proofs.YtcelbkmnbjcjhaaGreatDoor
