/- The model's l03Table keeps its contract. -/
import Derived.Test.YtbbhpfobcelbfaaGreatDoorTs7t
import Derived.Test.YtbbhpfobcelbfaaGreatDoorTs8t
import Derived.Test.YtbbhpfobcelbfaaGreatDoorTsRt
namespace Go.Proofs.YtbbhpfobcelbfaaGreatDoor
open Go.RowKit

theorem tabC : TabC := ⟨fun r zn E ae ce a b0 c ca cb cc w hv hE hr hrl hon hP hl hU => spec_l03Table r zn E ae ce a b0 c ca cb cc w hv hE hr hrl hon hP hl hU⟩
end Go.Proofs.YtbbhpfobcelbfaaGreatDoor
