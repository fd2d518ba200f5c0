/- Two tables that come in: what the laws on them share. -/
import Derived.Test.YtjfonbnmdcpepaaTabRel
namespace Go.Proofs.Ytjfonbnmdcpepaa
open Go.RowKit

/-- a cell is as it was. -/
theorem keepC {w w' : World} (hb : Below w.heap.size w w') {b o : Nat} {v : Value} (h : w.cell? ⟨b, o, none⟩ = some v) : w'.cell? ⟨b, o, none⟩ = some v := ((bcell hb).1 _ _ (World.block_lt_of_cell? _ _ h)).trans h
theorem below_drew (w : World) : Below w.heap.size w w.drew := ⟨rfl, rfl, rfl, Nat.le_refl _, fun _ _ => rfl⟩
end Go.Proofs.Ytjfonbnmdcpepaa
