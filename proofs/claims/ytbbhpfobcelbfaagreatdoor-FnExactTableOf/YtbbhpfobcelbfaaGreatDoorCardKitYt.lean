/- What the cards over the months' table and the tables of unicode/utf8 share. -/
import Derived.Test.YtbbhpfobcelbfaaGreatDoorCardKitt
import Derived.Stop.LaidErr
namespace Go.Proofs.YtbbhpfobcelbfaaGreatDoor
open Go.ChangeShapes Go.WideShapes Go.ChangeAt Go.RowKit

theorem tab_of_mid {W : World} (h : laidMetH Tryz.prog [("unicode/utf8.acceptRanges", Rows.laid_unicode_utf8_acceptRanges), ("loop.example/g00364/impl.monthLengths", Rows.laid_loop_example_g00364_impl_monthLengths), ("unicode/utf8.first", Rows.laid_unicode_utf8_first)] W) : Tab W := fun i hi =>
  (Lib.tabIs_of_head (zs := tabList) (rest := [("unicode/utf8.first", Rows.laid_unicode_utf8_first)]) gTab gTabType Tryz.underlying278 Tryz.underlying2 cellsInt64 cellsTab (laidMet.tail h)).cell gTab i hi |>.trans (by rw [List.getD_eq_getElem?_getD])
def layAt (w : World) (g : Nat) (cs : Array Value) : World :=
  { w with heap := w.heap.modify g fun
      | .cells _ t frozen => .cells cs t frozen
      | o => o }
/-- the two tables, as their initialisers lay them. -/
def laidUtf (w : World) : World :=
  layAt (layAt w 2 #[.int .u8 128, .int .u8 191, .int .u8 160, .int .u8 191, .int .u8 128, .int .u8 159, .int .u8 144, .int .u8 191, .int .u8 128, .int .u8 143, .int .u8 0, .int .u8 0, .int .u8 0, .int .u8 0, .int .u8 0, .int .u8 0, .int .u8 0, .int .u8 0, .int .u8 0, .int .u8 0, .int .u8 0, .int .u8 0, .int .u8 0, .int .u8 0, .int .u8 0, .int .u8 0, .int .u8 0, .int .u8 0, .int .u8 0, .int .u8 0, .int .u8 0, .int .u8 0])
    1 (Go.Pinned.utf8FirstZ.map fun (n : Nat) => Value.int .u8 n).toArray
end Go.Proofs.YtbbhpfobcelbfaaGreatDoor
