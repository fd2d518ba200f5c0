/- Packed. -/
import Derived.Test.YtgiieknbckhofaaGreatDoorCards
import Derived.Test.YtgiieknbckhofaaGreatDoorTie
import Derived.Test.YtgiieknbckhofaaGreatDoorBasePu
import Derived.Deep.DeepHandedRow
import Derived.Lib.SmallJoins
import Derived.Stop.LaidErr
set_option maxHeartbeats 20000000
set_option linter.unusedSimpArgs false
namespace Go.Proofs.YtgiieknbckhofaaGreatDoor
section
open Go.ChangeShapes Go.WideShapes Go.ChangeAt Go.RowKit
theorem own : ownKnob Tryz.prog.godebug = none := by kernel_rfl
theorem jwg : laidOutB Tryz.prog = true := by kernel_rfl
theorem gTab : Tryz.prog.globalNamed "loop.example/g00364/impl.monthLengths" = some 0 := by kernel_rfl
theorem gTabType : (Tryz.prog.globals[0]?).map (·.type) = some 317 := by kernel_rfl
theorem j0o : Tryz.prog.cellsOf 317 = 13 := by kernel_rfl
theorem jue : Tryz.prog.cellsOf 2 = 1 := by kernel_rfl
theorem juv {H : Type} {enc : TypeId × Value -> H} {W W' : World} {gs : List (DataW H)} {q : List MemPlace}
  (hV : DataW.TrodVars enc Tryz.prog W (fun _ => true) ["loop.example/g00364/impl.monthLengths"] gs q) (hlt : ∀ x ∈ q, x.block < W.heap.size) (hT : Tab W) (hb : Bw W W') :
  DataW.TrodVars enc Tryz.prog W' (fun b => decide (b < W.heap.size)) ["loop.example/g00364/impl.monthLengths"] gs q := by
 obtain ⟨g, t, cs, pu, d, p, rfl, hg, ht, CM, hd, rfl⟩ := trodVars_one hV
 obtain rfl := osi (gTab.symm.trans hg)
 obtain rfl := osi (gTabType.symm.trans ht)
 have jt : 0 < W.heap.size := qbl (hT 0 (by omega))
 obtain ⟨Fm, BZ⟩ := Below.trod jwg (by kernel_rfl) (odt (by kernel_rfl)) (v := .agg cs) (⟨pu, by simpa [Value.cells] using hd⟩ : DataW.Trod enc Tryz.prog W 0 (fun _ => true) true 317 (.agg cs) d p) hb (fun x hx => hlt x (List.mem_append_right _ hx))
 exact trodVars_mk1 hg ht (var?_below hb hg jt CM) (by simpa [Value.cells] using BZ)
def jwh (w : World) : World :=
 { w with heap := w.heap.modify 0 fun
   | .cells _ t frozen => .cells #[.int .i64 0, .int .i64 31, .int .i64 28, .int .i64 31, .int .i64 30, .int .i64 31, .int .i64 30, .int .i64 31, .int .i64 31, .int .i64 30, .int .i64 31, .int .i64 30, .int .i64 31] t frozen
   | o => o }
end
section
open Go.ChangeShapes Go.WideShapes Go.ChangeAt Go.RowKit
theorem js0 {W : World} (h : laidMetH Tryz.prog [("unicode/utf8.acceptRanges", Rows.laid_unicode_utf8_acceptRanges), ("loop.example/g00364/impl.monthLengths", Rows.laid_loop_example_g00364_impl_monthLengths), ("unicode/utf8.first", Rows.laid_unicode_utf8_first)] W) : Tab W := fun i hi =>
 (Lib.tabIs_of_head (zs := tabList) (rest := [("unicode/utf8.first", Rows.laid_unicode_utf8_first)]) gTab gTabType Tryz.underlying317 Tryz.underlying2 jue j0o (laidMet.tail h)).cell gTab i hi |>.trans (by rw [List.getD_eq_getElem?_getD])
def j3p (w : World) (g : Nat) (cs : Array Value) : World :=
 { w with heap := w.heap.modify g fun
   | .cells _ t frozen => .cells cs t frozen
   | o => o }
def jql (w : World) : World :=
 j3p (j3p w 3 #[.int .u8 128, .int .u8 191, .int .u8 160, .int .u8 191, .int .u8 128, .int .u8 159, .int .u8 144, .int .u8 191, .int .u8 128, .int .u8 143, .int .u8 0, .int .u8 0, .int .u8 0, .int .u8 0, .int .u8 0, .int .u8 0, .int .u8 0, .int .u8 0, .int .u8 0, .int .u8 0, .int .u8 0, .int .u8 0, .int .u8 0, .int .u8 0, .int .u8 0, .int .u8 0, .int .u8 0, .int .u8 0, .int .u8 0, .int .u8 0, .int .u8 0, .int .u8 0])
  2 (Go.Pinned.utf8FirstZ.map fun (n : Nat) => Value.int .u8 n).toArray
end
end Go.Proofs.YtgiieknbckhofaaGreatDoor
