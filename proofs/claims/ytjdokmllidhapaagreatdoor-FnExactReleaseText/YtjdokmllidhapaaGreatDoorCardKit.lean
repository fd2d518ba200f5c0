/- What the cards over the months' table share: the table out of the listed variable, a world for the witness, the variable read again. -/
import Derived.Test.YtjdokmllidhapaaGreatDoorCards
import Derived.Test.YtjdokmllidhapaaGreatDoorTie
import Derived.Test.YtjdokmllidhapaaGreatDoorDates
import Derived.ProofKit
import Derived.OpenShut
import Derived.ShutString
import Derived.Deep.DeepHandedRow
import Derived.Lib.SmallJoins
namespace Go.Proofs.YtjdokmllidhapaaGreatDoor
open Go.ChangeShapes Go.WideShapes Go.ChangeAt Go.RowKit

theorem own : ownKnob Tryz.prog.godebug = none := by kernel_rfl
theorem laidOut : laidOutB Tryz.prog = true := by kernel_rfl
theorem gTab : Tryz.prog.globalNamed "loop.example/g00364/impl.monthLengths" = some 3 := by kernel_rfl
theorem gTabType : (Tryz.prog.globals[3]?).map (·.type) = some 294 := by kernel_rfl
theorem cellsTab : Tryz.prog.cellsOf 294 = 13 := by kernel_rfl
theorem cellsInt64 : Tryz.prog.cellsOf 2 = 1 := by kernel_rfl

/-- what a row's list gives where the table stands first on it. -/
theorem tab_of_head {W : World} (h : laidMetH Tryz.prog [("loop.example/g00364/impl.monthLengths", Rows.laid_loop_example_g00364_impl_monthLengths)] W) : Tab W := fun i hi =>
  (Lib.tabIs_of_head (zs := tabList) (rest := []) gTab gTabType Tryz.underlying294 Tryz.underlying2 cellsInt64 cellsTab h).cell gTab i hi |>.trans (by rw [List.getD_eq_getElem?_getD])

/-- the variable reads behind the call as it read before. -/
theorem var_again {H : Type} {enc : TypeId × Value → H} {W W' : World} {gs : List (DataW H)} {q : List MemPlace}
    (hV : DataW.TrodVars enc Tryz.prog W (fun _ => true) ["loop.example/g00364/impl.monthLengths"] gs q) (hlt : ∀ x ∈ q, x.block < W.heap.size) (hT : Tab W) (hb : Below W.heap.size W W') :
    DataW.TrodVars enc Tryz.prog W' (fun b => decide (b < W.heap.size)) ["loop.example/g00364/impl.monthLengths"] gs q := by
  obtain ⟨g, t, cs, fuel, d, p, rfl, hg, ht, hvar, hd, rfl⟩ := trodVars_one hV
  obtain rfl := Option.some.inj (gTab.symm.trans hg)
  obtain rfl := Option.some.inj (gTabType.symm.trans ht)
  have hg0 : 3 < W.heap.size := World.block_lt_of_cell? _ _ (hT 0 (by omega))
  obtain ⟨fuel', hd'⟩ := Below.trod laidOut (by kernel_rfl) (of_decide_eq_true (by kernel_rfl)) (v := .agg cs) (⟨fuel, by simpa [Value.cells] using hd⟩ : DataW.Trod enc Tryz.prog W 0 (fun _ => true) true 294 (.agg cs) d p) hb (fun x hx => hlt x (List.mem_append_right _ hx))
  exact trodVars_mk1 hg ht (var?_below hb hg hg0 hvar) (by simpa [Value.cells] using hd')

/-- a world for the witness: the table holding what its initialiser lays. -/
def laidOn (w : World) : World :=
  { w with heap := w.heap.modify 3 fun
      | .cells _ t frozen => .cells #[.int .i64 0, .int .i64 31, .int .i64 28, .int .i64 31, .int .i64 30, .int .i64 31, .int .i64 30, .int .i64 31, .int .i64 31, .int .i64 30, .int .i64 31, .int .i64 30, .int .i64 31] t frozen
      | o => o }
end Go.Proofs.YtjdokmllidhapaaGreatDoor
