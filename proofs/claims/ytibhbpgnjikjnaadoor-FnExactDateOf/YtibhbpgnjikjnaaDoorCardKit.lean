/- What the cards over the months' table share: the table out of the listed variable, a world for the witness, the variable read again. -/
import Derived.Test.YtibhbpgnjikjnaaDoorCards
import Derived.Test.YtibhbpgnjikjnaaDoorTie
import Derived.Test.YtibhbpgnjikjnaaDoorDates
import Derived.ProofKit
import Derived.OpenShut
import Derived.ShutString
import Derived.Deep.DeepHandedRow
import Derived.Lib.SmallJoins
namespace Go.Proofs.YtibhbpgnjikjnaaDoor
open Go.ChangeShapes Go.WideShapes Go.ChangeAt Go.RowKit

theorem own : ownKnob Tryd.prog.godebug = none := by kernel_rfl
theorem laidOut : laidOutB Tryd.prog = true := by kernel_rfl
theorem gTab : Tryd.prog.globalNamed "loop.example/g00364/impl.monthLengths" = some 0 := by kernel_rfl
theorem gTabType : (Tryd.prog.globals[0]?).map (·.type) = some 58 := by kernel_rfl
theorem cellsTab : Tryd.prog.cellsOf 58 = 13 := by kernel_rfl
theorem cellsInt64 : Tryd.prog.cellsOf 2 = 1 := by kernel_rfl

/-- what a row's list gives where the table stands first on it. -/
theorem tab_of_head {W : World} (h : laidMetH Tryd.prog [("loop.example/g00364/impl.monthLengths", Rows.laid_loop_example_g00364_impl_monthLengths)] W) : Tab W := fun i hi =>
  (Lib.tabIs_of_head (zs := tabList) (rest := []) gTab gTabType Tryd.underlying58 Tryd.underlying2 cellsInt64 cellsTab h).cell gTab i hi |>.trans (by rw [List.getD_eq_getElem?_getD])

/-- the variable reads behind the call as it read before. -/
theorem var_again {H : Type} {enc : TypeId × Value → H} {W W' : World} {gs : List (DataW H)} {q : List MemPlace}
    (hV : DataW.TrodVars enc Tryd.prog W (fun _ => true) ["loop.example/g00364/impl.monthLengths"] gs q) (hlt : ∀ x ∈ q, x.block < W.heap.size) (hT : Tab W) (hb : Below W.heap.size W W') :
    DataW.TrodVars enc Tryd.prog W' (fun b => decide (b < W.heap.size)) ["loop.example/g00364/impl.monthLengths"] gs q := by
  obtain ⟨g, t, cs, fuel, d, p, rfl, hg, ht, hvar, hd, rfl⟩ := trodVars_one hV
  obtain rfl := Option.some.inj (gTab.symm.trans hg)
  obtain rfl := Option.some.inj (gTabType.symm.trans ht)
  have hg0 : 0 < W.heap.size := World.block_lt_of_cell? _ _ (hT 0 (by omega))
  obtain ⟨fuel', hd'⟩ := Below.trod laidOut (by kernel_rfl) (of_decide_eq_true (by kernel_rfl)) (v := .agg cs) (⟨fuel, by simpa [Value.cells] using hd⟩ : DataW.Trod enc Tryd.prog W 0 (fun _ => true) true 58 (.agg cs) d p) hb (fun x hx => hlt x (List.mem_append_right _ hx))
  exact trodVars_mk1 hg ht (var?_below hb hg hg0 hvar) (by simpa [Value.cells] using hd')

/-- a world for the witness: the table holding what its initialiser lays. -/
def laidOn (w : World) : World :=
  { w with heap := w.heap.modify 0 fun
      | .cells _ t frozen => .cells #[.int .i64 0, .int .i64 31, .int .i64 28, .int .i64 31, .int .i64 30, .int .i64 31, .int .i64 30, .int .i64 31, .int .i64 31, .int .i64 30, .int .i64 31, .int .i64 30, .int .i64 31] t frozen
      | o => o }
set_option maxRecDepth 100000 in
/-- a date that came in. -/
theorem open_date {H : Type} {enc : TypeId × Value → H} {W : World} {base : Nat} {v : Value} {d : DataW H} {p : List MemPlace}
    (hv : Value.okWide Tryd.prog W .any base 43 v) (h : DataW.Trod enc Tryd.prog W 0 (fun _ => true) true 43 v d p) : ∃ y m k : Int, v = .agg #[.int .i64 y, .int .i64 m, .int .i64 k] := by
  obtain ⟨c0, c1, c2, y0, y1, y2, n, rfl, _, _, h0, h1, h2⟩ := Joins.open_agg3 Tryd.underlying43 (by kernel_rfl) (by kernel_rfl) hv h
  obtain ⟨a, e0, _, _⟩ := DataW.trod_int Tryd.underlying2 h0
  obtain ⟨b, e1, _, _⟩ := DataW.trod_int Tryd.underlying2 h1
  obtain ⟨c, e2, _, _⟩ := DataW.trod_int Tryd.underlying2 h2
  simp at e0 e1 e2
  subst e0 e1 e2
  exact ⟨a, b, c, rfl⟩
end Go.Proofs.YtibhbpgnjikjnaaDoor
