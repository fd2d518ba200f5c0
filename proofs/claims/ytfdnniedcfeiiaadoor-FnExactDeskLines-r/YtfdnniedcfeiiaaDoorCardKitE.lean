/- What the card over the desk's error shares: the error out of the listed variable, a world for the witness, the variable read again. -/
import Derived.Test.YtfdnniedcfeiiaaDoorCards
import Derived.Test.YtfdnniedcfeiiaaDoorTie
import Derived.Test.YtfdnniedcfeiiaaDoorD4
import Derived.ProofKit
import Derived.OpenShut
import Derived.ShutString
import Derived.Deep.DeepHandedRow
import Derived.Lib.SmallJoins
import Derived.Stop.LaidErr
namespace Go.Proofs.YtfdnniedcfeiiaaDoor
open Go.ChangeShapes Go.WideShapes Go.ChangeAt Go.RowKit Go.Stop

theorem own : ownKnob Tryd.prog.godebug = none := by kernel_rfl
theorem laidOut : laidOutB Tryd.prog = true := by kernel_rfl
theorem gErr : Tryd.prog.globalNamed "loop.example/g00364/impl.errNoDeskLine" = some 0 := by kernel_rfl
theorem gErrType : (Tryd.prog.globals[0]?).map (·.type) = some 30 := by kernel_rfl
theorem starE : "*" ++ "errors.errorString" = "*errors.errorString" := by decide
theorem rowE (u : TypeId) (h : Tryd.prog.typeName? 3 u = some "*errors.errorString") : u = 32 :=
  typeName_ptr_named (nm := "errors.errorString") (by rw [starE]; kernel_rfl) (by kernel_rfl) (by decide) u (by rw [starE]; exact h)
theorem cellsE : Tryd.prog.cellsOf 50 = 1 := by kernel_rfl
theorem cellsS : Tryd.prog.cellsOf 9 = 1 := by kernel_rfl
theorem var_of_head {W : World} (h : laidMetH Tryd.prog [("loop.example/g00364/impl.errNoDeskLine", Rows.laid_loop_example_g00364_impl_errNoDeskLine)] W) : ∃ p, W.var? Tryd.prog "loop.example/g00364/impl.errNoDeskLine" = some #[.iface 32 (.pointer (some p))] := by
  obtain ⟨a, s, h1, _⟩ := laid_sentinel (P := Tryd.prog) (r := []) h gErr gErrType Tryd.underlying30 rowE Tryd.underlying32 Tryd.underlying50 rfl rfl Tryd.underlying9 cellsE cellsS
  exact ⟨a, h1⟩
/-- what a row's list gives. -/
theorem err_of_head {W : World} (h : laidMetH Tryd.prog [("loop.example/g00364/impl.errNoDeskLine", Rows.laid_loop_example_g00364_impl_errNoDeskLine)] W) : ∃ p, ErrAt W p := by
  obtain ⟨p, h1⟩ := var_of_head h
  exact ⟨p, by simpa [ErrAt] using World.var?_cell gErr h1 0⟩
/-- the variable reads behind the call as it read before. -/
theorem var_again {H : Type} {enc : TypeId × Value → H} {W W' : World} {gs : List (DataW H)} {q : List MemPlace} {p : Addr}
    (hV : DataW.TrodVars enc Tryd.prog W (fun _ => true) ["loop.example/g00364/impl.errNoDeskLine"] gs q) (hlt : ∀ x ∈ q, x.block < W.heap.size) (hT : ErrAt W p) (hb : Below W.heap.size W W') :
    DataW.TrodVars enc Tryd.prog W' (fun b => decide (b < W.heap.size)) ["loop.example/g00364/impl.errNoDeskLine"] gs q := by
  obtain ⟨g, t, cs, fuel, d, pl, rfl, hg, ht, hvar, hd, rfl⟩ := trodVars_one hV
  obtain rfl := Option.some.inj (gErr.symm.trans hg)
  obtain rfl := Option.some.inj (gErrType.symm.trans ht)
  have hg0 : 0 < W.heap.size := World.block_lt_of_cell? _ _ hT
  obtain ⟨l⟩ := cs
  obtain ⟨x, hx, ix, hy⟩ := held_of_trod_list Tryd.underlying30 hd
  simp only at hx
  subst hx
  obtain ⟨rfl, rfl⟩ := Prod.mk.inj hy
  exact trodVars_mk1 hg ht (var?_below hb hg hg0 hvar) (trod_held Tryd.underlying30 ix 0)
/-- the block that the error lies in, in the witness' world. -/
def lowE : Nat := 6
/-- the error's text. -/
def errS : ByteArray := ⟨#[116, 104, 101, 32, 108, 105, 110, 101, 32, 109, 97, 121, 32, 110, 111, 116, 32, 115, 116, 97, 110, 100, 32, 105, 110, 32, 97, 32, 100, 101, 115, 107, 39, 115, 32, 116, 101, 120, 116]⟩
/-- a world for the witness: the error as its initialiser lays it. -/
def laidErr (w : World) : World :=
  { w with heap := w.heap.modify 0 fun
      | .cells _ t frozen => .cells #[.iface 32 (.pointer (some ⟨lowE, 0, none⟩))] t frozen
      | o => o }
end Go.Proofs.YtfdnniedcfeiiaaDoor
