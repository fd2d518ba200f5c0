/- Packed: CardKit CardKitY RowKitD. -/
import Derived.Test.YtcelbkmnbjcjhaaGreatDoorCards
import Derived.Test.YtcelbkmnbjcjhaaGreatDoorTie
import Derived.Test.YtcelbkmnbjcjhaaGreatDoorBasePk
import Derived.ProofKit
import Derived.OpenShut
import Derived.ShutString
import Derived.Deep.DeepHandedRow
import Derived.Lib.SmallJoins
import Derived.Stop.LaidErr
import Derived.Test.YtcelbkmnbjcjhaaGreatDoorDrPk
namespace Go.Proofs.YtcelbkmnbjcjhaaGreatDoor
open Go.ChangeShapes Go.WideShapes Go.ChangeAt Go.RowKit

theorem own : ownKnob Tryz.prog.godebug = none := by kernel_rfl
theorem laidOut : laidOutB Tryz.prog = true := by kernel_rfl
theorem gTab : Tryz.prog.globalNamed "loop.example/g00364/impl.monthLengths" = some 3 := by kernel_rfl
theorem gTabType : (Tryz.prog.globals[3]?).map (·.type) = some 223 := by kernel_rfl
theorem cellsTab : Tryz.prog.cellsOf 223 = 13 := by kernel_rfl
theorem cellsInt64 : Tryz.prog.cellsOf 2 = 1 := by kernel_rfl

theorem var_again {H : Type} {enc : TypeId × Value → H} {W W' : World} {gs : List (DataW H)} {q : List MemPlace}
  (hV : DataW.TrodVars enc Tryz.prog W (fun _ => true) ["loop.example/g00364/impl.monthLengths"] gs q) (hlt : ∀ x ∈ q, x.block < W.heap.size) (hT : Tab W) (hb : Below W.heap.size W W') :
  DataW.TrodVars enc Tryz.prog W' (fun b => decide (b < W.heap.size)) ["loop.example/g00364/impl.monthLengths"] gs q := by
 obtain ⟨g, t, cs, fuel, d, p, rfl, hg, ht, hvar, hd, rfl⟩ := trodVars_one hV
 obtain rfl := Option.some.inj (gTab.symm.trans hg)
 obtain rfl := Option.some.inj (gTabType.symm.trans ht)
 have hg0 : 3 < W.heap.size := World.block_lt_of_cell? _ _ (hT 0 (by omega))
 obtain ⟨fuel', hd'⟩ := Below.trod laidOut (by kernel_rfl) (of_decide_eq_true (by kernel_rfl)) (v := .agg cs) (⟨fuel, by simpa [Value.cells] using hd⟩ : DataW.Trod enc Tryz.prog W 0 (fun _ => true) true 223 (.agg cs) d p) hb (fun x hx => hlt x (List.mem_append_right _ hx))
 exact trodVars_mk1 hg ht (var?_below hb hg hg0 hvar) (by simpa [Value.cells] using hd')

def laidOn (w : World) : World :=
 { w with heap := w.heap.modify 3 fun
   | .cells _ t frozen => .cells #[.int .i64 0, .int .i64 31, .int .i64 28, .int .i64 31, .int .i64 30, .int .i64 31, .int .i64 30, .int .i64 31, .int .i64 31, .int .i64 30, .int .i64 31, .int .i64 30, .int .i64 31] t frozen
   | o => o }
end Go.Proofs.YtcelbkmnbjcjhaaGreatDoor
namespace Go.Proofs.YtcelbkmnbjcjhaaGreatDoor
open Go.ChangeShapes Go.WideShapes Go.ChangeAt Go.RowKit

theorem tab_of_mid {W : World} (h : laidMetH Tryz.prog [("unicode/utf8.acceptRanges", Rows.laid_unicode_utf8_acceptRanges), ("loop.example/g00364/impl.monthLengths", Rows.laid_loop_example_g00364_impl_monthLengths), ("unicode/utf8.first", Rows.laid_unicode_utf8_first)] W) : Tab W := fun i hi =>
 (Lib.tabIs_of_head (zs := tabList) (rest := [("unicode/utf8.first", Rows.laid_unicode_utf8_first)]) gTab gTabType Tryz.underlying223 Tryz.underlying2 cellsInt64 cellsTab (laidMet.tail h)).cell gTab i hi |>.trans (by rw [List.getD_eq_getElem?_getD])
def layAt (w : World) (g : Nat) (cs : Array Value) : World :=
 { w with heap := w.heap.modify g fun
   | .cells _ t frozen => .cells cs t frozen
   | o => o }
def laidUtf (w : World) : World :=
 layAt (layAt w 2 #[.int .u8 128, .int .u8 191, .int .u8 160, .int .u8 191, .int .u8 128, .int .u8 159, .int .u8 144, .int .u8 191, .int .u8 128, .int .u8 143, .int .u8 0, .int .u8 0, .int .u8 0, .int .u8 0, .int .u8 0, .int .u8 0, .int .u8 0, .int .u8 0, .int .u8 0, .int .u8 0, .int .u8 0, .int .u8 0, .int .u8 0, .int .u8 0, .int .u8 0, .int .u8 0, .int .u8 0, .int .u8 0, .int .u8 0, .int .u8 0, .int .u8 0, .int .u8 0])
  1 (Go.Pinned.utf8FirstZ.map fun (n : Nat) => Value.int .u8 n).toArray
end Go.Proofs.YtcelbkmnbjcjhaaGreatDoor
namespace Go.Proofs.YtcelbkmnbjcjhaaGreatDoor
open Go.ChangeShapes Go.WideShapes Go.ChangeAt Go.RowKit
theorem isRow_of {H : Type} {enc : TypeId × Value → H} {W : World} {a : Option Addr} {len cap : Nat} {d : DataW H} {p : List MemPlace}
  (h : DataW.Trod enc Tryz.prog W 0 (fun _ => true) true 22 (.slice a len cap) d p) : RowOf W a len := by
 obtain ⟨fuel, hf⟩ := h
 rcases open_ints Tryz.underlying22 Tryz.underlying5 (by kernel_rfl) hf with ⟨hcs, _⟩ | ⟨x, l, c, zs, hcs, _, hl, hm, hz, _, hcell, hwz⟩
 ·
  simp [Value.cells] at hcs
  obtain ⟨rfl, rfl, rfl⟩ := hcs
  exact .inl rfl
 ·
  simp [Value.cells] at hcs
  obtain ⟨rfl, rfl, rfl⟩ := hcs
  by_cases h0 : len = 0
  ·
   exact .inl h0
  ·
   obtain ⟨b, off, spot⟩ := x
   have hz' : zs.length = cap := by simpa using hz
   have hc0 := hcell 0 (by omega)
   have hspot : spot = none := by simpa [Addr.add] using World.cell?_spot hc0
   subst hspot
   refine .inr ⟨b, off, rfl, fun i hi => ⟨zs.getD i 0, ?_, ?_, ?_⟩⟩
   ·
    have := hcell i (by omega)
    have e : (⟨b, off, none⟩ : Addr).add i = ⟨b, off + i, none⟩ := by unfold Addr.add; split <;> simp_all
    rw [e] at this
    exact this
   ·
    have hw := hwz (zs.getD i 0) (by rw [List.getD_eq_getElem?_getD, List.getElem?_eq_getElem (by omega)]; simp)
    exact (bounds_u8 hw).1
   ·
    have hw := hwz (zs.getD i 0) (by rw [List.getD_eq_getElem?_getD, List.getElem?_eq_getElem (by omega)]; simp)
    exact (bounds_u8 hw).2
end Go.Proofs.YtcelbkmnbjcjhaaGreatDoor
