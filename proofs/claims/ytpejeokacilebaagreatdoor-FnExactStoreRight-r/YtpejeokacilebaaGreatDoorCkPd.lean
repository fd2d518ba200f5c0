import Derived.Test.YtpejeokacilebaaGreatDoorCards
import Derived.Test.YtpejeokacilebaaGreatDoorTie
import Derived.Test.YtpejeokacilebaaGreatDoorBasePd
import Derived.Deep.DeepHandedRow
import Derived.Lib.SmallJoins
import Derived.Stop.LaidErr
set_option maxHeartbeats 0
set_option linter.unusedSimpArgs false
namespace Go.Proofs.YtpejeokacilebaaGreatDoor
section
open Go.ChangeShapes Go.WideShapes Go.ChangeAt Go.RowKit
theorem own:ownKnob Tryz.prog.godebug=none:=by kernel_rfl
theorem jwh:laidOutB Tryz.prog=true:=by kernel_rfl
theorem gTab : Tryz.prog.globalNamed "loop.example/g00364/impl.monthLengths" = some 0 := by kernel_rfl
theorem gTabType:(Tryz.prog.globals[0]?).map (·.type)=some 276:=by kernel_rfl
theorem j0k:Tryz.prog.cellsOf 276=13:=by kernel_rfl
theorem jt9:Tryz.prog.cellsOf 2=1:=by kernel_rfl
theorem jur {H:Type} {enc:TypeId × Value->H} {W W':World} {gs:List (DataW H)} {q:List MemPlace}
  (hV : DataW.TrodVars enc Tryz.prog W (fun _ => true) ["loop.example/g00364/impl.monthLengths"] gs q) (hlt : ∀ x ∈ q, x.block < W.heap.size) (hT : Tab W) (hb : Bw W W') :
  DataW.TrodVars enc Tryz.prog W' (fun b => decide (b < W.heap.size)) ["loop.example/g00364/impl.monthLengths"] gs q := by
 obtain⟨g,t,cs,pi,d,p,rfl,hg,ht,CF,hd,rfl⟩:=trodVars_one hV
 obtain rfl:=osi (gTab.symm.trans hg)
 obtain rfl:=osi (gTabType.symm.trans ht)
 have kC:0<W.heap.size:=qbl (hT 0 (by omega))
 obtain⟨ER,BV⟩:=Below.trod jwh (by kernel_rfl) (odt (by kernel_rfl)) (v:=.agg cs) (⟨pi,by simpa [Value.cells]using hd⟩:DataW.Trod enc Tryz.prog W 0 (fun _=>true) true 276 (.agg cs) d p) hb (fun x hx=>hlt x (List.mem_append_right _ hx))
 exact trodVars_mk1 hg ht (var?_below hb hg kC CF) (by simpa [Value.cells]using BV)
def jwi(w:World):World:=
 { w with heap:=w.heap.modify 0 fun
   |.cells _ t frozen=>.cells #[.int .i64 0,.int .i64 31,.int .i64 28,.int .i64 31,.int .i64 30,.int .i64 31,.int .i64 30,.int .i64 31,.int .i64 31,.int .i64 30,.int .i64 31,.int .i64 30,.int .i64 31] t frozen
   |o=>o }
end
section
open Go.ChangeShapes Go.WideShapes Go.ChangeAt Go.RowKit
theorem jsv {W : World} (h : laidMetH Tryz.prog [("unicode/utf8.acceptRanges", Rows.laid_unicode_utf8_acceptRanges), ("loop.example/g00364/impl.monthLengths", Rows.laid_loop_example_g00364_impl_monthLengths), ("unicode/utf8.first", Rows.laid_unicode_utf8_first)] W) : Tab W := fun i hi =>
 (Lib.tabIs_of_head (zs := tabList) (rest := [("unicode/utf8.first", Rows.laid_unicode_utf8_first)]) gTab gTabType Tryz.underlying276 Tryz.underlying2 jt9 j0k (laidMet.tail h)).cell gTab i hi |>.trans (by rw [List.getD_eq_getElem?_getD])
def j3m(w:World)(g:Nat)(cs:Array Value):World:=
 { w with heap:=w.heap.modify g fun
   |.cells _ t frozen=>.cells cs t frozen
   |o=>o }
def jqg(w:World):World:=
 j3m (j3m w 3 #[.int .u8 128,.int .u8 191,.int .u8 160,.int .u8 191,.int .u8 128,.int .u8 159,.int .u8 144,.int .u8 191,.int .u8 128,.int .u8 143,.int .u8 0,.int .u8 0,.int .u8 0,.int .u8 0,.int .u8 0,.int .u8 0,.int .u8 0,.int .u8 0,.int .u8 0,.int .u8 0,.int .u8 0,.int .u8 0,.int .u8 0,.int .u8 0,.int .u8 0,.int .u8 0,.int .u8 0,.int .u8 0,.int .u8 0,.int .u8 0,.int .u8 0,.int .u8 0])
  2 (Go.Pinned.utf8FirstZ.map fun(n:Nat)=>Value.int .u8 n).toArray
