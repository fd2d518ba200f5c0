import Derived.Test.YtbbgeelamjmgaaaGreatDoorCards
import Derived.Test.YtbbgeelamjmgaaaGreatDoorTie
import Derived.Deep.DeepHandedRow
import Derived.Lib.SmallJoins
import Derived.Stop.LaidErr
import Derived.Test.YtbbgeelamjmgaaaGreatDoorSRd
set_option maxHeartbeats 0
set_option linter.unusedSimpArgs false
namespace Go.Proofs.YtbbgeelamjmgaaaGreatDoor
variable{W:World}
section
open Go.ChangeShapes Go.WideShapes Go.ChangeAt Go.RowKit
theorem own:ownKnob Tryz.prog.godebug=none:=by kernel_rfl
theorem jwh:laidOutB Tryz.prog=true:=by kernel_rfl
theorem vd5: Tryz.prog.globalNamed "loop.example/g00364/impl.monthLengths" = some 0 := by kernel_rfl
theorem ve9:(Tryz.prog.globals[0]?).map (·.type)=some 290:=by kernel_rfl
theorem j0k:Tryz.prog.cellsOf 290=13:=by kernel_rfl
theorem jt9:Tryz.prog.cellsOf 2=1:=by kernel_rfl
theorem jur{H:Type}{enc:TypeId × Value->H}{W':World}{gs:List (DataW H)}{q:List MemPlace}
  (hV : DataW.TrodVars enc Tryz.prog W (λ_ => true) ["loop.example/g00364/impl.monthLengths"] gs q) (hlt : ∀ x ∈ q, x.block < W.heap.size) (hT : Bz W) (hb : Bw W W') :
  DataW.TrodVars enc Tryz.prog W' (λb => decide (b < W.heap.size)) ["loop.example/g00364/impl.monthLengths"] gs q := by
 obtain⟨g,t,cs,pi,d,p,rfl,hg,ht,CF,hd,rfl⟩:=trodVars_one hV;obtain rfl:=Z9 (vd5.symm.trans hg);obtain rfl:=Z9 (ve9.symm.trans ht);have kC:0<W.heap.size:=ZI (hT 0 (by omega));have⟨ER,BV⟩:=Below.trod jwh (by kernel_rfl) (Nb (by kernel_rfl)) (v:=.agg cs) (⟨pi,by simpa [Value.cells]using hd⟩:DataW.Trod enc Tryz.prog W 0 (λ_=>true) true 290 (.agg cs) d p) hb (λx hx=>hlt x (List.mem_append_right _ hx));exact trodVars_mk1 hg ht (var?_below hb hg kC CF) (by simpa [Value.cells]using BV)
def jwi(w:World):World:=
 { w with heap:=w.heap.modify 0 fun
   |.cells _ t frozen=>.cells #[.int .i64 0,.int .i64 31,.int .i64 28,.int .i64 31,.int .i64 30,.int .i64 31,.int .i64 30,.int .i64 31,.int .i64 31,.int .i64 30,.int .i64 31,.int .i64 30,.int .i64 31] t frozen
   |o=>o }
end
section
open Go.ChangeShapes Go.WideShapes Go.ChangeAt Go.RowKit
theorem jsv(h : laidMetH Tryz.prog [("unicode/utf8.acceptRanges", Rows.laid_unicode_utf8_acceptRanges), ("loop.example/g00364/impl.monthLengths", Rows.laid_loop_example_g00364_impl_monthLengths), ("unicode/utf8.first", Rows.laid_unicode_utf8_first)] W): Bz W := λi hi =>
 (Lib.tabIs_of_head (zs := vcP) (rest := [("unicode/utf8.first", Rows.laid_unicode_utf8_first)]) vd5 ve9 Tryz.underlying290 Tryz.underlying2 jt9 j0k (laidMet.tail h)).cell vd5 i hi |>.trans (by rw [List.getD_eq_getElem?_getD])
def j3m(w:World)(g:Nat)(cs:Array Value):World:=
 { w with heap:=w.heap.modify g fun
   |.cells _ t frozen=>.cells cs t frozen
   |o=>o }
def jqg(w:World):World:=
 j3m (j3m w 3 #[.int .u8 128,.int .u8 191,.int .u8 160,.int .u8 191,.int .u8 128,.int .u8 159,.int .u8 144,.int .u8 191,.int .u8 128,.int .u8 143,.int .u8 0,.int .u8 0,.int .u8 0,.int .u8 0,.int .u8 0,.int .u8 0,.int .u8 0,.int .u8 0,.int .u8 0,.int .u8 0,.int .u8 0,.int .u8 0,.int .u8 0,.int .u8 0,.int .u8 0,.int .u8 0,.int .u8 0,.int .u8 0,.int .u8 0,.int .u8 0,.int .u8 0,.int .u8 0])
  2 (Go.Pinned.utf8FirstZ.map fun(n:Nat)=>Value.int .u8 n).toArray
end
section
open Go.ChangeShapes Go.WideShapes Go.ChangeAt Go.RowKit
theorem vfy{H:Type}{enc:TypeId × Value->H}{a:Option Addr}{len cap:Nat}{d:DataW H}{p:List MemPlace}
  (h:DataW.Trod enc Tryz.prog W 0 (λ_=>true) true 22 (.slice a len cap) d p):vbn W a len:=by
 have⟨pi,hf⟩:=h;rcases open_ints Tryz.underlying22 Tryz.underlying5 (by kernel_rfl) hf with⟨rB,_⟩|⟨x,l,c,zs,rB,_,hl,hm,hz,_,aE,gp⟩
 .simp[Value.cells]at rB
  obtain⟨rfl,rfl,rfl⟩:=rB;exact .inl rfl
 .simp[Value.cells]at rB
  obtain⟨rfl,rfl,rfl⟩:=rB;by_cases h0:len=0
  .exact .inl h0
  .obtain⟨b,off,ep⟩:=x
   have jm:zs.length=cap:=by simpa using hz
   have kA:=aE 0 (by omega);have cH:ep=none:=by simpa [Addr.add]using World.cell?_spot kA
   subst cH;refine .inr ⟨b,off,rfl,λi hi=>⟨zs.getD i 0,?_,?_,?_⟩⟩
   .have:=aE i (by omega)
    have e:((O b off):Addr).add i=(O b (off+i)):=by unfold Addr.add;split<;>simp_all
    rw[e]at this;exact this
   .have hw:=gp (zs.getD i 0) (by rw[List.getD_eq_getElem?_getD,ZV (by omega)];simp)
    exact(bounds_u8 hw).1
   .have hw:=gp (zs.getD i 0) (by rw[List.getD_eq_getElem?_getD,ZV (by omega)];simp)
    exact(bounds_u8 hw).2
