/- The law FnPut: for all drawn bytes the law answers true. No condition. -/
import Derived.Test.YtbbgeelamjmgaaaGreatDoorCards
import Derived.Test.YtbbgeelamjmgaaaGreatDoorTie
import Derived.Deep.DeepHandedRow
import Derived.Lib.SmallJoins
import Derived.Stop.LaidErr
import Derived.Test.YtbbgeelamjmgaaaGreatDoorSRd
import Derived.Test.YtbbgeelamjmgaaaGreatDoorPLd
import Derived.Test.YtbbgeelamjmgaaaGreatDoorClosedPutLd
set_option maxHeartbeats 0
set_option linter.unusedSimpArgs false
set_option maxRecDepth 100000
namespace Go.Proofs.YtbbgeelamjmgaaaGreatDoor
variable{W:World}
section
open Go.ChangeShapes Go.WideShapes Go.ChangeAt Go.RowKit
theorem own:ownKnob Tryz.prog.godebug=none:=by kernel_rfl
theorem jwh:laidOutB Tryz.prog=true:=by kernel_rfl
theorem vd5: Tryz.prog.globalNamed "loop.example/g00364/impl.monthLengths" = some 0 := by kernel_rfl
theorem ve9:(Tryz.prog.globals[0]?).map (·.type)=some 290:=by kernel_rfl
theorem j0k:Tryz.prog.cellsOf 290=13:=by kernel_rfl
theorem jt9:Tryz.prog.cellsOf 2=1:=by kernel_rfl
theorem jur{H:Type}{enc:TypeId × Value->H}{W':World}{gs:List (DataW H)}{q:List MemPlace}
  (hV : DataW.TrodVars enc Tryz.prog W (λ_ => true) ["loop.example/g00364/impl.monthLengths"] gs q) (hlt : ∀ x ∈ q, x.block < W.heap.size) (hT : Bz W) (hb : Bw W W') :
  DataW.TrodVars enc Tryz.prog W' (λb => decide (b < W.heap.size)) ["loop.example/g00364/impl.monthLengths"] gs q := by
 obtain⟨g,t,cs,pi,d,p,rfl,hg,ht,CF,hd,rfl⟩:=trodVars_one hV;obtain rfl:=Z9 (vd5.symm.trans hg);obtain rfl:=Z9 (ve9.symm.trans ht);have kC:0<W.heap.size:=ZI (hT 0 (by omega));have⟨ER,BV⟩:=Below.trod jwh (by kernel_rfl) (Nb (by kernel_rfl)) (v:=.agg cs) (⟨pi,by simpa [Value.cells]using hd⟩:DataW.Trod enc Tryz.prog W 0 (λ_=>true) true 290 (.agg cs) d p) hb (λx hx=>hlt x (List.mem_append_right _ hx));exact trodVars_mk1 hg ht (var?_below hb hg kC CF) (by simpa [Value.cells]using BV)
def jwi(w:World):World:=
 { w with heap:=w.heap.modify 0 fun
   |.cells _ t frozen=>.cells #[.int .i64 0,.int .i64 31,.int .i64 28,.int .i64 31,.int .i64 30,.int .i64 31,.int .i64 30,.int .i64 31,.int .i64 31,.int .i64 30,.int .i64 31,.int .i64 30,.int .i64 31] t frozen
   |o=>o }
end
section
open Go.ChangeShapes Go.WideShapes Go.ChangeAt Go.RowKit
theorem jsv(h : laidMetH Tryz.prog [("unicode/utf8.acceptRanges", Rows.laid_unicode_utf8_acceptRanges), ("loop.example/g00364/impl.monthLengths", Rows.laid_loop_example_g00364_impl_monthLengths), ("unicode/utf8.first", Rows.laid_unicode_utf8_first)] W): Bz W := λi hi =>
 (Lib.tabIs_of_head (zs := vcP) (rest := [("unicode/utf8.first", Rows.laid_unicode_utf8_first)]) vd5 ve9 Tryz.underlying290 Tryz.underlying2 jt9 j0k (laidMet.tail h)).cell vd5 i hi |>.trans (by rw [List.getD_eq_getElem?_getD])
def j3m(w:World)(g:Nat)(cs:Array Value):World:=
 { w with heap:=w.heap.modify g fun
   |.cells _ t frozen=>.cells cs t frozen
   |o=>o }
def jqg(w:World):World:=
 j3m (j3m w 3 #[.int .u8 128,.int .u8 191,.int .u8 160,.int .u8 191,.int .u8 128,.int .u8 159,.int .u8 144,.int .u8 191,.int .u8 128,.int .u8 143,.int .u8 0,.int .u8 0,.int .u8 0,.int .u8 0,.int .u8 0,.int .u8 0,.int .u8 0,.int .u8 0,.int .u8 0,.int .u8 0,.int .u8 0,.int .u8 0,.int .u8 0,.int .u8 0,.int .u8 0,.int .u8 0,.int .u8 0,.int .u8 0,.int .u8 0,.int .u8 0,.int .u8 0,.int .u8 0])
  2 (Go.Pinned.utf8FirstZ.map fun(n:Nat)=>Value.int .u8 n).toArray
end
section
open Go.ChangeShapes Go.WideShapes Go.ChangeAt Go.RowKit
theorem vfy{H:Type}{enc:TypeId × Value->H}{a:Option Addr}{len cap:Nat}{d:DataW H}{p:List MemPlace}
  (h:DataW.Trod enc Tryz.prog W 0 (λ_=>true) true 22 (.slice a len cap) d p):vbn W a len:=by
 have⟨pi,hf⟩:=h;rcases open_ints Tryz.underlying22 Tryz.underlying5 (by kernel_rfl) hf with⟨rB,_⟩|⟨x,l,c,zs,rB,_,hl,hm,hz,_,aE,gp⟩
 .simp[Value.cells]at rB
  obtain⟨rfl,rfl,rfl⟩:=rB;exact .inl rfl
 .simp[Value.cells]at rB
  obtain⟨rfl,rfl,rfl⟩:=rB;by_cases h0:len=0
  .exact .inl h0
  .obtain⟨b,off,ep⟩:=x
   have jm:zs.length=cap:=by simpa using hz
   have kA:=aE 0 (by omega);have cH:ep=none:=by simpa [Addr.add]using World.cell?_spot kA
   subst cH;refine .inr ⟨b,off,rfl,λi hi=>⟨zs.getD i 0,?_,?_,?_⟩⟩
   .have:=aE i (by omega)
    have e:((O b off):Addr).add i=(O b (off+i)):=by unfold Addr.add;split<;>simp_all
    rw[e]at this;exact this
   .have hw:=gp (zs.getD i 0) (by rw[List.getD_eq_getElem?_getD,ZV (by omega)];simp)
    exact(bounds_u8 hw).1
   .have hw:=gp (zs.getD i 0) (by rw[List.getD_eq_getElem?_getD,ZV (by omega)];simp)
    exact(bounds_u8 hw).2
end
end Go.Proofs.YtbbgeelamjmgaaaGreatDoor
namespace Go.Proofs.YtbbgeelamjmgaaaGreatDoor.putL
open Go.ChangeShapes Go.WideShapes Go.ChangeAt Go.RowKit
open Go.ChangeMaps (open_string shut_string)
theorem contract(H:Type)(enc:TypeId × Value->H)(W:World)(base:Nat)(args:Array Value)(ds gs:List (DataW H))(lK:List MemPlace)
  (eT:∀(j:Nat) t v,Tryz.f3.params[j]? =some t->args[j]? =some v->Value.okWide Tryz.prog W .any base t v)
  (hW:DataW.Whole enc Tryz.prog Tryz.f3.params.toList Rows.fnPutSpec.vars false W args.toList ds gs lK) (hL:laidMetH Tryz.prog Rows.fnPutRow.laid W) (Dv:W.ShapedOpen Tryz.prog):
  C 3 args W λe W'=>∃v,e=.returned v/\Rows.fnPutSpec.post enc Tryz.prog Tryz.f3 false true false false W args v W':=by
 have tV:=hW;obtain⟨p,q,eK,hV,rfl,C0,RH⟩:=hW;have hA:DataW.TrodAll enc Tryz.prog W 0 (λ_=>true) true Tryz.f3.params.toList args.toList ds p:=eK;rw[Tryz.params3]at hA eT;obtain⟨v0,St,d0,Rk,p0,q0,JM,rfl,rfl,h0,r0⟩:=trodAll_cons hA;obtain⟨v1,Su,d1,Rl,p1,q1,rfl,rfl,rfl,h1,r1⟩:=trodAll_cons r0;obtain⟨rfl,rfl,rfl⟩:=trodAll_nil r1;obtain rfl:args=#[v0,v1]:=by cases args;simp_all
 have k0:=h0;have OO:∀x∈p0,x.block<W.heap.size:=by have⟨m,hm⟩:=k0;exact DataW.trod_lt m _ _ _ hm
 obtain⟨a0,gQ,Iu,rfl⟩:=okWide_slice Tryz.underlying22 (eT 0 22 v0 rfl rfl);have w0:=vfy h0;have k1:=h1;have OR:∀x∈p1,x.block<W.heap.size:=by have⟨m,hm⟩:=k1;exact DataW.trod_lt m _ _ _ hm
 obtain⟨a1,gV,aC,rfl⟩:=okWide_slice Tryz.underlying22 (eT 1 22 v1 rfl rfl);have w1:=vfy h1;have hT:Bz W:=jsv hL;have gw:Mx W:=Tryz.laysM145.s1_3 W Dv;have hlt:∀x∈q,x.block<W.heap.size:=λx hx=>tV.lt x (List.mem_append_right _ hx)
 obtain⟨g,t,cs,pi,d,pv,rfl,_,_,_,_,_⟩:=trodVars_one hV;refine(walk a0 gQ Iu a1 gV aC W w0 w1 hT gw).mono λe W' ⟨he,ZB⟩=>?_
 subst he;refine⟨_,rfl,_,_,_,[],_,q,tV,trodAll_mk1 (shut_bool Tryz.underlying4 _),trodAll_cons_mk (Below.trod jwh (by kernel_rfl) (Nb (by kernel_rfl)) k0 ZB OO) (trodAll_cons_mk (Below.trod jwh (by kernel_rfl) (Nb (by kernel_rfl)) k1 ZB OR) trodAll_mk0),jur hV hlt hT ZB,ZB.frame _,λh=>by cases h⟩
theorem vhM(os:Os):laidMet Tryz.prog Rows.fnPutRow.laid ((jqg (jwi (World.holding Tryz.prog os ⟨#[],#[],[]⟩))).forCall (λ_ _=>0) ⟨#[],#[nS,nS],[]⟩).memory:=
 laidMet_of_run' 8 (by kernel_rfl) (by kernel_rfl)
theorem reads(os:Os){H:Type}(enc:TypeId × Value->H):∃pj,DataW.whole enc Tryz.prog ((jqg (jwi (World.holding Tryz.prog os ⟨#[],#[],[]⟩))).forCall (λ_ _=>0) ⟨#[],#[nS,nS],[]⟩).memory Tryz.f3.params.toList Rows.fnPutSpec.vars false #[nS,nS].toList 8=some ([.nil,.nil],[Rows.laid_loop_example_g00364_impl_monthLengths],pj):=
 ⟨MemPlace.row (O (0) 0) 13,by kernel_rfl⟩
theorem lifted(os:Os)(kH:os.Started)(H:Type)(enc:TypeId × Value->H)(F:Stop.Interp):
  ReturnsInHanded {} Tryz.checked os 3 .any ((OpenSpec.ofChange Rows.fnPutSpec).preRow enc Tryz.prog Tryz.f3 Rows.fnPutRow.domain false Rows.fnPutRow.laid) (((OpenSpec.ofChange Rows.fnPutSpec).at F).post enc Tryz.prog Tryz.f3 false true false false):=by
 have⟨pj,hx⟩:=reads os enc;refine returnsInHanded_of_row (C:=Tryz.checked) (s:=OpenSpec.ofChange Rows.fnPutSpec) own kH (by kernel_rfl) Tryz.func3
  (witness_row_at (enc:=enc) (C:=Tryz.checked) false (jqg (jwi (World.holding Tryz.prog os ⟨#[],#[],[]⟩))) #[nS,nS] rfl (by kernel_rfl) (by kernel_rfl) (by kernel_rfl)
   (OpenSpec.preRow_of_cond 8 hx (by kernel_rfl) (λk hk=>by cases hk) (by kernel_rfl) (vhM os))) ?_
 intro W base args ds gs lK eT hW _ _ _ hL Dv _;exact contract H enc W base args ds gs lK eT hW hL Dv
theorem said:Rows.FnPutSaid:=
 OpenClaim.holds_of_cond 3 Tryz.f3 rfl rfl rfl rfl rfl rfl rfl ⟨rfl,rfl,rfl,rfl,rfl⟩ rfl rfl rfl rfl rfl (by kernel_rfl) Tryz.func3 closed
  (Nb (by kernel_rfl)) (by unfold Func.isWrapper;first|(rw[if_pos (by decide +kernel)];kernel_rfl)|(rw[if_neg (by decide +kernel)];exact⟨rfl,rfl⟩))
  (λos kH H enc _ F=>by rw[OpenClaim.pre_eq_preRow];exact lifted os kH H enc F)
theorem plain(f : FuncId)(fn : Func)(hf : Tryz.pinned.checked.prog.funcNamed "loop.example/g00364/laws.FnPut" = some f)(uV : Tryz.pinned.checked.prog.funcs[f]? = some fn):
  false=Tryz.pinned.checked.prog.looks []/\∀(j:Nat) t,fn.params[j]? =some t->Tryz.pinned.checked.prog.wantsStandIn t=false:=by
 obtain rfl : f = 3 := Z9 ((show Tryz.prog.funcNamed "loop.example/g00364/laws.FnPut" = some 3 by kernel_rfl).symm.trans hf) |>.symm;obtain rfl:fn=Tryz.f3:=(Z9 (Tryz.func3.symm.trans uV)).symm;refine⟨by kernel_rfl,λj t ht=>?_⟩;rw[Tryz.params3]at ht;have hm:t∈[22,22]:=by simpa using Array.mem_of_getElem? ht
 have ak:([22,22].all λu=> !Tryz.prog.wantsStandIn u)=true:=by kernel_rfl
 exact(show Tryz.prog.wantsStandIn t=false by simpa using List.all_eq_true.1 ak t hm)
end Go.Proofs.YtbbgeelamjmgaaaGreatDoor.putL
namespace Go.Proofs.YtbbgeelamjmgaaaGreatDoor
theorem putL_card:Rows.FnPutCardSaid:=
 Claim7.holds_tied_plain_at .later [] _ _ _ _ putL.said (λ_ h=>by cases h) (by kernel_rfl) (λ_ h=>by cases h) fnPut_row_tie rfl ⟨rfl,rfl⟩ (by kernel_rfl) rfl putL.plain (by kernel_rfl)
