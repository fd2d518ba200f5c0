/- The law FnExactPut: a store with an event put, as the document has it; nothing of the store and the event that were handed over is changed -/
import Derived.Test.YtknlhkipdfkddaaGreatDoorCkPd
import Derived.Test.YtknlhkipdfkddaaGreatDoorWDd
import Derived.Test.YtknlhkipdfkddaaGreatDoorClosedPutd
set_option maxRecDepth 100000
set_option maxHeartbeats 20000000
set_option linter.unusedSimpArgs false
namespace Go.Proofs.YtknlhkipdfkddaaGreatDoor.put
open Go.ChangeShapes Go.WideShapes Go.ChangeAt Go.RowKit
open Go.ChangeMaps (open_string shut_string)
theorem contract (H:Type) (enc:TypeId × Value->H) (W:World) (base:Nat) (args:Array Value) (ds gs:List (DataW H)) (fo:List MemPlace)
  (eT:∀(j:Nat) t v,Tryz.f3.params[j]? =some t->args[j]? =some v->Value.okWide Tryz.prog W .any base t v)
  (hW:DataW.Whole enc Tryz.prog Tryz.f3.params.toList Rows.fnExactPutSpec.vars false W args.toList ds gs fo) (hL:laidMetH Tryz.prog Rows.fnExactPutRow.laid W) (xj:W.ShapedOpen Tryz.prog):
  Cl 3 args W fun e W'=>∃v,e=.returned v/\Rows.fnExactPutSpec.post enc Tryz.prog Tryz.f3 false true false false W args v W':=by
 have Py:=hW
 obtain⟨p,q,eK,hV,rfl,C0,RQ⟩:=hW
 have hA:DataW.TrodAll enc Tryz.prog W 0 (fun _=>true) true Tryz.f3.params.toList args.toList ds p:=eK
 rw[Tryz.params3]at hA eT
 obtain⟨v0,Sd,d0,RI,p0,q0,PO,rfl,rfl,h0,r0⟩:=trodAll_cons hA
 obtain⟨v1,Se,d1,RJ,p1,q1,rfl,rfl,rfl,h1,r1⟩:=trodAll_cons r0
 obtain⟨rfl,rfl,rfl⟩:=trodAll_nil r1
 obtain rfl:args=#[v0,v1]:=by cases args;simp_all
 have k0:=h0
 have Ru:∀x∈p0,x.block<W.heap.size:=by obtain⟨m,hm⟩:=k0;exact DataW.trod_lt m _ _ _ hm
 obtain⟨l0,rK,tU⟩:=js6 (eT 0 30 v0 rfl rfl) h0
 have k1:=h1
 have Tn:∀x∈p1,x.block<W.heap.size:=by obtain⟨m,hm⟩:=k1;exact DataW.trod_lt m _ _ _ hm
 obtain⟨l1,rfl,Sv,Sw⟩:=open_event (eT 1 32 v1 rfl rfl) h1
 have hT:Tab W:=jsv hL
 have gw:Mx W:=Tryz.laysM145.s1_3 W xj
 have hlt:∀x∈q,x.block<W.heap.size:=fun x hx=>Py.lt x (List.mem_append_right _ hx)
 obtain⟨g,t,cs,pi,d,pv,rfl,_,_,_,_,_⟩:=trodVars_one hV
 refine(walk l0 v0 l1 W rK tU Sv Sw hT gw).mono fun e W' ⟨he,bel⟩=>?_
 subst he
 refine⟨_,rfl,_,_,_,[],_,q,Py,trodAll_mk1 (shut_bool Tryz.underlying4 _),trodAll_cons_mk (Below.trod jwh (by kernel_rfl) (odt (by kernel_rfl)) k0 bel Ru) (trodAll_cons_mk (Below.trod jwh (by kernel_rfl) (odt (by kernel_rfl)) k1 bel Tn) trodAll_mk0),jur hV hlt hT bel,bel.frame _,fun h=>by cases h⟩
theorem laid_met(os:Os):laidMet Tryz.prog Rows.fnExactPutRow.laid ((jqg (jwi (World.holding Tryz.prog os ⟨#[],#[],[]⟩))).forCall (fun _ _=>0) ⟨#[],#[.agg #[iv 0,nS,nS,nS,nS,nS,nS,iv 0,nS,nS],.agg #[iv 0,.string ⟨#[]⟩,.string ⟨#[]⟩,iv 0,iv 0,iv 0]],[]⟩).memory:=
 laidMet_of_run' 8 (by kernel_rfl) (by kernel_rfl)
theorem reads(os:Os){H:Type}(enc:TypeId × Value->H):∃lD,DataW.whole enc Tryz.prog ((jqg (jwi (World.holding Tryz.prog os ⟨#[],#[],[]⟩))).forCall (fun _ _=>0) ⟨#[],#[.agg #[iv 0,nS,nS,nS,nS,nS,nS,iv 0,nS,nS],.agg #[iv 0,.string ⟨#[]⟩,.string ⟨#[]⟩,iv 0,iv 0,iv 0]],[]⟩).memory Tryz.f3.params.toList Rows.fnExactPutSpec.vars false #[Value.agg #[iv 0,nS,nS,nS,nS,nS,nS,iv 0,nS,nS],.agg #[iv 0,.string ⟨#[]⟩,.string ⟨#[]⟩,iv 0,iv 0,iv 0]].toList 8=some ([.agg [.lit (.int .i64 0),.agg [.nil,.nil,.nil],.agg [.nil,.nil,.nil],.lit (.int .i64 0),.nil,.nil],.agg [.lit (.int .i64 0),.lit (.string []),.lit (.string []),.lit (.int .i64 0),.lit (.int .i64 0),.lit (.int .i64 0)]],[Rows.laid_loop_example_g00364_impl_monthLengths],lD):=
 ⟨MemPlace.row (ad (0) 0) 13,by kernel_rfl⟩
theorem lifted(os:Os)(bP:os.Started)(H:Type)(enc:TypeId × Value->H)(F:Stop.Interp):
  ReturnsInHanded {} Tryz.checked os 3 .any ((OpenSpec.ofChange Rows.fnExactPutSpec).preRow enc Tryz.prog Tryz.f3 Rows.fnExactPutRow.domain false Rows.fnExactPutRow.laid) (((OpenSpec.ofChange Rows.fnExactPutSpec).at F).post enc Tryz.prog Tryz.f3 false true false false):=by
 obtain⟨lD,hx⟩:=reads os enc
 refine returnsInHanded_of_row (C:=Tryz.checked) (s:=OpenSpec.ofChange Rows.fnExactPutSpec) own bP (by kernel_rfl) Tryz.func3
  (witness_row_at (enc:=enc) (C:=Tryz.checked) false (jqg (jwi (World.holding Tryz.prog os ⟨#[],#[],[]⟩))) #[.agg #[iv 0,nS,nS,nS,nS,nS,nS,iv 0,nS,nS],.agg #[iv 0,.string ⟨#[]⟩,.string ⟨#[]⟩,iv 0,iv 0,iv 0]] rfl (by kernel_rfl) (by kernel_rfl) (by kernel_rfl)
   (OpenSpec.preRow_of_cond 8 hx (by kernel_rfl) (fun k hk=>by cases hk) (by kernel_rfl) (laid_met os))) ?_
 intro W base args ds gs fo eT hW _ _ _ hL xj _
 exact contract H enc W base args ds gs fo eT hW hL xj
theorem said:Rows.FnExactPutSaid:=
 OpenClaim.holds_of_cond 3 Tryz.f3 rfl rfl rfl rfl rfl rfl rfl ⟨rfl,rfl,rfl,rfl,rfl⟩ rfl rfl rfl rfl rfl (by kernel_rfl) Tryz.func3 closed
  (odt (by kernel_rfl)) (by unfold Func.isWrapper;first|(rw[if_pos (by decide +kernel)];kernel_rfl)|(rw[if_neg (by decide +kernel)];exact⟨rfl,rfl⟩))
  (fun os bP H enc _ F=>by rw[OpenClaim.pre_eq_preRow];exact lifted os bP H enc F)
theorem plain (f : FuncId) (fn : Func) (hf : Tryz.pinned.checked.prog.funcNamed "loop.example/g00364/laws.FnExactPut" = some f) (uV : Tryz.pinned.checked.prog.funcs[f]? = some fn) :
  false=Tryz.pinned.checked.prog.looks []/\∀(j:Nat) t,fn.params[j]? =some t->Tryz.pinned.checked.prog.wantsStandIn t=false:=by
 obtain rfl : f = 3 := osi ((show Tryz.prog.funcNamed "loop.example/g00364/laws.FnExactPut" = some 3 by kernel_rfl).symm.trans hf) |>.symm
 obtain rfl:fn=Tryz.f3:=(osi (Tryz.func3.symm.trans uV)).symm
 refine⟨by kernel_rfl,fun j t ht=>?_⟩
 rw[Tryz.params3]at ht
 have hm:t∈[30,32]:=by simpa using Array.mem_of_getElem? ht
 have ak:([30,32].all fun u=> !Tryz.prog.wantsStandIn u)=true:=by kernel_rfl
 exact(show Tryz.prog.wantsStandIn t=false by simpa using List.all_eq_true.1 ak t hm)
end Go.Proofs.YtknlhkipdfkddaaGreatDoor.put
namespace Go.Proofs.YtknlhkipdfkddaaGreatDoor
theorem put_card:Rows.FnExactPutCardSaid:=
 Claim7.holds_tied_plain_at .later [] _ _ _ _ put.said (fun _ h=>by cases h) (by kernel_rfl) (fun _ h=>by cases h) fnExactPut_row_tie rfl ⟨rfl,rfl⟩ (by kernel_rfl) rfl put.plain (by kernel_rfl)
end Go.Proofs.YtknlhkipdfkddaaGreatDoor
