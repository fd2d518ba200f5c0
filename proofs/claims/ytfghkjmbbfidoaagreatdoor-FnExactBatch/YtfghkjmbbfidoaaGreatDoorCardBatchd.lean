/- The law FnExactBatch: a store with a batch followed, as the document has it; nothing of the store that was handed over is changed -/
import Derived.Test.YtfghkjmbbfidoaaGreatDoorCkPd
import Derived.Test.YtfghkjmbbfidoaaGreatDoorWDd
import Derived.Test.YtfghkjmbbfidoaaGreatDoorClosedBatchd
set_option maxRecDepth 100000
set_option maxHeartbeats 0
set_option linter.unusedSimpArgs false
namespace Go.Proofs.YtfghkjmbbfidoaaGreatDoor.batch
open Go.ChangeShapes Go.WideShapes Go.ChangeAt Go.RowKit
open Go.ChangeMaps (open_string shut_string)
theorem contract (H:Type) (enc:TypeId × Value->H) (W:World) (base:Nat) (args:Array Value) (ds gs:List (DataW H)) (cP:List MemPlace)
  (eT:∀(j:Nat) t v,Tryz.f3.params[j]? =some t->args[j]? =some v->Value.okWide Tryz.prog W .any base t v)
  (hW:DataW.Whole enc Tryz.prog Tryz.f3.params.toList Rows.fnExactBatchSpec.vars false W args.toList ds gs cP) (hL:laidMetH Tryz.prog Rows.fnExactBatchRow.laid W) (mw:W.ShapedOpen Tryz.prog):
  Cl 3 args W fun e W'=>∃v,e=.returned v/\Rows.fnExactBatchSpec.post enc Tryz.prog Tryz.f3 false true false false W args v W':=by
 have rK:=hW
 obtain⟨p,q,eK,hV,rfl,C0,NR⟩:=hW
 have hA:DataW.TrodAll enc Tryz.prog W 0 (fun _=>true) true Tryz.f3.params.toList args.toList ds p:=eK
 rw[Tryz.params3]at hA eT
 obtain⟨v0,On,d0,xj,p0,q0,tU,rfl,rfl,h0,r0⟩:=trodAll_cons hA
 obtain⟨v1,Pw,d1,KE,p1,q1,rfl,rfl,rfl,h1,r1⟩:=trodAll_cons r0
 obtain⟨rfl,rfl,rfl⟩:=trodAll_nil r1
 obtain rfl:args=#[v0,v1]:=by cases args;simp_all
 have k0:=h0
 have wX:∀x∈p0,x.block<W.heap.size:=by obtain⟨m,hm⟩:=k0;exact DataW.trod_lt m _ _ _ hm
 obtain⟨l0,kL,lD⟩:=js6 (eT 0 30 v0 rfl rfl) h0
 obtain⟨a1,rfl,rfl,rfl,w1⟩:=open_int Tryz.underlying2 (eT 1 2 v1 rfl rfl) h1
 have hT:Tab W:=jsv hL
 have gw:Mx W:=Tryz.laysM145.s1_3 W mw
 have hlt:∀x∈q,x.block<W.heap.size:=fun x hx=>rK.lt x (List.mem_append_right _ hx)
 obtain⟨g,t,cs,pi,d,pv,rfl,_,_,_,_,_⟩:=trodVars_one hV
 refine(walk l0 v0 a1 W kL lD hT gw).mono fun e W' ⟨he,bel⟩=>?_
 subst he
 refine⟨_,rfl,_,_,_,[],_,q,rK,trodAll_mk1 (shut_bool Tryz.underlying4 _),trodAll_cons_mk (Below.trod jwh (by kernel_rfl) (odt (by kernel_rfl)) k0 bel wX) (trodAll_cons_mk (shut_int Tryz.underlying2 w1) trodAll_mk0),jur hV hlt hT bel,bel.frame _,fun h=>by cases h⟩
theorem laid_met(os:Os):laidMet Tryz.prog Rows.fnExactBatchRow.laid ((jqg (jwi (World.holding Tryz.prog os ⟨#[],#[],[]⟩))).forCall (fun _ _=>0) ⟨#[],#[.agg #[iv 0,nS,nS,nS,nS,nS,nS,iv 0,nS,nS],iv 0],[]⟩).memory:=
 laidMet_of_run' 8 (by kernel_rfl) (by kernel_rfl)
theorem reads(os:Os){H:Type}(enc:TypeId × Value->H):∃fo,DataW.whole enc Tryz.prog ((jqg (jwi (World.holding Tryz.prog os ⟨#[],#[],[]⟩))).forCall (fun _ _=>0) ⟨#[],#[.agg #[iv 0,nS,nS,nS,nS,nS,nS,iv 0,nS,nS],iv 0],[]⟩).memory Tryz.f3.params.toList Rows.fnExactBatchSpec.vars false #[Value.agg #[iv 0,nS,nS,nS,nS,nS,nS,iv 0,nS,nS],iv 0].toList 8=some ([.agg [.lit (.int .i64 0),.agg [.nil,.nil,.nil],.agg [.nil,.nil,.nil],.lit (.int .i64 0),.nil,.nil],.lit (.int .i64 0)],[Rows.laid_loop_example_g00364_impl_monthLengths],fo):=
 ⟨MemPlace.row (ad (0) 0) 13,by kernel_rfl⟩
theorem lifted(os:Os)(bP:os.Started)(H:Type)(enc:TypeId × Value->H)(F:Stop.Interp):
  ReturnsInHanded {} Tryz.checked os 3 .any ((OpenSpec.ofChange Rows.fnExactBatchSpec).preRow enc Tryz.prog Tryz.f3 Rows.fnExactBatchRow.domain false Rows.fnExactBatchRow.laid) (((OpenSpec.ofChange Rows.fnExactBatchSpec).at F).post enc Tryz.prog Tryz.f3 false true false false):=by
 obtain⟨fo,hx⟩:=reads os enc
 refine returnsInHanded_of_row (C:=Tryz.checked) (s:=OpenSpec.ofChange Rows.fnExactBatchSpec) own bP (by kernel_rfl) Tryz.func3
  (witness_row_at (enc:=enc) (C:=Tryz.checked) false (jqg (jwi (World.holding Tryz.prog os ⟨#[],#[],[]⟩))) #[.agg #[iv 0,nS,nS,nS,nS,nS,nS,iv 0,nS,nS],iv 0] rfl (by kernel_rfl) (by kernel_rfl) (by kernel_rfl)
   (OpenSpec.preRow_of_cond 8 hx (by kernel_rfl) (fun k hk=>by cases hk) (by kernel_rfl) (laid_met os))) ?_
 intro W base args ds gs cP eT hW _ _ _ hL mw _
 exact contract H enc W base args ds gs cP eT hW hL mw
theorem said:Rows.FnExactBatchSaid:=
 OpenClaim.holds_of_cond 3 Tryz.f3 rfl rfl rfl rfl rfl rfl rfl ⟨rfl,rfl,rfl,rfl,rfl⟩ rfl rfl rfl rfl rfl (by kernel_rfl) Tryz.func3 closed
  (odt (by kernel_rfl)) (by unfold Func.isWrapper;first|(rw[if_pos (by decide +kernel)];kernel_rfl)|(rw[if_neg (by decide +kernel)];exact⟨rfl,rfl⟩))
  (fun os bP H enc _ F=>by rw[OpenClaim.pre_eq_preRow];exact lifted os bP H enc F)
theorem plain (f : FuncId) (fn : Func) (hf : Tryz.pinned.checked.prog.funcNamed "loop.example/g00364/laws.FnExactBatch" = some f) (uV : Tryz.pinned.checked.prog.funcs[f]? = some fn) :
  false=Tryz.pinned.checked.prog.looks []/\∀(j:Nat) t,fn.params[j]? =some t->Tryz.pinned.checked.prog.wantsStandIn t=false:=by
 obtain rfl : f = 3 := osi ((show Tryz.prog.funcNamed "loop.example/g00364/laws.FnExactBatch" = some 3 by kernel_rfl).symm.trans hf) |>.symm
 obtain rfl:fn=Tryz.f3:=(osi (Tryz.func3.symm.trans uV)).symm
 refine⟨by kernel_rfl,fun j t ht=>?_⟩
 rw[Tryz.params3]at ht
 have hm:t∈[30,2]:=by simpa using Array.mem_of_getElem? ht
 have ak:([30,2].all fun u=> !Tryz.prog.wantsStandIn u)=true:=by kernel_rfl
 exact(show Tryz.prog.wantsStandIn t=false by simpa using List.all_eq_true.1 ak t hm)
end Go.Proofs.YtfghkjmbbfidoaaGreatDoor.batch
namespace Go.Proofs.YtfghkjmbbfidoaaGreatDoor
theorem batch_card:Rows.FnExactBatchCardSaid:=
 Claim7.holds_tied_plain_at .later [] _ _ _ _ batch.said (fun _ h=>by cases h) (by kernel_rfl) (fun _ h=>by cases h) fnExactBatch_row_tie rfl ⟨rfl,rfl⟩ (by kernel_rfl) rfl batch.plain (by kernel_rfl)
