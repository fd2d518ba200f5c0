/- The law FnExactStoreRight: at every store the program's StoreRight answers as the model's; the store is not changed. No condition but the card's own. -/
import Derived.Test.YtpejeokacilebaaGreatDoorCkPd
import Derived.Test.YtpejeokacilebaaGreatDoorWDd
import Derived.Test.YtpejeokacilebaaGreatDoorClosedStoreRightd
set_option maxRecDepth 100000
set_option maxHeartbeats 0
set_option linter.unusedSimpArgs false
namespace Go.Proofs.YtpejeokacilebaaGreatDoor.storeRight
open Go.ChangeShapes Go.WideShapes Go.ChangeAt Go.RowKit
open Go.ChangeMaps (open_string shut_string)
theorem contract (H:Type) (enc:TypeId × Value->H) (W:World) (base:Nat) (am:Array Value) (ds gs:List (DataW H)) (lK:List MemPlace)
  (eT:∀(j:Nat) t v,Tryz.f3.params[j]? =some t->am[j]? =some v->Value.okWide Tryz.prog W .any base t v)
  (hW:DataW.Whole enc Tryz.prog Tryz.f3.params.toList Rows.fnExactStoreRightSpec.vars false W am.toList ds gs lK) (hL:laidMetH Tryz.prog Rows.fnExactStoreRightRow.laid W) (Dv:W.ShapedOpen Tryz.prog):
  Cl 3 am W fun e W'=>∃v,e=.returned v/\Rows.fnExactStoreRightSpec.post enc Tryz.prog Tryz.f3 false true false false W am v W':=by
 have tV:=hW
 obtain⟨p,q,eK,hV,rfl,C0,RH⟩:=hW
 have hA:DataW.TrodAll enc Tryz.prog W 0 (fun _=>true) true Tryz.f3.params.toList am.toList ds p:=eK
 rw[Tryz.params3]at hA eT
 obtain⟨v0,St,d0,Rk,p0,q0,JM,rfl,rfl,h0,r0⟩:=trodAll_cons hA
 obtain⟨rfl,rfl,rfl⟩:=trodAll_nil r0
 obtain rfl:am=#[v0]:=by cases am;simp_all
 have k0:=h0
 have OO:∀x∈p0,x.block<W.heap.size:=by obtain⟨m,hm⟩:=k0;exact DataW.trod_lt m _ _ _ hm
 obtain⟨l0,yb,za⟩:=js6 (eT 0 30 v0 rfl rfl) h0
 have hT:Tab W:=jsv hL
 have gw:Mx W:=Tryz.laysM145.s1_3 W Dv
 have hlt:∀x∈q,x.block<W.heap.size:=fun x hx=>tV.lt x (List.mem_append_right _ hx)
 obtain⟨g,t,cs,pi,d,pv,rfl,_,_,_,_,_⟩:=trodVars_one hV
 refine(walk l0 v0 W yb za hT gw).mono fun e W' ⟨he,bel⟩=>?_
 subst he
 refine⟨_,rfl,_,_,_,[],_,q,tV,trodAll_mk1 (shut_bool Tryz.underlying4 _),trodAll_cons_mk (Below.trod jwh (by kernel_rfl) (odt (by kernel_rfl)) k0 bel OO) trodAll_mk0,jur hV hlt hT bel,bel.frame _,fun h=>by cases h⟩
theorem laid_met(os:Os):laidMet Tryz.prog Rows.fnExactStoreRightRow.laid ((jqg (jwi (World.holding Tryz.prog os ⟨#[],#[],[]⟩))).forCall (fun _ _=>0) ⟨#[],#[.agg #[iv 0,nS,nS,nS,nS,nS,nS,iv 0,nS,nS]],[]⟩).memory:=
 laidMet_of_run' 8 (by kernel_rfl) (by kernel_rfl)
theorem reads(os:Os){H:Type}(enc:TypeId × Value->H):∃pj,DataW.whole enc Tryz.prog ((jqg (jwi (World.holding Tryz.prog os ⟨#[],#[],[]⟩))).forCall (fun _ _=>0) ⟨#[],#[.agg #[iv 0,nS,nS,nS,nS,nS,nS,iv 0,nS,nS]],[]⟩).memory Tryz.f3.params.toList Rows.fnExactStoreRightSpec.vars false #[Value.agg #[iv 0,nS,nS,nS,nS,nS,nS,iv 0,nS,nS]].toList 8=some ([.agg [.lit (.int .i64 0),.agg [.nil,.nil,.nil],.agg [.nil,.nil,.nil],.lit (.int .i64 0),.nil,.nil]],[Rows.laid_loop_example_g00364_impl_monthLengths],pj):=
 ⟨MemPlace.row (ad (0) 0) 13,by kernel_rfl⟩
theorem lifted(os:Os)(kH:os.Started)(H:Type)(enc:TypeId × Value->H)(F:Stop.Interp):
  ReturnsInHanded {} Tryz.checked os 3 .any ((OpenSpec.ofChange Rows.fnExactStoreRightSpec).preRow enc Tryz.prog Tryz.f3 Rows.fnExactStoreRightRow.domain false Rows.fnExactStoreRightRow.laid) (((OpenSpec.ofChange Rows.fnExactStoreRightSpec).at F).post enc Tryz.prog Tryz.f3 false true false false):=by
 obtain⟨pj,hx⟩:=reads os enc
 refine returnsInHanded_of_row (C:=Tryz.checked) (s:=OpenSpec.ofChange Rows.fnExactStoreRightSpec) own kH (by kernel_rfl) Tryz.func3
  (witness_row_at (enc:=enc) (C:=Tryz.checked) false (jqg (jwi (World.holding Tryz.prog os ⟨#[],#[],[]⟩))) #[.agg #[iv 0,nS,nS,nS,nS,nS,nS,iv 0,nS,nS]] rfl (by kernel_rfl) (by kernel_rfl) (by kernel_rfl)
   (OpenSpec.preRow_of_cond 8 hx (by kernel_rfl) (fun k hk=>by cases hk) (by kernel_rfl) (laid_met os))) ?_
 intro W base am ds gs lK eT hW _ _ _ hL Dv _
 exact contract H enc W base am ds gs lK eT hW hL Dv
theorem said:Rows.FnExactStoreRightSaid:=
 OpenClaim.holds_of_cond 3 Tryz.f3 rfl rfl rfl rfl rfl rfl rfl ⟨rfl,rfl,rfl,rfl,rfl⟩ rfl rfl rfl rfl rfl (by kernel_rfl) Tryz.func3 closed
  (odt (by kernel_rfl)) (by unfold Func.isWrapper;first|(rw[if_pos (by decide +kernel)];kernel_rfl)|(rw[if_neg (by decide +kernel)];exact⟨rfl,rfl⟩))
  (fun os kH H enc _ F=>by rw[OpenClaim.pre_eq_preRow];exact lifted os kH H enc F)
theorem plain (f : FuncId) (fn : Func) (hf : Tryz.pinned.checked.prog.funcNamed "loop.example/g00364/laws.FnExactStoreRight" = some f) (uV : Tryz.pinned.checked.prog.funcs[f]? = some fn) :
  false=Tryz.pinned.checked.prog.looks []/\∀(j:Nat) t,fn.params[j]? =some t->Tryz.pinned.checked.prog.wantsStandIn t=false:=by
 obtain rfl : f = 3 := osi ((show Tryz.prog.funcNamed "loop.example/g00364/laws.FnExactStoreRight" = some 3 by kernel_rfl).symm.trans hf) |>.symm
 obtain rfl:fn=Tryz.f3:=(osi (Tryz.func3.symm.trans uV)).symm
 refine⟨by kernel_rfl,fun j t ht=>?_⟩
 rw[Tryz.params3]at ht
 have hm:t∈[30]:=by simpa using Array.mem_of_getElem? ht
 have ak:([30].all fun u=> !Tryz.prog.wantsStandIn u)=true:=by kernel_rfl
 exact(show Tryz.prog.wantsStandIn t=false by simpa using List.all_eq_true.1 ak t hm)
end Go.Proofs.YtpejeokacilebaaGreatDoor.storeRight
namespace Go.Proofs.YtpejeokacilebaaGreatDoor
theorem storeRight_card:Rows.FnExactStoreRightCardSaid:=
 Claim7.holds_tied_plain_at .later [] _ _ _ _ storeRight.said (fun _ h=>by cases h) (by kernel_rfl) (fun _ h=>by cases h) fnExactStoreRight_row_tie rfl ⟨rfl,rfl⟩ (by kernel_rfl) rfl storeRight.plain (by kernel_rfl)
