/- The law FnExactFindWall: the events of a zone and of a time by their walls, as the document has them; nothing of the store that was handed over is changed -/
import Derived.Test.YtlmgdfoiejpbcaaGreatDoorCkPd
import Derived.Test.YtlmgdfoiejpbcaaGreatDoorFQd
import Derived.Test.YtlmgdfoiejpbcaaGreatDoorClosedFindWalld
set_option maxRecDepth 100000
set_option maxHeartbeats 0
set_option linter.unusedSimpArgs false
namespace Go.Proofs.YtlmgdfoiejpbcaaGreatDoor.findWall
open Go.ChangeShapes Go.WideShapes Go.ChangeAt Go.RowKit
open Go.ChangeMaps (open_string shut_string)
theorem contract (H:Type) (enc:TypeId × Value->H) (W:World) (base:Nat) (d9:Array Value) (ds gs:List (DataW H)) (cP:List MemPlace)
  (eT:∀(j:Nat) t v,Tryz.f3.params[j]? =some t->d9[j]? =some v->Value.okWide Tryz.prog W .any base t v)
  (hW:DataW.Whole enc Tryz.prog Tryz.f3.params.toList Rows.fnExactFindWallSpec.vars false W d9.toList ds gs cP) (hL:laidMetH Tryz.prog Rows.fnExactFindWallRow.laid W) (vW:W.ShapedOpen Tryz.prog):
  Cl 3 d9 W fun e W'=>∃v,e=.returned v/\Rows.fnExactFindWallSpec.post enc Tryz.prog Tryz.f3 false true false false W d9 v W':=by
 have yZ:=hW
 obtain⟨p,q,eK,hV,rfl,C0,CK⟩:=hW
 have hA:DataW.TrodAll enc Tryz.prog W 0 (fun _=>true) true Tryz.f3.params.toList d9.toList ds p:=eK
 rw[Tryz.params3]at hA eT
 obtain⟨v0,CP,d0,BE,p0,q0,Ay,rfl,rfl,h0,r0⟩:=trodAll_cons hA
 obtain⟨v1,CR,d1,Cn,p1,q1,rfl,rfl,rfl,h1,r1⟩:=trodAll_cons r0
 obtain⟨v2,D3,d2,Cp,p2,q2,rfl,rfl,rfl,h2,r2⟩:=trodAll_cons r1
 obtain⟨v3,Dz,d3,CJ,p3,q3,rfl,rfl,rfl,h3,r3⟩:=trodAll_cons r2
 obtain⟨rfl,rfl,rfl⟩:=trodAll_nil r3
 obtain rfl:d9=#[v0,v1,v2,v3]:=by cases d9;simp_all
 have k0:=h0
 have AH:∀x∈p0,x.block<W.heap.size:=by obtain⟨m,hm⟩:=k0;exact DataW.trod_lt m _ _ _ hm
 obtain⟨l0,gN,jc⟩:=js6 (eT 0 30 v0 rfl rfl) h0
 obtain⟨a1,rfl,rfl,rfl,w1⟩:=open_string Tryz.underlying9 (eT 1 9 v1 rfl rfl) h1
 obtain⟨a2,rfl,rfl,rfl,w2⟩:=open_int Tryz.underlying2 (eT 2 2 v2 rfl rfl) h2
 obtain⟨a3,rfl,rfl,rfl,w3⟩:=open_int Tryz.underlying2 (eT 3 2 v3 rfl rfl) h3
 have hT:Tab W:=jsv hL
 have gw:Mx W:=Tryz.laysM145.s1_3 W vW
 have hlt:∀x∈q,x.block<W.heap.size:=fun x hx=>yZ.lt x (List.mem_append_right _ hx)
 obtain⟨g,t,cs,pi,d,pv,rfl,_,_,_,_,_⟩:=trodVars_one hV
 refine(walk l0 v0 a1 a2 a3 W gN jc w1 hT gw).mono fun e W' ⟨he,bel⟩=>?_
 subst he
 refine⟨_,rfl,_,_,_,[],_,q,yZ,trodAll_mk1 (shut_bool Tryz.underlying4 _),trodAll_cons_mk (Below.trod jwh (by kernel_rfl) (odt (by kernel_rfl)) k0 bel AH) (trodAll_cons_mk (shut_string Tryz.underlying9 w1) (trodAll_cons_mk (shut_int Tryz.underlying2 w2) (trodAll_cons_mk (shut_int Tryz.underlying2 w3) trodAll_mk0))),jur hV hlt hT bel,bel.frame _,fun h=>by cases h⟩
theorem laid_met(os:Os):laidMet Tryz.prog Rows.fnExactFindWallRow.laid ((jqg (jwi (World.holding Tryz.prog os ⟨#[],#[],[]⟩))).forCall (fun _ _=>0) ⟨#[],#[.agg #[iv 0,nS,nS,nS,nS,nS,nS,iv 0,nS,nS],.string ⟨#[]⟩,iv 0,iv 0],[]⟩).memory:=
 laidMet_of_run' 8 (by kernel_rfl) (by kernel_rfl)
theorem reads(os:Os){H:Type}(enc:TypeId × Value->H):∃cV,DataW.whole enc Tryz.prog ((jqg (jwi (World.holding Tryz.prog os ⟨#[],#[],[]⟩))).forCall (fun _ _=>0) ⟨#[],#[.agg #[iv 0,nS,nS,nS,nS,nS,nS,iv 0,nS,nS],.string ⟨#[]⟩,iv 0,iv 0],[]⟩).memory Tryz.f3.params.toList Rows.fnExactFindWallSpec.vars false #[Value.agg #[iv 0,nS,nS,nS,nS,nS,nS,iv 0,nS,nS],.string ⟨#[]⟩,iv 0,iv 0].toList 8=some ([.agg [.lit (.int .i64 0),.agg [.nil,.nil,.nil],.agg [.nil,.nil,.nil],.lit (.int .i64 0),.nil,.nil],.lit (.string []),.lit (.int .i64 0),.lit (.int .i64 0)],[Rows.laid_loop_example_g00364_impl_monthLengths],cV):=
 ⟨MemPlace.row (ad (0) 0) 13,by kernel_rfl⟩
theorem lifted(os:Os)(bP:os.Started)(H:Type)(enc:TypeId × Value->H)(F:Stop.Interp):
  ReturnsInHanded {} Tryz.checked os 3 .any ((OpenSpec.ofChange Rows.fnExactFindWallSpec).preRow enc Tryz.prog Tryz.f3 Rows.fnExactFindWallRow.domain false Rows.fnExactFindWallRow.laid) (((OpenSpec.ofChange Rows.fnExactFindWallSpec).at F).post enc Tryz.prog Tryz.f3 false true false false):=by
 obtain⟨cV,hx⟩:=reads os enc
 refine returnsInHanded_of_row (C:=Tryz.checked) (s:=OpenSpec.ofChange Rows.fnExactFindWallSpec) own bP (by kernel_rfl) Tryz.func3
  (witness_row_at (enc:=enc) (C:=Tryz.checked) false (jqg (jwi (World.holding Tryz.prog os ⟨#[],#[],[]⟩))) #[.agg #[iv 0,nS,nS,nS,nS,nS,nS,iv 0,nS,nS],.string ⟨#[]⟩,iv 0,iv 0] rfl (by kernel_rfl) (by kernel_rfl) (by kernel_rfl)
   (OpenSpec.preRow_of_cond 8 hx (by kernel_rfl) (fun k hk=>by cases hk) (by kernel_rfl) (laid_met os))) ?_
 intro W base d9 ds gs cP eT hW _ _ _ hL vW _
 exact contract H enc W base d9 ds gs cP eT hW hL vW
theorem said:Rows.FnExactFindWallSaid:=
 OpenClaim.holds_of_cond 3 Tryz.f3 rfl rfl rfl rfl rfl rfl rfl ⟨rfl,rfl,rfl,rfl,rfl⟩ rfl rfl rfl rfl rfl (by kernel_rfl) Tryz.func3 closed
  (odt (by kernel_rfl)) (by unfold Func.isWrapper;first|(rw[if_pos (by decide +kernel)];kernel_rfl)|(rw[if_neg (by decide +kernel)];exact⟨rfl,rfl⟩))
  (fun os bP H enc _ F=>by rw[OpenClaim.pre_eq_preRow];exact lifted os bP H enc F)
theorem plain (f : FuncId) (fn : Func) (hf : Tryz.pinned.checked.prog.funcNamed "loop.example/g00364/laws.FnExactFindWall" = some f) (uV : Tryz.pinned.checked.prog.funcs[f]? = some fn) :
  false=Tryz.pinned.checked.prog.looks []/\∀(j:Nat) t,fn.params[j]? =some t->Tryz.pinned.checked.prog.wantsStandIn t=false:=by
 obtain rfl : f = 3 := osi ((show Tryz.prog.funcNamed "loop.example/g00364/laws.FnExactFindWall" = some 3 by kernel_rfl).symm.trans hf) |>.symm
 obtain rfl:fn=Tryz.f3:=(osi (Tryz.func3.symm.trans uV)).symm
 refine⟨by kernel_rfl,fun j t ht=>?_⟩
 rw[Tryz.params3]at ht
 have hm:t∈[30,9,2,2]:=by simpa using Array.mem_of_getElem? ht
 have ak:([30,9,2,2].all fun u=> !Tryz.prog.wantsStandIn u)=true:=by kernel_rfl
 exact(show Tryz.prog.wantsStandIn t=false by simpa using List.all_eq_true.1 ak t hm)
end Go.Proofs.YtlmgdfoiejpbcaaGreatDoor.findWall
namespace Go.Proofs.YtlmgdfoiejpbcaaGreatDoor
theorem findWall_card:Rows.FnExactFindWallCardSaid:=
 Claim7.holds_tied_plain_at .later [] _ _ _ _ findWall.said (fun _ h=>by cases h) (by kernel_rfl) (fun _ h=>by cases h) fnExactFindWall_row_tie rfl ⟨rfl,rfl⟩ (by kernel_rfl) rfl findWall.plain (by kernel_rfl)
