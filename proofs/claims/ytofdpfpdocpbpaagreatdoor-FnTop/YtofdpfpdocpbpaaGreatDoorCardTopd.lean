/- The law of the desk: for all drawn bytes the law answers true. No condition. -/
import Derived.Test.YtofdpfpdocpbpaaGreatDoorKOd
import Derived.Test.YtofdpfpdocpbpaaGreatDoorKNd
import Derived.Test.YtofdpfpdocpbpaaGreatDoorClosedTopd
set_option maxRecDepth 100000
set_option maxHeartbeats 20000000
set_option linter.unusedSimpArgs false
namespace Go.Proofs.YtofdpfpdocpbpaaGreatDoor.topL
open Go.ChangeShapes Go.WideShapes Go.ChangeAt Go.RowKit
theorem contract (H:Type) (enc:TypeId × Value->H) (W:World) (base:Nat) (args:Array Value) (ds gs:List (DataW H)) (before:List MemPlace)
  (hval:∀(j:Nat) t v,Tryz.f3.params[j]? =some t->args[j]? =some v->Value.okWide Tryz.prog W .any base t v)
  (hW:DataW.Whole enc Tryz.prog Tryz.f3.params.toList Rows.fnTopSpec.vars false W args.toList ds gs before) (hL:laidMetH Tryz.prog Rows.fnTopRow.laid W) (hSh:W.ShapedOpen Tryz.prog):
  Calls Tryz.prog 3 args W fun e W'=>∃v,e=.returned v/\Rows.fnTopSpec.post enc Tryz.prog Tryz.f3 false true false false W args v W':=by
 have hW':=hW
 obtain⟨p,q,hA0,hV,rfl,hfz,hnd⟩:=hW
 have hA:DataW.TrodAll enc Tryz.prog W 0 (fun _=>true) true Tryz.f3.params.toList args.toList ds p:=hA0
 rw[Tryz.params3]at hA hval
 obtain⟨v0,vs0,d0,ds0,p0,q0,hargs,rfl,rfl,h0,r0⟩:=trodAll_cons hA
 obtain⟨rfl,rfl,rfl⟩:=trodAll_nil r0
 obtain rfl:args=#[v0]:=by cases args;simp_all
 have k0:=h0
 have lt0:∀x∈p0,x.block<W.heap.size:=by obtain⟨m,hm⟩:=k0;exact DataW.trod_lt m _ _ _ hm
 obtain⟨a0,len0,cap0,rfl⟩:=okWide_slice Tryz.underlying22 (hval 0 22 v0 rfl rfl)
 have w0:=j1l h0
 have hP:=jw9 hL
 have hT:Tab W:=tab_T hP
 have hMx:Mx W:=Tryz.laysM145.s1_3 W hSh
 obtain⟨pE,hN⟩:=j83 hP
 have hC:=j84 hP
 have hlt:∀x∈q,x.block<W.heap.size:=fun x hx=>hW'.lt x (List.mem_append_right _ hx)
 obtain⟨g0,gs1,qa,qb,rfl,rfl,hV0,hVr⟩:=jcc hV
 obtain⟨g1,gs2,qc,qd,rfl,rfl,hV1,hVr2⟩:=jcc hVr
 obtain⟨g2,gs3,qe,qf,rfl,rfl,hV2,hVr3⟩:=jcc hVr2
 have e3:gs3=[]/\qf=[]:=trodVars_none hVr3
 obtain⟨rfl,rfl⟩:=e3
 refine(jtu a0 len0 cap0 pE W w0 ⟨⟨hT,hMx⟩,pow_T hP,hC⟩ hN).mono fun e W' ⟨he,bel⟩=>?_
 subst he
 refine⟨_,rfl,_,_,_,[],_,_,hW',trodAll_mk1 (shut_bool Tryz.underlying4 _),trodAll_cons_mk (Below.trod jxt (by kernel_rfl) (of_decide_eq_true (by kernel_rfl)) k0 bel lt0) trodAll_mk0,js7 hV hlt hT hC hN bel,bel.frame _,fun h=>by cases h⟩
def jfd(w:World):World:=jnp (jnp (jnp (jxu (j51 (j8r w))) 9 #[.iface 181 (.agg #[.pointer (some ⟨10,49,none⟩)])]) 0 #[.iface 446 (.pointer (some ⟨15,0,none⟩))]) 1 #[.iface 446 (.pointer (some ⟨16,0,none⟩))]
theorem j7e(os:Os):laidMet Tryz.prog laidT ((jfd (World.holding Tryz.prog os ⟨#[.cells #[.string jqv] 465,.cells #[.string jqw] 465],#[],[]⟩)).forCall (fun _ _=>0) ⟨#[],#[.slice none 0 0],[]⟩).memory:=
 laidMet_of_run' 8 (by kernel_rfl) (by kernel_rfl)
theorem jpz (os : Os) : handlesMet Tryz.prog [("errors.errorType", Rows.laid_errors_errorType)] ((jfd (World.holding Tryz.prog os ⟨#[.cells #[.string jqv] 465, .cells #[.string jqw] 465], #[], []⟩)).forCall (fun _ _ => 0) ⟨#[], #[.slice none 0 0], []⟩).memory := fun x hx => by
 obtain rfl:=List.mem_singleton.1 hx
 exact⟨_,181,49,rfl,by kernel_rfl,of_decide_eq_true (by kernel_rfl),by kernel_rfl,by kernel_rfl⟩
theorem laid_met(os:Os):laidMetH Tryz.prog Rows.fnTopRow.laid ((jfd (World.holding Tryz.prog os ⟨#[.cells #[.string jqv] 465,.cells #[.string jqw] 465],#[],[]⟩)).forCall (fun _ _=>0) ⟨#[],#[.slice none 0 0],[]⟩).memory:=by
 have h : laidMet Tryz.prog laidT ((jfd (World.holding Tryz.prog os ⟨#[.cells #[.string jqv] 465, .cells #[.string jqw] 465], #[], []⟩)).forCall (fun _ _ => 0) ⟨#[], #[.slice none 0 0], []⟩).memory /\ handlesMet Tryz.prog [("errors.errorType", Rows.laid_errors_errorType)] ((jfd (World.holding Tryz.prog os ⟨#[.cells #[.string jqv] 465, .cells #[.string jqw] 465], #[], []⟩)).forCall (fun _ _ => 0) ⟨#[], #[.slice none 0 0], []⟩).memory := ⟨j7e os, jpz os⟩
 exact h
theorem reads(os:Os){H:Type}(enc:TypeId × Value->H):∃places,DataW.whole enc Tryz.prog ((jfd (World.holding Tryz.prog os ⟨#[.cells #[.string jqv] 465,.cells #[.string jqw] 465],#[],[]⟩)).forCall (fun _ _=>0) ⟨#[],#[.slice none 0 0],[]⟩).memory Tryz.f3.params.toList Rows.fnTopSpec.vars false #[Value.slice none 0 0].toList 8=some ([.nil],[tok enc (.iface 446 (.pointer (some ⟨15,0,none⟩))),Rows.laid_loop_example_g00364_impl_monthLengths,tok enc (.iface 446 (.pointer (some ⟨16,0,none⟩)))],places):=
 ⟨MemPlace.cell 0 0::(MemPlace.row ⟨8,0,none⟩ 13++[MemPlace.cell 1 0]),by kernel_rfl⟩
theorem lifted(os:Os)(started:os.Started)(H:Type)(enc:TypeId × Value->H)(F:Stop.Interp):
  ReturnsInHanded {} Tryz.checked os 3 .any ((OpenSpec.ofChange Rows.fnTopSpec).preRow enc Tryz.prog Tryz.f3 Rows.fnTopRow.domain false Rows.fnTopRow.laid) (((OpenSpec.ofChange Rows.fnTopSpec).at F).post enc Tryz.prog Tryz.f3 false true false false):=by
 obtain⟨places,hx⟩:=reads os enc
 refine returnsInHanded_of_row (C:=Tryz.checked) (s:=OpenSpec.ofChange Rows.fnTopSpec) own started (by kernel_rfl) Tryz.func3
  (witness_row_at (enc:=enc) (C:=Tryz.checked) false (jfd (World.holding Tryz.prog os ⟨#[.cells #[.string jqv] 465,.cells #[.string jqw] 465],#[],[]⟩)) #[.slice none 0 0] rfl (by kernel_rfl) (by kernel_rfl) (by kernel_rfl)
   (OpenSpec.preRow_of_cond 8 hx (by kernel_rfl) (fun k hk=>by cases hk) (by kernel_rfl) (laid_met os))) ?_
 intro W base args ds gs before hval hW _ _ _ hL hSh _
 exact contract H enc W base args ds gs before hval hW hL hSh
theorem said:Rows.FnTopSaid:=
 OpenClaim.holds_of_cond 3 Tryz.f3 rfl rfl rfl rfl rfl rfl rfl ⟨rfl,rfl,rfl,rfl,rfl⟩ rfl rfl rfl rfl rfl (by kernel_rfl) Tryz.func3 closed
  (of_decide_eq_true (by kernel_rfl)) (by unfold Func.isWrapper;first|(rw[if_pos (by decide +kernel)];kernel_rfl)|(rw[if_neg (by decide +kernel)];exact⟨rfl,rfl⟩))
  (fun os started H enc _ F=>by rw[OpenClaim.pre_eq_preRow];exact lifted os started H enc F)
theorem plain (f : FuncId) (fn : Func) (hf : Tryz.pinned.checked.prog.funcNamed "loop.example/g00364/laws.FnTop" = some f) (hfn : Tryz.pinned.checked.prog.funcs[f]? = some fn) :
  true=Tryz.pinned.checked.prog.looks []/\∀(j:Nat) t,fn.params[j]? =some t->Tryz.pinned.checked.prog.wantsStandIn t=false:=by
 obtain rfl : f = 3 := Option.some.inj ((show Tryz.prog.funcNamed "loop.example/g00364/laws.FnTop" = some 3 by kernel_rfl).symm.trans hf) |>.symm
 obtain rfl:fn=Tryz.f3:=(Option.some.inj (Tryz.func3.symm.trans hfn)).symm
 refine⟨by kernel_rfl,fun j t ht=>?_⟩
 rw[Tryz.params3]at ht
 have hm:t∈[22]:=by simpa using Array.mem_of_getElem? ht
 have hall:([22].all fun u=> !Tryz.prog.wantsStandIn u)=true:=by kernel_rfl
 exact(show Tryz.prog.wantsStandIn t=false by simpa using List.all_eq_true.1 hall t hm)
end Go.Proofs.YtofdpfpdocpbpaaGreatDoor.topL
namespace Go.Proofs.YtofdpfpdocpbpaaGreatDoor
theorem topL_card:Rows.FnTopCardSaid:=
 Claim7.holds_tied_plain_at .later [] _ _ _ _ topL.said (fun _ h=>by cases h) (by kernel_rfl) (fun _ h=>by cases h) fnTop_row_tie rfl ⟨rfl,rfl⟩ (by kernel_rfl) rfl topL.plain (by kernel_rfl)
end Go.Proofs.YtofdpfpdocpbpaaGreatDoor
