import Derived.Test.YtbbgeelamjmgaaaGreatDoorSHd
import Derived.Test.YtbbgeelamjmgaaaGreatDoorShelfX
set_option maxHeartbeats 0
set_option linter.unusedSimpArgs false
namespace Go.Proofs.YtbbgeelamjmgaaaGreatDoor
variable{l:List ZN}{t:Int}
section
open Go.RowKit Go.ChangeMaps Go.MapKept Go.WideMaps
def jov(s:ZP):Bool:=jk5 s&&(txB s.vs s.tx&&(jdq s.vs s.vs.length&&jnr s (ZJ s.vs)))
def wZ(s:ZP):Bool:=jov s&&eqX s.ix (BS (vak s) (ZJ s.vs))
theorem jy6{w:World}{base:Nat}{v:Value}{L:List ZY}(h:Zb w base v L):w.ownsRow base 76 2 v (L.map ZY.cs).length (L.map ZY.cs).flatten:=by rw[BX];exact h
theorem jyh(h:txB l t=true):∀v∈l,Lr v.ev=true:=λv hv=>by
 have⟨k,hk⟩:=lgo hv;unfold txB at h;rw[vB]at h;cases hx:txI l t k v
 .have:=juu hk hx (n:=l.length) (List.getElem?_eq_some_iff.1 hk).1
  rw[h.2]at this;cases this
 .unfold txI at hx
  simp only[vB]at hx;exact hx.2.2
theorem jq1{e:Ze}(h:Lr e=true):(1<=e.id/\e.id<=1000000)/\BH e.YZ=true/\ZX e.YV (-62135596800) 253402300799=true/\ZX e.Zz 0 2=true/\ZX e.Zu 0 2=true:=by
 unfold Lr at h;simp only[vB]at h;exact⟨jax h.1,h.2.2⟩
theorem j23(h:txB l t=true):∀v∈l,1<=v.id/\v.id<=1000000:=λv hv=>(jq1 (jyh h v hv)).1
end
section
open Go.RowKit Go.Sort Go.Lib
def cfX(x y:ZY):Int:=orI (Oi x.at_ y.at_) (Oi x.id y.id)
theorem ltX(x y:ZY):ltOf cfX x y=Ib x y:=j0j x y
theorem vjd:SWO (ltOf cfX) where
 irrefl x:=by rw[ltX];exact jtk x
 trans x y z h1 h2:=by rw[ltX]at *;exact jir h1 h2
 ntrans x y z h1 h2:=by rw[ltX]at *;exact jns h1 h2
theorem jq6[Inhabited ZY](blk off size:Nat)(w:World):CmpLays Tryz.prog 134 #[] ZY.cs 2 cfX blk off size w:=λ_ _ _ _ x y=>jq4 x y _
theorem j29:vcg:=⟨λP base v w hO hl=>by
 haveI:Inhabited ZY:=⟨⟨0,0⟩⟩
 rcases hO.2 with⟨rfl,h0⟩|⟨g,cap,cur,rfl,hb,hh,_⟩
 .have hP:P=[]:=List.length_eq_zero_iff.mp h0
  subst hP;refine(Tryz.sortFunc_none none 0 _ w).mono ?_;rintro e w' ⟨rfl,rfl⟩;have h:jg9 []=[]:=by simp[jg9]
  rw[h];exact⟨rfl,hO,⟨rfl,rfl,rfl,ZD _,λ_ _ _=>rfl⟩⟩
 .have⟨hH,hlt,_⟩:=j3p (enc:=ZY.cs) (λ_=>rfl) RN hO
  have hC:=Tryz.sortFunc_total 2 Tryz.isAgg76 Tryz.sizeOf76 ZY.cs (λ_=>rfl) (λx v hv=>by simp[ZY.cs]at hv;rcases hv with rfl|rfl<;>rfl) cfX vjd 134 #[] g 0 cap P.toArray w (λ_ _=>RG) (jq6 g 0 P.toArray.size w) hH hlt RO (λx y h1 h2=>by rw[ltX]at h1 h2;exact jis h1 h2);refine Calls.mono (by simpa using hC) ?_;rintro e w' ⟨rfl,q,os,rfl⟩;have hs:(P.toArray.toList.mergeSort λx y=> !(ltOf cfX) y x)=jg9 P:=by
   unfold jg9
   congr 1
   funext x y
   rw[ltX]
  rw[hs];have h:=vfR (enc:=ZY.cs) (λ_=>rfl) RN (q:=q) (os:=os) hO (jvh P)
  exact⟨rfl,h.1,h.2⟩⟩
