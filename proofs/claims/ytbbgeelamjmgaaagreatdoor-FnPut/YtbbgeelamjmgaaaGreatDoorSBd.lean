import Derived.Test.YtbbgeelamjmgaaaGreatDoorSAd
import Derived.Test.YtbbgeelamjmgaaaGreatDoorZonePd
set_option maxRecDepth 100000
set_option maxHeartbeats 0
set_option linter.unusedSimpArgs false
open Go.RowKit
namespace Go.Proofs.YtbbgeelamjmgaaaGreatDoor
variable{w:World}{v:Value}{a b:List ZY}{t:TypeId}{n q:Nat}
structure ZP where
 tx:Int
 YT:ZW
 YS:ZW
 cur:Int
 vs:List ZN
 ix:List ZY
structure Jk(r:ZW):Prop where
 ok:r.ok
 sm:r.small
 on:∀x∈r.Vv,x.on.size<=1048576
structure Jd(w:World)(v:Value)(s:ZP):Prop where
 form:∃a b c d e f va ia ca cb cc cd ce cf cv ci,v=.agg #[J s.tx,U a s.YT.Vv.length ca,U b s.YT.YU.length cb,U c s.YT.YW.length cc,U d s.YS.Vv.length cd,U e s.YS.YU.length ce,U f s.YS.YW.length cf,J s.cur,U va s.vs.length cv,U ia s.ix.length ci]/\Zd w (.agg #[U a s.YT.Vv.length ca,U b s.YT.YU.length cb,U c s.YT.YW.length cc]) s.YT/\Zd w (.agg #[U d s.YS.Vv.length cd,U e s.YS.YU.length ce,U f s.YS.YW.length cf]) s.YS/\Za w va 8 (s.vs.map ZN.cs)/\Za w ia 2 (s.ix.map ZY.cs)/\s.vs.length<=cv/\s.ix.length<=ci
theorem Jd.below{w':World}{s:ZP}(h:Jd w v s)(hb:Bw w w'):Jd w' v s:=by
 have⟨a,b,c,d,e,f,va,ia,ca,cb,cc,cd,ce,cf,cv,ci,hv,h1,h2,h3,h4,h5,h6⟩:=h.form;exact⟨a,b,c,d,e,f,va,ia,ca,cb,cc,cd,ce,cf,cv,ci,hv,h1.below hb,h2.below hb,h3.below hb,h4.below hb,h5,h6⟩
structure Zr(s:ZP):Prop where
 YT:Jk s.YT
 YS:Jk s.YS
 vs:∀v∈s.vs,v.ok
 vl:s.vs.length<=1048576
 xl:s.ix.length<=1048576
def inR(r:ZW)(nm:ByteArray):Bool:=(jbg r.YU (jba r.YW nm)).isSome
theorem jwq(r:ZW)(nm:ByteArray):decide ((0:Int)<=ixI (jbg r.YU (jba r.YW nm)))=inR r nm:=by
 unfold inR;cases jbg r.YU (jba r.YW nm)with
 |none=>rfl
 |some i=>simp[ixI]
theorem jzu{r:ZW}{nm:ByteArray}(h:ZZ r=true):inR r nm=decide (1<=(xP r nm).name.size):=by
 unfold inR;cases hx:jbg r.YU (jba r.YW nm)with
 |none=>rw[jc5 hx];rfl
 |some i=>
  have hi:i<r.YU.length:=by unfold jbg at hx;exact(List.findIdx?_eq_some_iff_getElem.mp hx).1
  have hz:r.YU[i]? =some r.YU[i]:=ZV hi;rw[jcr h hx hz];have:=(jf8 (jc9 h (List.getElem_mem hi)).2).1;simp;omega
def jl1(r:ZW):Bool:=decide (r.Vv.length=0)&&(decide (r.YU.length=0)&&decide (r.YW.length=0))
def jdv(s:ZP)(nm:ByteArray):Bool:=inR s.YT nm&&(decide (s.cur=0) || inR s.YS nm)
theorem jh4(r:ZW)(v:Value)(w:World)(hv:Zd w v r)(sm:r.small):
  C 33 #[v] w λe w'=>e=V (.bool (jl1 r))/\Bw w w':=by
 obtain⟨a,b,c,ca,cb,cc,rfl,_,_,_⟩:=hv.form;have⟨m1,m2,m3,_⟩:=sm;have ag:=ZA w (G #[U a r.Vv.length ca,U b r.YU.length cb,U c r.YW.length cc] 27);unfold jl1;generalize r.Vv.length=x at *;generalize r.YU.length=y at *;generalize r.YW.length=z at *;clear hv;by_cases h1:x=0
 .subst h1
  by_cases h2:y=0
  .subst h2
   by_cases h3:z=0
   .subst h3
    unfold C;go_in;go_wp2;go_ret;exact⟨rfl,ag⟩
   .rw[dfe h3]
    have h4:((z:Int)==0)=false:=RO;unfold C;go_in;go_wp2;go_ret;exact⟨rfl,ag⟩
  .rw[dfe h2]
   have h4:¬(y:Int)=0:=Q;unfold C;go_in;go_wp2;go_ret;exact⟨rfl,ag⟩
 .rw[dfe h1]
  have h4:¬(x:Int)=0:=Q;unfold C;go_in;go_wp2;go_ret;exact⟨rfl,ag⟩
theorem jm4(s:ZP)(v:Value)(nm:ByteArray)(w:World)(hv:Jd w v s)(ok:Zr s):
  C 25 #[v,I nm] w λe w'=>e=V (.bool (jdv s nm))/\Bw w w':=by
 obtain⟨a,b,c,d,e,f,va,ia,ca,cb,cc,cd,ce,cf,cv,ci,rfl,hN,hW,_,_,_,_⟩:=hv.form;have ag:=ZA w (G #[J s.tx,U a s.YT.Vv.length ca,U b s.YT.YU.length cb,U c s.YT.YW.length cc,U d s.YS.Vv.length cd,U e s.YS.YU.length ce,U f s.YS.YW.length cf,J s.cur,U va s.vs.length cv,U ia s.ix.length ci] 31);have hF:=λw h=>jd2 s.YT (.agg #[U a s.YT.Vv.length ca,U b s.YT.YU.length cb,U c s.YT.YW.length cc]) nm w h ok.YT.sm
 have hG:=λw h=>jd2 s.YS (.agg #[U d s.YS.Vv.length cd,U e s.YS.YU.length ce,U f s.YS.YW.length cf]) nm w h ok.YS.sm
 have h1:=jwq s.YT nm;have h2:=jwq s.YS nm;unfold jdv;have fU:=hN.below ag;have j6:=hW.below ag;clear hv ok hN hW;generalize ixI (jbg s.YT.YU (jba s.YT.YW nm))=x at *;generalize ixI (jbg s.YS.YU (jba s.YS.YW nm))=y at *;generalize inR s.YT nm=p at *;generalize inR s.YS nm=q at *;obtain⟨tx,YT,YS,cur,vs,ix⟩:=s;dsimp only at *;by_cases e1:(0:Int)<=x
 .rw[rT e1]at h1
  subst h1;by_cases e2:cur=0
  .subst e2
   unfold C;go_in;go_wp2_with fail;refine(hF _ fU).mono ?_;rintro e w1 ⟨rfl,hb1⟩;have x7:w1.cell? (O w.heap.size 7)=some (J 0):=YR hb1 RQ;go_wp2;go_ret;exact⟨rfl,ag.trans (hb1.mono M)⟩
  .rw[dfe e2]
   unfold C;go_in;go_wp2_with fail;refine(hF _ fU).mono ?_;rintro Ot w1 ⟨rfl,hb1⟩;have x7:w1.cell? (O w.heap.size 7)=some (J cur):=YR hb1 RQ;have x4:w1.cell? (O w.heap.size 4)=some (U d YS.Vv.length cd):=YR hb1 RQ;have x5:w1.cell? (O w.heap.size 5)=some (U e YS.YU.length ce):=YR hb1 RQ;have x6:w1.cell? (O w.heap.size 6)=some (U f YS.YW.length cf):=YR hb1 RQ;have j7:=j6.below hb1;have aj:=ag.trans (hb1.mono M);clear ag hb1 j6 fU;go_wp2_with fail;refine(hG _ j7).mono ?_;rintro e w2 ⟨rfl,ac⟩;have an:=Zp aj ac;by_cases e3:(0:Int)<=y
   .rw[rT e3]at h2
    subst h2;go_wp2;go_ret;exact⟨ZG (by simp[e2,e3]),an⟩
   .rw[dfe e3]at h2
    subst h2;go_wp2;go_ret;exact⟨ZG (by simp[e2,e3]),an⟩
 .rw[dfe e1]at h1
  subst h1;unfold C;go_in;go_wp2_with fail;refine(hF _ fU).mono ?_;rintro e w1 ⟨rfl,hb1⟩;go_wp2;go_ret;exact⟨rfl,ag.trans (hb1.mono M)⟩
theorem jqk(r:ZW)(v:Value)(nm:ByteArray)(w:World)(cg:Zx w)(hv:Zd w v r)(ok:Jk r)(hr:ZZ r=true):
  C 96 #[v,I nm] w λe w'=>e=V (.bool (inR r nm))/\Bw w w':=by
 have⟨a,b,c,ca,cb,cc,jH,_,_,_⟩:=hv.form;have ag:=ZA w (G #[U a r.Vv.length ca,U b r.YU.length cb,U c r.YW.length cc] 27);have hZ:=λw hE h=>jfe r v nm w hE h ok.ok ok.sm ok.on
 rw[jzu hr];have dQ:=hv.below ag;have eu:=cg.of_below ag;generalize (xP r nm).name=zn at *;subst jH;clear hv ok;by_cases h1:1<=zn.size
 .rw[rT h1]
  have h2:¬zn.toList=[]:=λh=>by rw[<- List.length_eq_zero_iff,jh9]at h;omega
  have h3:zn.toList.isEmpty=false:=by simp[h2]
  unfold C;go_in;go_wp2_with fail;refine(hZ _ eu dQ).mono ?_;rintro e w1 ⟨v',rfl,_,hb1⟩;have qA:∀w:World,(Instr.field 120 (.agg #[I zn,v']) 0).run Tryz.prog w=.ok (I zn) w:=λ_=>RG
  go_wp2;go_ret;exact⟨rfl,ag.trans (hb1.mono M)⟩
 .rw[dfe h1]
  have h2:zn.toList=[]:=by rw[<- List.length_eq_zero_iff,jh9];omega
  unfold C;go_in;go_wp2_with fail;refine(hZ _ eu dQ).mono ?_;rintro e w1 ⟨v',rfl,_,hb1⟩;have qA:∀w:World,(Instr.field 120 (.agg #[I zn,v']) 0).run Tryz.prog w=.ok (I zn) w:=λ_=>RG
  go_wp2;go_ret;exact⟨rfl,ag.trans (hb1.mono M)⟩
def vav(s:ZP):Bool:=decide (0<=s.tx)&&(decide (s.tx<=900000)&&(decide (0<=s.cur)&&(decide (s.cur<=1000001)&&(!decide (s.cur=0) || jl1 s.YS))))
def jk5(s:ZP):Bool:=vav s&&(ZZ s.YT&&ZZ s.YS)
theorem vhj{s:ZP}(h:s.tx<0):vav s=false:=by unfold vav;rw[dfe Q];rfl
theorem vhk{s:ZP}(h:900000<s.tx):vav s=false:=by unfold vav;rw[dfe (p:=s.tx<=900000) Q];simp
theorem vhl{s:ZP}(h:s.cur<0):vav s=false:=by unfold vav;rw[dfe (p:=0<=s.cur) Q];simp
theorem vhm{s:ZP}(h:1000001<s.cur):vav s=false:=by unfold vav;rw[dfe (p:=s.cur<=1000001) Q];simp
theorem vhn{s:ZP}(h:s.cur=0)(hn:jl1 s.YS=false):vav s=false:=by unfold vav;rw[rT h,hn];simp
theorem vho{s:ZP}(h1:0<=s.tx)(h2:s.tx<=900000)(h3:0<=s.cur)(h4:s.cur<=1000001)(h5:s.cur=0->jl1 s.YS=true):vav s=true:=by
 unfold vav;rw[rT h1,rT h2,rT h3,rT h4];by_cases h:s.cur=0
 .rw[h5 h];simp
 .rw[dfe h];rfl
theorem jrj(r:ZW):jl1 r=decide (¬0<((r.Vv.length:Int)+r.YU.length)+r.YW.length):=by
 unfold jl1;by_cases h:0<((r.Vv.length:Int)+r.YU.length)+r.YW.length
 .rw[dfe (p:=¬_) (by simp[h])]
  by_cases h1:r.Vv.length=0
  .by_cases h2:r.YU.length=0
   .rw[dfe (p:=r.YW.length=0) Q];simp
   .rw[dfe h2];simp
  .rw[dfe h1];rfl
 .rw[rT (p:=¬_) h,rT (p:=r.Vv.length=0) Q,rT (p:=r.YU.length=0) Q,rT (p:=r.YW.length=0) Q];rfl
theorem jjc(s:ZP)(v:Value)(w:World)(hE:Zx w)(hv:Jd w v s)(ok:Zr s):
  C 48 #[v] w λe w'=>e=V (.bool (jk5 s))/\Bw w w':=by
 obtain⟨a,b,c,d,e,f,va,ia,ca,cb,cc,cd,ce,cf,cv,ci,rfl,hN,hW,_,_,_,_⟩:=hv.form;have ag:=ZA w (G #[J s.tx,U a s.YT.Vv.length ca,U b s.YT.YU.length cb,U c s.YT.YW.length cc,U d s.YS.Vv.length cd,U e s.YS.YU.length ce,U f s.YS.YW.length cf,J s.cur,U va s.vs.length cv,U ia s.ix.length ci] 31);have hF:=λw hE h=>jbr s.YT (.agg #[U a s.YT.Vv.length ca,U b s.YT.YU.length cb,U c s.YT.YW.length cc]) w hE h ok.YT.ok ok.YT.sm ok.YT.on
 have hG:=λw hE h=>jbr s.YS (.agg #[U d s.YS.Vv.length cd,U e s.YS.YU.length ce,U f s.YS.YW.length cf]) w hE h ok.YS.ok ok.YS.sm ok.YS.on
 have⟨m1,m2,m3,_⟩:=ok.YS.sm;have fU:=hN.below ag;have j6:=hW.below ag;have eu:=hE.of_below ag;have H1:Hid (s.tx<0->vav s=false):=vhj;have H2:Hid (900000<s.tx->vav s=false):=vhk;have H3:Hid (s.cur<0->vav s=false):=vhl;have H4:Hid (1000001<s.cur->vav s=false):=vhm;have H5:Hid (s.cur=0->0<((s.YS.Vv.length:Int)+s.YS.YU.length)+s.YS.YW.length->vav s=false):=λh h2=>vhn h (by rw[jrj];exact dfe Q)
 have H6:Hid (0<=s.tx->s.tx<=900000->0<=s.cur->s.cur<=1000001->(s.cur=0->¬0<((s.YS.Vv.length:Int)+s.YS.YU.length)+s.YS.YW.length)->vav s=true):=λh1 h2 h3 h4 h5=>vho h1 h2 h3 h4 λh=>by rw[jrj];exact rT (h5 h)
 unfold jk5;clear hv ok hN hW hE;generalize vav s=fb at *;generalize ZZ s.YT=nb at *;generalize ZZ s.YS=wb at *;obtain⟨tx,YT,YS,cur,vs,ix⟩:=s;dsimp only at *;generalize YS.Vv.length=x at *;generalize YS.YU.length=y at *;generalize YS.YW.length=z at *;by_cases e1:tx<0
 .obtain rfl:fb=false:=H1.out e1
  clear H1 H2 H3 H4 H5 H6;unfold C;go_in;go_wp2;go_ret;exact⟨rfl,ag⟩
 by_cases e2:900000<tx
 .obtain rfl:fb=false:=H2.out e2
  clear H1 H2 H3 H4 H5 H6;unfold C;go_in;go_wp2;go_ret;exact⟨rfl,ag⟩
 by_cases e3:cur<0
 .obtain rfl:fb=false:=H3.out e3
  clear H1 H2 H3 H4 H5 H6;unfold C;go_in;go_wp2;go_ret;exact⟨rfl,ag⟩
 by_cases e4:1000001<cur
 .obtain rfl:fb=false:=H4.out e4
  clear H1 H2 H3 H4 H5 H6;unfold C;go_in;go_wp2;go_ret;exact⟨rfl,ag⟩
 by_cases e5:cur=0
 .subst e5
  by_cases e6:0<((x:Int)+y)+z
  .obtain rfl:fb=false:=H5.out rfl e6
   clear H1 H2 H3 H4 H5 H6;unfold C;go_in;go_wp2;go_ret;exact⟨rfl,ag⟩
  obtain rfl:fb=true:=H6.out Q Q Q Q λ_=>e6
  clear H1 H2 H3 H4 H5 H6;unfold C;go_in;go_wp2_with fail;refine(hF _ eu fU).mono ?_;rintro e' w1 ⟨rfl,hb1⟩;have x4:w1.cell? (O w.heap.size 4)=some (U d x cd):=YR hb1 RQ;have x5:w1.cell? (O w.heap.size 5)=some (U e y ce):=YR hb1 RQ;have x6:w1.cell? (O w.heap.size 6)=some (U f z cf):=YR hb1 RQ;have j7:=j6.below hb1;have jx:=eu.of_below hb1;have aj:=ag.trans (hb1.mono M);clear ag hb1 j6 fU eu;cases nb
  .go_wp2
   go_ret;exact⟨rfl,aj⟩
  go_wp2_with fail;refine(hG _ jx j7).mono ?_;rintro e' w2 ⟨rfl,ac⟩;have an:=Zp aj ac;go_wp2;go_ret;exact⟨ZG M,an⟩
 .have e7:(cur==0)=false:=by simp[e5]
  obtain rfl:fb=true:=H6.out Q Q Q Q λh=>absurd h e5
  clear H1 H2 H3 H4 H5 H6;unfold C;go_in;go_wp2_with fail;refine(hF _ eu fU).mono ?_;rintro e' w1 ⟨rfl,hb1⟩;have x4:w1.cell? (O w.heap.size 4)=some (U d x cd):=YR hb1 RQ;have x5:w1.cell? (O w.heap.size 5)=some (U e y ce):=YR hb1 RQ;have x6:w1.cell? (O w.heap.size 6)=some (U f z cf):=YR hb1 RQ;have j7:=j6.below hb1;have jx:=eu.of_below hb1;have aj:=ag.trans (hb1.mono M);clear ag hb1 j6 fU eu;cases nb
  .go_wp2
   go_ret;exact⟨rfl,aj⟩
  go_wp2_with fail;refine(hG _ jx j7).mono ?_;rintro e' w2 ⟨rfl,ac⟩;have an:=Zp aj ac;go_wp2;go_ret;exact⟨ZG M,an⟩
def Oi(x y:Int):Int:=if x<y then -1 else if y<x then 1 else 0
theorem jo8(x:Int)(w:World):C 103 #[J x] w λe w'=>e=V (.bool false)/\w'=w:=by
 unfold C;go_in;go_wp2;go_ret;exact⟨M,rfl⟩
theorem jq5(x y:Int)(w:World):C 68 #[J x,J y] w λe w'=>e=V (J (Oi x y))/\w'=w:=by
 have h1:=jo8 x w;have h2:=jo8 y w;by_cases e1:x<y
 .have HR:Hid (Oi x y= -1):=by simp only[Hid,Oi];rw[if_pos e1]
  unfold C;go_in;go_wp2_with fail;refine h1.mono ?_;rintro e w1 ⟨rfl,rfl⟩;go_wp2_with fail;refine h2.mono ?_;rintro e w1 ⟨rfl,rfl⟩;go_wp2;go_ret;exact⟨by rw[HR.out];rfl,rfl⟩
 .by_cases e2:y<x
  .have HR:Hid (Oi x y=1):=by simp only[Hid,Oi];rw[if_neg e1,if_pos e2]
   unfold C;go_in;go_wp2_with fail;refine h1.mono ?_;rintro e w1 ⟨rfl,rfl⟩;go_wp2_with fail;refine h2.mono ?_;rintro e w1 ⟨rfl,rfl⟩;go_wp2;go_ret;exact⟨by rw[HR.out];rfl,rfl⟩
  .have HR:Hid (Oi x y=0):=by simp only[Hid,Oi];rw[if_neg e1,if_neg e2]
   unfold C;go_in;go_wp2_with fail;refine h1.mono ?_;rintro e w1 ⟨rfl,rfl⟩;go_wp2_with fail;refine h2.mono ?_;rintro e w1 ⟨rfl,rfl⟩;go_wp2;go_ret;exact⟨by rw[HR.out];rfl,rfl⟩
def orI(x y:Int):Int:=if x=0 then y else x
theorem j2s(g:Nat)(x y:Int)(w:World)(c0:w.cell? (O g 0)=some (J x))(c1:w.cell? (O g 1)=some (J y)):C 135 #[so g 2 2] w λe w'=>e=V (J (orI x y))/\w'=w:=by
 unfold C;go_in;go_wp2;refine wp_loop_rounds 3 ?_;rw[rounds_succ];by_cases e1:x=0
 .subst e1
  by_cases e2:y=0
  .subst e2
   go_wp2;rw[rounds_succ];go_wp2;rw[rounds_succ];go_wp2;go_ret;exact⟨rfl,rfl⟩
  .have e3:(y==0)=false:=by simp[e2]
   go_wp2;rw[rounds_succ];go_wp2;go_ret;exact⟨rfl,rfl⟩
 .have e3:(x==0)=false:=by simp[e1]
  have HR:Hid (orI x y=x):=by simp only[Hid,orI];rw[if_neg e1]
  go_wp2;go_ret;exact⟨by rw[HR.out];rfl,rfl⟩
theorem jqv(w:World)(a b o:Obj):((w.alloc a).alloc b).drew.alloc o=Go.Sort.grow (w.drewN 1) #[a,b,o]:=by
 rw[Go.Sort.alloc_eq_grow,Go.Sort.alloc_eq_grow,Go.Sort.alloc_eq_grow,Go.Sort.drew_grow,Go.Sort.drew_grow,Go.Sort.grow_grow,Go.Sort.grow_grow];rfl
theorem jq4(x y:ZY)(w:World):C 134 #[x.v,y.v] w λe w'=>e=V (J (orI (Oi x.at_ y.at_) (Oi x.id y.id)))/\∃n os,w'=Go.Sort.grow (w.drewN n) os:=by
 obtain⟨xa,xi⟩:=x;obtain⟨ya,yi⟩:=y;simp only[ZY.v];have h1:=λx y w=>jq5 x y w
 obtain⟨x0,x1,y0,y1⟩:(λz:World=>z.cell? (O w.heap.size 0)=some (J xa)/\z.cell? (O w.heap.size 1)=some (J xi)/\z.cell? (O (w.heap.size+1) 0)=some (J ya)/\z.cell? (O (w.heap.size+1) 1)=some (J yi)) ((w.alloc (G #[J xa,J xi] 76)).alloc (G #[J ya,J yi] 76)):=RQ;have HW:Hid (∀o,∃os,((w.alloc (G #[J xa,J xi] 76)).alloc (G #[J ya,J yi] 76)).drew.alloc o=Go.Sort.grow (w.drewN 1) os):=λo=>⟨#[G #[J xa,J xi] 76,G #[J ya,J yi] 76,o],jqv w _ _ o⟩
 unfold C;go_in;go_wp2_with fail;generalize ((w.alloc (G #[J xa,J xi] 76)).alloc (G #[J ya,J yi] 76))=wA at *;have Qd:wA.drew.cell? (O w.heap.size 0)=some (J xa):=x0;have Qe:wA.drew.cell? (O w.heap.size 1)=some (J xi):=x1;have Qh:wA.drew.cell? (O (w.heap.size+1) 0)=some (J ya):=y0;have Qi:wA.drew.cell? (O (w.heap.size+1) 1)=some (J yi):=y1;have bA:=ZA wA (G #[J (Oi xa ya),J (Oi xi yi)] 3);have Qf:(wA.alloc (G #[J (Oi xa ya),J (Oi xi yi)] 3)).drew.cell? (O w.heap.size 0)=some (J xa):=YR bA x0;have Qg:(wA.alloc (G #[J (Oi xa ya),J (Oi xi yi)] 3)).drew.cell? (O w.heap.size 1)=some (J xi):=YR bA x1;have Qj:(wA.alloc (G #[J (Oi xa ya),J (Oi xi yi)] 3)).drew.cell? (O (w.heap.size+1) 0)=some (J ya):=YR bA y0;have Qk:(wA.alloc (G #[J (Oi xa ya),J (Oi xi yi)] 3)).drew.cell? (O (w.heap.size+1) 1)=some (J yi):=YR bA y1;have h2:=j2s wA.heap.size (Oi xa ya) (Oi xi yi) (wA.alloc (G #[J (Oi xa ya),J (Oi xi yi)] 3)).drew RQ RQ;clear bA;clear x0 x1 y0 y1;go_region_held3 (λw'=>w'.cell? (O w.heap.size 0)=some (J xa)/\w'.cell? (O w.heap.size 1)=some (J xi)/\w'.cell? (O (w.heap.size+1) 0)=some (J ya)/\w'.cell? (O (w.heap.size+1) 1)=some (J yi)) (go_keep) (first|(go_at_call 68;refine(h1 _ _ _).mono ?_;rintro e w3 ⟨rfl,rfl⟩)|(go_at_call 135;refine h2.mono ?_;rintro e w4 ⟨rfl,rfl⟩)|go_in);go_wp2;go_ret;have⟨os,ho⟩:=HW.out (G #[J (Oi xa ya),J (Oi xi yi)] 3);exact⟨rfl,1,os,ho⟩
def eqX(a b:List ZY):Bool:=(a.map λx=>(x.at_,x.id))==(b.map λx=>(x.at_,x.id))
theorem vcZ:eqX a b=true↔a=b:=by
 unfold eqX;rw[beq_iff_eq];constructor
 .intro h
  refine List.map_inj_right (f:=λx:ZY=>(x.at_,x.id)) (λx y h=>?_) |>.mp h;cases x;cases y;simp only[Prod.mk.injEq]at h;obtain⟨rfl,rfl⟩:=h;rfl
 .intro h;rw[h]
theorem jla(h:a≠b):eqX a b=false:=by
 cases hb:eqX a b
 .rfl
 .exact absurd (vcZ.mp hb) h
theorem jhc(l m:List ZY)(a b:Option Addr)(n k ca cb:Nat)(w:World)(hA:Za w a 2 (l.map ZY.cs))(hB:Za w b 2 (m.map ZY.cs))(hn:l.length=n)(hk:m.length=k)(hl:n<=1048576)(eY:k<=1048576):
  C 54 #[U a n ca,U b k cb] w λe w'=>e=V (.bool (eqX l m))/\Bw w w':=by
 by_cases Gb:n=k
 .subst Gb
  have HE:Hid (l.length=n/\m.length=n):=⟨hn,hk⟩;have⟨z,hz⟩:=ZL (eqX l m);have HZ:=hid hz;rw[hz];clear hz hn hk;unfold C;go_in;go_wp2;go_loopw [13] (λs wr=>∃i:Nat,i<=n/\s=J i/\Hid (∀j,j<i->l[j]? =m[j]?)/\Bw w wr) (λs _=>n-(intOf s).toNat)
  .exact⟨0,Q,rfl,λj hj=>Q,ZU _ _⟩
  ·
   have⟨wa,dS⟩:=wL wr;subst dS;obtain⟨i,hin,rfl,HK,aK⟩:=hrel;by_cases hlt:i<n
   .have a1:(i:Int)<(n:Int):=Q
    obtain⟨x,hx⟩:∃v,l[i]? =some v:=⟨_,ZV (by have:=HE.out.1;omega)⟩;obtain⟨y,hy⟩:∃v,m[i]? =some v:=⟨_,ZV (by have:=HE.out.2;omega)⟩;obtain⟨p,o,rfl,hc⟩:=(hA.below aK).at (i:=i) (r:=x.cs) (by rw[Z8,hx];rfl);obtain⟨p2,o2,rfl,hd⟩:=(hB.below aK).at (i:=i) (r:=y.cs) (by rw[Z8,hy];rfl);have c0:wa.cell? (O p (o+i*2))=some (J x.at_):=hc 0 _ rfl;have c1:wa.cell? (O p (o+i*2+1))=some (J x.id):=hc 1 _ rfl;have d0:wa.cell? (O p2 (o2+i*2))=some (J y.at_):=hd 0 _ rfl;have d1:wa.cell? (O p2 (o2+i*2+1))=some (J y.id):=hd 1 _ rfl;have HX:Hid (l[i]? =some x/\m[i]? =some y):=⟨hx,hy⟩;clear hc hd hx hy;obtain⟨xa,xi⟩:=x;obtain⟨ya,yi⟩:=y;dsimp only at *;by_cases e1:xa=ya
    .subst e1
     by_cases e2:xi=yi
     .subst e2
      have HR:Hid (∀j,j<i+1->l[j]? =m[j]?):=λj hj=>by
       by_cases e:j=i
       .subst e;rw[HX.out.1,HX.out.2]
       .exact HK.out j Q
      clear HX HK;go_wp2_with fail;go_quiet (fail);go_wp2;go_roundw
      .exact⟨i+1,Q,RP,HR,below_drewN aK _⟩
      .simp[intOf];omega
     .obtain rfl:z=false:=by
       rw[<- HZ.out];refine jla λh=>?_
       have h1:=HX.out.1;rw[h,HX.out.2]at h1;injection h1 with h1;injection h1 with _ h1;exact e2 h1.symm
      clear HX HK;go_wp2_with fail;go_quiet (fail);go_wp2;go_ret;exact⟨rfl,below_drewN aK _⟩
    .obtain rfl:z=false:=by
      rw[<- HZ.out];refine jla λh=>?_
      have h1:=HX.out.1;rw[h,HX.out.2]at h1;injection h1 with h1;injection h1 with h1 _;exact e1 h1.symm
     clear HX HK;go_wp2_with fail;go_quiet (fail);go_wp2;go_ret;exact⟨rfl,below_drewN aK _⟩
   .obtain rfl:i=n:=Q
    obtain rfl:z=true:=by
     rw[<- HZ.out,vcZ];refine List.ext_getElem? λj=>?_
     by_cases hj:j<i
     .exact HK.out j hj
     .rw[List.getElem?_eq_none (by rw[HE.out.1];omega),List.getElem?_eq_none (by rw[HE.out.2];omega)]
    go_wp2;go_ret;exact⟨rfl,aK⟩
 .have h1:¬(n:Int)=(k:Int):=Q
  rw[jla (λh=>Gb (by rw[<- hn, <- hk,h]))];unfold C;go_in;go_wp2;go_ret;exact⟨rfl,ZU _ _⟩
section
open Go.RowKit Go.Lib
abbrev vbL(w:World)(t:TypeId)(q n:Nat)(l:List Value)(e:Ending)(w':World):Prop:=∃v',e=V v'/\w'.ownsRow w.heap.size t q v' n l/\Bw w w'
theorem vcA{F:FuncId}{c:Nat}{rows:List (List Value)}{a:Option Addr}(hq:∀r∈rows,r.length=q)(h1:∀u∈rows.flatten,u.oneCell'=true)(hA:Za w a q rows)(hn:rows.length=n)
  (hm:∀(s:Addr) (l:List Value),Hid (∀j u,l[j]? =some u->w.cell? (s.add j)=some u)->Hid (l.length=n*q)->Hid (∀u∈l,u.oneCell'=true)->C F #[U (some s) n c] w (vbL w t q n l)) (h0:C F #[U none 0 c] w (vbL w t q 0 [])):C F #[U a n c] w (vbL w t q n rows.flatten):=by
 have hL:rows.flatten.length=n*q:=by rw[jbx hq,hn]
 rcases hA with e|⟨b,ob,rfl,hc⟩
 .subst e
  obtain rfl:n=0:=by rw[<- hn];rfl
  cases a with
  |none=>exact h0
  |some b0=>exact hm b0 _ (λj u hj=>by simp at hj) hL h1
 .exact hm _ _ (Za.flat (.inr ⟨b,ob,rfl,hc⟩) hq) hL h1
theorem vcB{w1:World}{l:List Value}(ho:w1.ownsRow w.heap.size t q v n l)(hg:(w.alloc (G #[] t)).grownBy w1 (U (some (O w.heap.size 0)) 0 0).ownBlock):w1.ownsRow w.heap.size t q v n l/\Bw w w1:=⟨ho,(ZA w _).grown hg M (by intro k hk;simp[Value.ownBlock]at hk;omega)⟩
theorem jmp(rows:List (List Value))(hq:∀r∈rows,r.length=8)(h1:∀u∈rows.flatten,u.oneCell'=true)(a:Option Addr)(n c:Nat)(w:World)(hA:Za w a 8 rows)(hn:rows.length=n)(hl:n<=1048576):C 89 #[U a n c] w (vbL w 82 8 n rows.flatten):=by
 have⟨i0,hi,aG,aH,aF⟩:=ji0;have sR:=fun(w:World) (a:Option Addr) (n c n' c':Nat)=>Lib.run_eql_slice_nil w 28 _ a n c n' c' Tryz.underlying28
 refine vcA hq h1 hA hn (λs l HC HL H1=>?_) ?_
 .clear h1 hq hn hA
  unfold C;go_in;go_wp2_with (at_builtin;refine wpList_append_own _ rfl _ _ 28 rfl w.heap.size 82 i0 (.agg #[J 0,.bool false,J 0,Rn,Rn,J 0,J 0,J 0]) 8 80 Tryz.underlying28 hi aG aH aF rfl RN _ _ _ rfl (World.ownsRow_made w #[] 0 (ZD _) (Nat.zero_le _) M) s n c l rfl HL.out ?qc2 H1.out ?qc4 ?qc5 ?qc6 ?_)
  case qc2=>intro j u hj;exact Lib.cell?_alloc_some _ (HC.out j u hj)
  case qc4=>unfold maxLen;omega
  case qc5=>omega
  case qc6=>simp
  intro v' w1 ai af _;go_wp2;go_ret;exact⟨v',rfl,vcB ai af⟩
 .unfold C;go_in
  go_wp2;go_ret;exact⟨_,rfl,World.ownsRow_nil _ _ _ _,ZU _ _⟩
theorem jq7(rows:List (List Value))(hq:∀r∈rows,r.length=2)(h1:∀u∈rows.flatten,u.oneCell'=true)(a:Option Addr)(n c:Nat)(w:World)(hA:Za w a 2 rows)(hn:rows.length=n)(hl:n<=1048576):C 90 #[U a n c] w (vbL w 76 2 n rows.flatten):=by
 have⟨i0,hi,aG,aH,aF⟩:=jft;have sR:=fun(w:World) (a:Option Addr) (n c n' c':Nat)=>Lib.run_eql_slice_nil w 29 _ a n c n' c' Tryz.underlying29
 refine vcA hq h1 hA hn (λs l HC HL H1=>?_) ?_
 .clear h1 hq hn hA
  unfold C;go_in;go_wp2_with (at_builtin;refine wpList_append_own _ rfl _ _ 29 rfl w.heap.size 76 i0 (.agg #[J 0,J 0]) 2 16 Tryz.underlying29 hi aG aH aF rfl RN _ _ _ rfl (World.ownsRow_made w #[] 0 (ZD _) (Nat.zero_le _) M) s n c l rfl HL.out ?qc2 H1.out ?qc4 ?qc5 ?qc6 ?_)
  case qc2=>intro j u hj;exact Lib.cell?_alloc_some _ (HC.out j u hj)
  case qc4=>unfold maxLen;omega
  case qc5=>omega
  case qc6=>simp
  intro v' w1 ai af _;go_wp2;go_ret;exact⟨v',rfl,vcB ai af⟩
 .unfold C;go_in
  go_wp2;go_ret;exact⟨_,rfl,World.ownsRow_nil _ _ _ _,ZU _ _⟩
theorem jt6(rows:List (List Value))(hq:∀r∈rows,r.length=9)(h1:∀u∈rows.flatten,u.oneCell'=true)(a:Option Addr)(n c:Nat)(w:World)(hA:Za w a 9 rows)(hn:rows.length=n)(hl:n<=1048576):C 131 #[U a n c] w (vbL w 116 9 n rows.flatten):=by
 have⟨i0,hi,aG,aH,aF⟩:=jr3;have sR:=fun(w:World) (a:Option Addr) (n c n' c':Nat)=>Lib.run_eql_slice_nil w 23 _ a n c n' c' Tryz.underlying23
 refine vcA hq h1 hA hn (λs l HC HL H1=>?_) ?_
 .clear h1 hq hn hA
  unfold C;go_in;go_wp2_with (at_builtin;refine wpList_append_own _ rfl _ _ 23 rfl w.heap.size 116 i0 (.agg #[Rn,J 0,J 0,J 0,Rn,J 0,Rn,J 0,Rn]) 9 104 Tryz.underlying23 hi aG aH aF rfl RN _ _ _ rfl (World.ownsRow_made w #[] 0 (ZD _) (Nat.zero_le _) M) s n c l rfl HL.out ?qc2 H1.out ?qc4 ?qc5 ?qc6 ?_)
  case qc2=>intro j u hj;exact Lib.cell?_alloc_some _ (HC.out j u hj)
  case qc4=>unfold maxLen;omega
  case qc5=>omega
  case qc6=>simp
  intro v' w1 ai af _;go_wp2;go_ret;exact⟨v',rfl,vcB ai af⟩
 .unfold C;go_in
  go_wp2;go_ret;exact⟨_,rfl,World.ownsRow_nil _ _ _ _,ZU _ _⟩
theorem jt7(rows:List (List Value))(hq:∀r∈rows,r.length=2)(h1:∀u∈rows.flatten,u.oneCell'=true)(a:Option Addr)(n c:Nat)(w:World)(hA:Za w a 2 rows)(hn:rows.length=n)(hl:n<=1048576):C 132 #[U a n c] w (vbL w 122 2 n rows.flatten):=by
 have⟨i0,hi,aG,aH,aF⟩:=jr4;have sR:=fun(w:World) (a:Option Addr) (n c n' c':Nat)=>Lib.run_eql_slice_nil w 25 _ a n c n' c' Tryz.underlying25
 refine vcA hq h1 hA hn (λs l HC HL H1=>?_) ?_
 .clear h1 hq hn hA
  unfold C;go_in;go_wp2_with (at_builtin;refine wpList_append_own _ rfl _ _ 25 rfl w.heap.size 122 i0 (.agg #[Rn,Rn]) 2 32 Tryz.underlying25 hi aG aH aF rfl RN _ _ _ rfl (World.ownsRow_made w #[] 0 (ZD _) (Nat.zero_le _) M) s n c l rfl HL.out ?qc2 H1.out ?qc4 ?qc5 ?qc6 ?_)
  case qc2=>intro j u hj;exact Lib.cell?_alloc_some _ (HC.out j u hj)
  case qc4=>unfold maxLen;omega
  case qc5=>omega
  case qc6=>simp
  intro v' w1 ai af _;go_wp2;go_ret;exact⟨v',rfl,vcB ai af⟩
 .unfold C;go_in
  go_wp2;go_ret;exact⟨_,rfl,World.ownsRow_nil _ _ _ _,ZU _ _⟩
theorem jt5(rows:List (List Value))(hq:∀r∈rows,r.length=2)(h1:∀u∈rows.flatten,u.oneCell'=true)(a:Option Addr)(n c:Nat)(w:World)(hA:Za w a 2 rows)(hn:rows.length=n)(hl:n<=1048576):C 129 #[U a n c] w (vbL w 120 2 n rows.flatten):=by
 have⟨i0,hi,aG,aH,aF⟩:=jr1;have sR:=fun(w:World) (a:Option Addr) (n c n' c':Nat)=>Lib.run_eql_slice_nil w 24 _ a n c n' c' Tryz.underlying24
 refine vcA hq h1 hA hn (λs l HC HL H1=>?_) ?_
 .clear h1 hq hn hA
  unfold C;go_in;go_wp2_with (at_builtin;refine wpList_append_own _ rfl _ _ 24 rfl w.heap.size 120 i0 (.agg #[Rn,nS]) 2 40 Tryz.underlying24 hi aG aH aF rfl RN _ _ _ rfl (World.ownsRow_made w #[] 0 (ZD _) (Nat.zero_le _) M) s n c l rfl HL.out ?qc2 H1.out ?qc4 ?qc5 ?qc6 ?_)
  case qc2=>intro j u hj;exact Lib.cell?_alloc_some _ (HC.out j u hj)
  case qc4=>unfold maxLen;omega
  case qc5=>omega
  case qc6=>simp
  intro v' w1 ai af _;go_wp2;go_ret;exact⟨v',rfl,vcB ai af⟩
 .unfold C;go_in
  go_wp2;go_ret;exact⟨_,rfl,World.ownsRow_nil _ _ _ _,ZU _ _⟩
theorem jxr(rows:List (List Value))(hq:∀r∈rows,r.length=6)(h1:∀u∈rows.flatten,u.oneCell'=true)(a:Option Addr)(n c:Nat)(w:World)(hA:Za w a 6 rows)(hn:rows.length=n)(hl:n<=1048576):C 130 #[U a n c] w (vbL w 154 6 n rows.flatten):=by
 have⟨i0,hi,aG,aH,aF⟩:=jqj;have sR:=fun(w:World) (a:Option Addr) (n c n' c':Nat)=>Lib.run_eql_slice_nil w 118 _ a n c n' c' Tryz.underlying118
 refine vcA hq h1 hA hn (λs l HC HL H1=>?_) ?_
 .clear h1 hq hn hA
  unfold C;go_in;go_wp2_with (at_builtin;refine wpList_append_own _ rfl _ _ 118 rfl w.heap.size 154 i0 (.agg #[J 0,Rn,J 0,Rn,J 0,Rn]) 6 72 Tryz.underlying118 hi aG aH aF rfl RN _ _ _ rfl (World.ownsRow_made w #[] 0 (ZD _) (Nat.zero_le _) M) s n c l rfl HL.out ?qc2 H1.out ?qc4 ?qc5 ?qc6 ?_)
  case qc2=>intro j u hj;exact Lib.cell?_alloc_some _ (HC.out j u hj)
  case qc4=>unfold maxLen;omega
  case qc5=>omega
  case qc6=>simp
  intro v' w1 ai af _;go_wp2;go_ret;exact⟨v',rfl,vcB ai af⟩
 .unfold C;go_in
  go_wp2;go_ret;exact⟨_,rfl,World.ownsRow_nil _ _ _ _,ZU _ _⟩
