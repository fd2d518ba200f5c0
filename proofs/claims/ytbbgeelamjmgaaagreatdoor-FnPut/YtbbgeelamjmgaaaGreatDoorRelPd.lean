import Derived.Test.YtbbgeelamjmgaaaGreatDoorBasePd
import Derived.Lib.QuietBelow
set_option maxRecDepth 100000
set_option maxHeartbeats 0
set_option linter.unusedSimpArgs false
open Go.RowKit Go.Sort
namespace Go.Proofs.YtbbgeelamjmgaaaGreatDoor
variable{w w':World}{a:Option Addr}{b g k q:Nat}{rows:List (List Value)}{v0 v1 x0 x1:Value}
structure ZQ where
 name:ByteArray
 lo:Int
 hi:Int
 pU:Int
 on:ByteArray
 at_:Int
 of:ByteArray
 YX:Int
 ZR:ByteArray
def ZQ.cs(r:ZQ):List Value:=[I r.name,J r.lo,J r.hi,J r.pU,I r.on,J r.at_,I r.of,J r.YX,I r.ZR]
def ZQ.v(r:ZQ):Value:=.agg #[I r.name,J r.lo,J r.hi,J r.pU,I r.on,J r.at_,I r.of,J r.YX,I r.ZR]
def Za(w:World)(a:Option Addr)(k:Nat)(rows:List (List Value)):Prop:=
 rows=[]\/∃b o,a=some (O b o)/\∀i j r c,rows[i]? =some r->r[j]? =some c->w.cell? (O b (o+i*k+j))=some c
def ZQ.ok(r:ZQ):Prop:=r.name.size<=maxLen/\r.on.size<=maxLen/\r.of.size<=maxLen/\r.ZR.size<=maxLen
theorem Za.at(h:Za w a k rows){i:Nat}{r:List Value}(hi:rows[i]? =some r):∃b o,a=some (O b o)/\∀j c,r[j]? =some c->w.cell? (O b (o+i*k+j))=some c:=by
 rcases h with rfl|⟨b,o,ha,hc⟩
 .simp at hi
 .exact⟨b,o,ha,λj c hj=>hc i j r c hi hj⟩
theorem Za.below(h:Za w a k rows)(hb:Bw w w'):Za w' a k rows:=by
 rcases h with h|⟨b,o,ha,hc⟩
 .exact .inl h
 .exact .inr ⟨b,o,ha,λi j r c hi hj=>by
   have:=hc i j r c hi hj
   rw[(Z4 hb).1 _ _ (ZI this)];exact this⟩
def Zg(w:World)(g m:Nat):Prop:=∀x,x<m->(∃v,w.cell? (O g x)=some v)/\w.frozen? (O g x)=false
theorem Zg.set{m:Nat}(h:Zg w g m)(a:Addr)(v:Value):Zg (w.setCell a v) g m:=λx hx=>by
 have⟨⟨u,hu⟩,hf⟩:=h x hx;exact⟨cell?_setCell_some hu,by rw[World.frozen?_setCell];exact hf⟩
theorem jd4{base n:Nat}{e:TypeId}{xs:List Value}(h:w.ownsRow base e q (so g n n) n xs):Zg w g (n*q):=by
 rcases h.2 with⟨h0,_⟩|⟨g',cap,cur,h1,_,hh,_,_,hs,_⟩
 .cases h0
 .injection h1 with h1 h2 h3
  injection h1 with h1
  injection h1 with h1
  subst h1 h3;intro x hx;have fm:x<cur.size:=Q;exact⟨⟨cur[x],by simp[World.cell?,hh,fm]⟩,by simp[World.frozen?,hh]⟩
structure Ze where
 id:Int
 name:ByteArray
 YZ:ByteArray
 YV:Int
 Zz:Int
 Zu:Int
def Ze.cs(r:Ze):List Value:=[J r.id,I r.name,I r.YZ,J r.YV,J r.Zz,J r.Zu]
def Ze.v(r:Ze):Value:=.agg #[J r.id,I r.name,I r.YZ,J r.YV,J r.Zz,J r.Zu]
theorem vhI:∃i:TypeInfo,Tryz.prog.info? 33=some i/\i.zero=some (.agg #[J 0,Rn,Rn,J 0,J 0,J 0])/\i.size=6/\i.bytes=64:=⟨_,rfl,rfl,rfl,rfl⟩
structure ZN where
 tx:Int
 gone:Bool
 id:Int
 name:ByteArray
 YZ:ByteArray
 YV:Int
 Zz:Int
 Zu:Int
def ZN.cs(r:ZN):List Value:=[J r.tx,.bool r.gone,J r.id,I r.name,I r.YZ,J r.YV,J r.Zz,J r.Zu]
def ZN.v(r:ZN):Value:=.agg #[J r.tx,.bool r.gone,J r.id,I r.name,I r.YZ,J r.YV,J r.Zz,J r.Zu]
def ZN.ok(r:ZN):Prop:=r.name.size<=maxLen/\r.YZ.size<=maxLen
theorem ji0:∃i:TypeInfo,Tryz.prog.info? 82=some i/\i.zero=some (.agg #[J 0,.bool false,J 0,Rn,Rn,J 0,J 0,J 0])/\i.size=8/\i.bytes=80:=⟨_,rfl,rfl,rfl,rfl⟩
structure ZY where
 at_:Int
 id:Int
def ZY.cs(r:ZY):List Value:=[J r.at_,J r.id]
def ZY.v(r:ZY):Value:=.agg #[J r.at_,J r.id]
theorem jft:∃i:TypeInfo,Tryz.prog.info? 76=some i/\i.zero=some (.agg #[J 0,J 0])/\i.size=2/\i.bytes=16:=⟨_,rfl,rfl,rfl,rfl⟩
structure ZH where
 Zq:Int
 Vv:ByteArray
 YX:Int
 mr:ByteArray
 ZO:Int
 of:ByteArray
def ZH.cs(r:ZH):List Value:=[J r.Zq,I r.Vv,J r.YX,I r.mr,J r.ZO,I r.of]
def ZH.v(r:ZH):Value:=.agg #[J r.Zq,I r.Vv,J r.YX,I r.mr,J r.ZO,I r.of]
def ZH.ok(r:ZH):Prop:=r.Vv.size<=maxLen/\r.mr.size<=maxLen/\r.of.size<=maxLen
theorem jqj:∃i:TypeInfo,Tryz.prog.info? 154=some i/\i.zero=some (.agg #[J 0,Rn,J 0,Rn,J 0,Rn])/\i.size=6/\i.bytes=72:=⟨_,rfl,rfl,rfl,rfl⟩
structure vH where
 vR:ByteArray
 name:ByteArray
def vH.cs(r:vH):List Value:=[I r.vR,I r.name]
def vH.v(r:vH):Value:=.agg #[I r.vR,I r.name]
def vH.ok(r:vH):Prop:=r.vR.size<=maxLen/\r.name.size<=maxLen
theorem jr4:∃i:TypeInfo,Tryz.prog.info? 122=some i/\i.zero=some (.agg #[Rn,Rn])/\i.size=2/\i.bytes=32:=⟨_,rfl,rfl,rfl,rfl⟩
structure ZK where
 at_:Int
 Zq:Int
 YX:Int
 uh:ByteArray
def ZK.cs(r:ZK):List Value:=[J r.at_,J r.Zq,J r.YX,I r.uh]
def ZK.v(r:ZK):Value:=.agg #[J r.at_,J r.Zq,J r.YX,I r.uh]
def ZK.ok(r:ZK):Prop:=r.uh.size<=maxLen
theorem jr3:∃i:TypeInfo,Tryz.prog.info? 116=some i/\i.zero=some (.agg #[Rn,J 0,J 0,J 0,Rn,J 0,Rn,J 0,Rn])/\i.size=9/\i.bytes=104:=⟨_,rfl,rfl,rfl,rfl⟩
structure pE where
 name:ByteArray
 ZC:List ZH
def pE.ok(z:pE):Prop:=z.name.size<=maxLen/\z.ZC.length<=maxLen/\∀r∈z.ZC,r.ok
def Jf(w:World)(v:Value)(es:List ZH):Prop:=∃a cap,v=U a es.length cap/\Za w a 6 (es.map ZH.cs)
theorem Jf.below{v:Value}{es:List ZH}(h:Jf w v es)(hb:Bw w w'):Jf w' v es:=by
 obtain⟨a,cap,rfl,hA⟩:=h;exact⟨a,cap,rfl,hA.below hb⟩
def Zo(w:World)(a:Option Addr)(zs:List pE):Prop:=
 zs=[]\/∃b o,a=some (O b o)/\∀i z,zs[i]? =some z->w.cell? (O b (o+i*2))=some (I z.name)/\∃v,w.cell? (O b (o+i*2+1))=some v/\Jf w v z.ZC
theorem Zo.below{zs:List pE}(h:Zo w a zs)(hb:Bw w w'):Zo w' a zs:=by
 rcases h with h|⟨b,o,ha,hc⟩
 .exact .inl h
 .refine .inr ⟨b,o,ha,λi z hi=>?_⟩
  have⟨c0,v,c1,he⟩:=hc i z hi;have hlt:=ZI c0;exact⟨by rw[(Z4 hb).1 _ _ hlt];exact c0,v,by rw[(Z4 hb).1 _ _ hlt];exact c1,he.below hb⟩
theorem Zo.at{zs:List pE}(h:Zo w a zs){i:Nat}{z:pE}(hi:zs[i]? =some z):∃b o,a=some (O b o)/\w.cell? (O b (o+i*2))=some (I z.name)/\∃v,w.cell? (O b (o+i*2+1))=some v/\Jf w v z.ZC:=by
 rcases h with rfl|⟨b,o,ha,hc⟩
 .simp at hi
 .exact⟨b,o,ha,hc i z hi⟩
theorem Za.keep(h:Za w (some (O g 0)) k rows)(hk:∀x,w'.cell? (O g x)=w.cell? (O g x)):Za w' (some (O g 0)) k rows:=by
 rcases h with h|⟨b,o,ha,hc⟩
 .exact .inl h
 .injection ha with ha
  injection ha with h1 h2
  subst h1 h2;exact .inr ⟨g,0,rfl,λi j r c hi hj=>by rw[hk];exact hc i j r c hi hj⟩
theorem jcv{p i j:Nat}(h:q≠p):((O q i):Addr)≠(O p j):=λe=>h (by injection e)
theorem jf5(h0:w.cell? (O b 0)=some x0)(h1:w.cell? (O b 1)=some x1):
  ((w.setCell (O b 0) v0).setCell (O b 1) v1).cell? (O b 0)=some v0/\((w.setCell (O b 0) v0).setCell (O b 1) v1).cell? (O b 1)=some v1:=by
 refine⟨?_,?_⟩
 .rw[ZT _ _ _ _ M,Bf _ _ _ h0]
 .refine Bf _ _ _ (u:=x1) ?_
  rw[ZT _ _ _ _ M];exact h1
theorem jr1:∃i:TypeInfo,Tryz.prog.info? 120=some i/\i.zero=some (.agg #[Rn,nS])/\i.size=2/\i.bytes=40:=⟨_,rfl,rfl,rfl,rfl⟩
structure ZW where
 Vv:List ZQ
 YU:List pE
 YW:List vH
def ZW.ok(r:ZW):Prop:=(r.Vv.length<=maxLen/\∀x∈r.Vv,x.ok)/\(r.YU.length<=maxLen/\∀x∈r.YU,x.ok)/\(r.YW.length<=maxLen/\∀x∈r.YW,x.ok)
structure Zd(w:World)(v:Value)(r:ZW):Prop where
 form:∃a b c ca cb cc,v=.agg #[U a r.Vv.length ca,U b r.YU.length cb,U c r.YW.length cc]/\Za w a 9 (r.Vv.map ZQ.cs)/\Zo w b r.YU/\Za w c 2 (r.YW.map vH.cs)
theorem Zd.below{v:Value}{r:ZW}(h:Zd w v r)(hb:Bw w w'):Zd w' v r:=by
 have⟨a,b,c,ca,cb,cc,hv,h1,h2,h3⟩:=h.form;exact⟨a,b,c,ca,cb,cc,hv,h1.below hb,h2.below hb,h3.below hb⟩
def Jj(B:Nat)(w w':World):Prop:=∀g x,B<=g->w'.cell? (O g x)=w.cell? (O g x)/\w'.frozen? (O g x)=w.frozen? (O g x)
theorem Jj.set{B:Nat}(h:Jj B w w'){p i:Nat}(hp:p<B)(v:Value):Jj B w (w'.setCell (O p i) v):=λg x hg=>
 ⟨by rw[ZT _ _ _ _ (jcv Q)];exact(h g x hg).1,by rw[World.frozen?_setCell];exact(h g x hg).2⟩
theorem Jj.refl(B:Nat)(w:World):Jj B w w:=λ_ _ _=>⟨rfl,rfl⟩
theorem jne{x2 v2:Value}(h0:w.cell? (O b 0)=some x0)(h1:w.cell? (O b 1)=some x1)(h2:w.cell? (O b 2)=some x2):
  (((w.setCell (O b 0) v0).setCell (O b 1) v1).setCell (O b 2) v2).cell? (O b 0)=some v0/\(((w.setCell (O b 0) v0).setCell (O b 1) v1).setCell (O b 2) v2).cell? (O b 1)=some v1/\(((w.setCell (O b 0) v0).setCell (O b 1) v1).setCell (O b 2) v2).cell? (O b 2)=some v2:=by
 refine⟨?_,?_,?_⟩
 .rw[ZT _ _ _ _ M,ZT _ _ _ _ M,Bf _ _ _ h0]
 .rw[ZT _ _ _ _ M]
  refine Bf _ _ _ (u:=x1) ?_;rw[ZT _ _ _ _ M];exact h1
 .refine Bf _ _ _ (u:=x2) ?_
  rw[ZT _ _ _ _ M,ZT _ _ _ _ M];exact h2
def ZW.small(r:ZW):Prop:=r.Vv.length<=1048576/\r.YU.length<=1048576/\r.YW.length<=1048576/\∀z∈r.YU,z.ZC.length<=1048576
structure Z5 where
 at_:Int
 YX:Int
 ZR:ByteArray
def Z5.cs(r:Z5):List Value:=[J r.at_,J r.YX,I r.ZR]
def Z5.v(r:Z5):Value:=.agg #[J r.at_,J r.YX,I r.ZR]
def Z5.sz(r:Z5):Nat:=r.ZR.size
def hsz(l:List Z5):Nat:=(l.map Z5.sz).sum
