import Derived.Test.YtmkjofknhdikpaaGreatDoorBasePd
import Derived.Lib.QuietBelow
set_option maxRecDepth 100000
set_option maxHeartbeats 0
set_option linter.unusedSimpArgs false
open Go.RowKit Go.Sort
namespace Go.Proofs.YtmkjofknhdikpaaGreatDoor
variable{w w':World}{a:Option Addr}{b g k q:Nat}{rows:List (List Value)}{v0 v1 x0 x1:Value}
structure Ud where
 name:ByteArray
 lo:Int
 hi:Int
 UB:Int
 on:ByteArray
 at_:Int
 of:ByteArray
 TF:Int
 Uc:ByteArray
def Ud.cs(r:Ud):List Value:=[I r.name,J r.lo,J r.hi,J r.UB,I r.on,J r.at_,I r.of,J r.TF,I r.Uc]
def Ud.v(r:Ud):Value:=.agg #[I r.name,J r.lo,J r.hi,J r.UB,I r.on,J r.at_,I r.of,J r.TF,I r.Uc]
def Za(w:World)(a:Option Addr)(k:Nat)(rows:List (List Value)):Prop:=
 rows=[]\/∃b o,a=some (O b o)/\∀i j r c,rows[i]? =some r->r[j]? =some c->w.cell? (O b (o+i*k+j))=some c
def Ud.ok(r:Ud):Prop:=r.name.size<=maxLen/\r.on.size<=maxLen/\r.of.size<=maxLen/\r.Uc.size<=maxLen
theorem Za.at(h:Za w a k rows){i:Nat}{r:List Value}(hi:rows[i]? =some r):∃b o,a=some (O b o)/\∀j c,r[j]? =some c->w.cell? (O b (o+i*k+j))=some c:=by
 rcases h with rfl|⟨b,o,ha,hc⟩
 .simp at hi
 .exact⟨b,o,ha,λj c hj=>hc i j r c hi hj⟩
theorem Za.below(h:Za w a k rows)(hb:Bw w w'):Za w' a k rows:=by
 rcases h with h|⟨b,o,ha,hc⟩
 .exact .inl h
 .exact .inr ⟨b,o,ha,λi j r c hi hj=>by
   have:=hc i j r c hi hj
   rw[(Uq hb).1 _ _ (TV this)];exact this⟩
def Zg(w:World)(g m:Nat):Prop:=∀x,x<m->(∃v,w.cell? (O g x)=some v)/\w.frozen? (O g x)=false
theorem Zg.set{m:Nat}(h:Zg w g m)(a:Addr)(v:Value):Zg (w.setCell a v) g m:=λx hx=>by
 have⟨⟨u,hu⟩,hf⟩:=h x hx;exact⟨cell?_setCell_some hu,by rw[World.frozen?_setCell];exact hf⟩
theorem jd4{base n:Nat}{e:TypeId}{xs:List Value}(h:w.ownsRow base e q (so g n n) n xs):Zg w g (n*q):=by
 rcases h.2 with⟨h0,_⟩|⟨g',cap,cur,h1,_,hh,_,_,hs,_⟩
 .cases h0
 .injection h1 with h1 h2 h3
  injection h1 with h1
  injection h1 with h1
  subst h1 h3;intro x hx;have fm:x<cur.size:=Q;exact⟨⟨cur[x],by simp[World.cell?,hh,fm]⟩,by simp[World.frozen?,hh]⟩
structure TD where
 id:Int
 name:ByteArray
 TH:ByteArray
 Ty:Int
 TM:Int
 TL:Int
def TD.cs(r:TD):List Value:=[J r.id,I r.name,I r.TH,J r.Ty,J r.TM,J r.TL]
def TD.v(r:TD):Value:=.agg #[J r.id,I r.name,I r.TH,J r.Ty,J r.TM,J r.TL]
structure Up where
 tx:Int
 gone:Bool
 id:Int
 name:ByteArray
 TH:ByteArray
 Ty:Int
 TM:Int
 TL:Int
def Up.cs(r:Up):List Value:=[J r.tx,Z r.gone,J r.id,I r.name,I r.TH,J r.Ty,J r.TM,J r.TL]
def Up.v(r:Up):Value:=.agg #[J r.tx,Z r.gone,J r.id,I r.name,I r.TH,J r.Ty,J r.TM,J r.TL]
def Up.ok(r:Up):Prop:=r.name.size<=maxLen/\r.TH.size<=maxLen
theorem ji0:∃i:TypeInfo,Tryz.prog.info? 93=some i/\i.zero=some (.agg #[J 0,Z false,J 0,ZV,ZV,J 0,J 0,J 0])/\i.size=8/\i.bytes=80:=⟨_,rfl,rfl,rfl,rfl⟩
structure TZ where
 at_:Int
 id:Int
def TZ.cs(r:TZ):List Value:=[J r.at_,J r.id]
def TZ.v(r:TZ):Value:=.agg #[J r.at_,J r.id]
theorem jft:∃i:TypeInfo,Tryz.prog.info? 56=some i/\i.zero=some (.agg #[J 0,J 0])/\i.size=2/\i.bytes=16:=⟨_,rfl,rfl,rfl,rfl⟩
structure TX where
 TI:Int
 Tw:ByteArray
 TF:Int
 Uz:ByteArray
 Ua:Int
 of:ByteArray
def TX.cs(r:TX):List Value:=[J r.TI,I r.Tw,J r.TF,I r.Uz,J r.Ua,I r.of]
def TX.v(r:TX):Value:=.agg #[J r.TI,I r.Tw,J r.TF,I r.Uz,J r.Ua,I r.of]
def TX.ok(r:TX):Prop:=r.Tw.size<=maxLen/\r.Uz.size<=maxLen/\r.of.size<=maxLen
theorem jqj:∃i:TypeInfo,Tryz.prog.info? 159=some i/\i.zero=some (.agg #[J 0,ZV,J 0,ZV,J 0,ZV])/\i.size=6/\i.bytes=72:=⟨_,rfl,rfl,rfl,rfl⟩
structure UO where
 UQ:ByteArray
 name:ByteArray
def UO.cs(r:UO):List Value:=[I r.UQ,I r.name]
def UO.v(r:UO):Value:=.agg #[I r.UQ,I r.name]
def UO.ok(r:UO):Prop:=r.UQ.size<=maxLen/\r.name.size<=maxLen
theorem jr4:∃i:TypeInfo,Tryz.prog.info? 124=some i/\i.zero=some (.agg #[ZV,ZV])/\i.size=2/\i.bytes=32:=⟨_,rfl,rfl,rfl,rfl⟩
structure Ub where
 at_:Int
 TI:Int
 TF:Int
 UD:ByteArray
def Ub.cs(r:Ub):List Value:=[J r.at_,J r.TI,J r.TF,I r.UD]
def Ub.v(r:Ub):Value:=.agg #[J r.at_,J r.TI,J r.TF,I r.UD]
def Ub.ok(r:Ub):Prop:=r.UD.size<=maxLen
theorem jr3:∃i:TypeInfo,Tryz.prog.info? 117=some i/\i.zero=some (.agg #[ZV,J 0,J 0,J 0,ZV,J 0,ZV,J 0,ZV])/\i.size=9/\i.bytes=104:=⟨_,rfl,rfl,rfl,rfl⟩
structure UE where
 name:ByteArray
 TR:List TX
def UE.ok(z:UE):Prop:=z.name.size<=maxLen/\z.TR.length<=maxLen/\∀r∈z.TR,r.ok
def Jf(w:World)(v:Value)(es:List TX):Prop:=∃a cap,v=U a es.length cap/\Za w a 6 (es.map TX.cs)
theorem Jf.below{v:Value}{es:List TX}(h:Jf w v es)(hb:Bw w w'):Jf w' v es:=by
 obtain⟨a,cap,rfl,hA⟩:=h;exact⟨a,cap,rfl,hA.below hb⟩
def Zo(w:World)(a:Option Addr)(zs:List UE):Prop:=
 zs=[]\/∃b o,a=some (O b o)/\∀i z,zs[i]? =some z->w.cell? (O b (o+i*2))=some (I z.name)/\∃v,w.cell? (O b (o+i*2+1))=some v/\Jf w v z.TR
theorem Zo.below{zs:List UE}(h:Zo w a zs)(hb:Bw w w'):Zo w' a zs:=by
 rcases h with h|⟨b,o,ha,hc⟩
 .exact .inl h
 .refine .inr ⟨b,o,ha,λi z hi=>?_⟩
  have⟨c0,v,c1,he⟩:=hc i z hi;have hlt:=TV c0;exact⟨by rw[(Uq hb).1 _ _ hlt];exact c0,v,by rw[(Uq hb).1 _ _ hlt];exact c1,he.below hb⟩
theorem Zo.at{zs:List UE}(h:Zo w a zs){i:Nat}{z:UE}(hi:zs[i]? =some z):∃b o,a=some (O b o)/\w.cell? (O b (o+i*2))=some (I z.name)/\∃v,w.cell? (O b (o+i*2+1))=some v/\Jf w v z.TR:=by
 rcases h with rfl|⟨b,o,ha,hc⟩
 .simp at hi
 .exact⟨b,o,ha,hc i z hi⟩
theorem Za.keep(h:Za w (some (O g 0)) k rows)(hk:∀x,w'.cell? (O g x)=w.cell? (O g x)):Za w' (some (O g 0)) k rows:=by
 rcases h with h|⟨b,o,ha,hc⟩
 .exact .inl h
 .injection ha with ha
  injection ha with h1 h2
  subst h1 h2;exact .inr ⟨g,0,rfl,λi j r c hi hj=>by rw[hk];exact hc i j r c hi hj⟩
theorem jcv{p i j:Nat}(h:q≠p):((O q i):Addr)≠(O p j):=λe=>h (by injection e)
theorem jf5(h0:w.cell? (O b 0)=some x0)(h1:w.cell? (O b 1)=some x1):
  ((w.setCell (O b 0) v0).setCell (O b 1) v1).cell? (O b 0)=some v0/\((w.setCell (O b 0) v0).setCell (O b 1) v1).cell? (O b 1)=some v1:=by
 refine⟨?_,?_⟩
 .rw[Uh _ _ _ _ M,U8 _ _ _ h0]
 .refine U8 _ _ _ (u:=x1) ?_
  rw[Uh _ _ _ _ M];exact h1
theorem jr1:∃i:TypeInfo,Tryz.prog.info? 121=some i/\i.zero=some (.agg #[ZV,nS])/\i.size=2/\i.bytes=40:=⟨_,rfl,rfl,rfl,rfl⟩
structure Un where
 Tw:List Ud
 TC:List UE
 TG:List UO
def Un.ok(r:Un):Prop:=(r.Tw.length<=maxLen/\∀x∈r.Tw,x.ok)/\(r.TC.length<=maxLen/\∀x∈r.TC,x.ok)/\(r.TG.length<=maxLen/\∀x∈r.TG,x.ok)
structure Zd(w:World)(v:Value)(r:Un):Prop where
 form:∃a b c ca cb cc,v=.agg #[U a r.Tw.length ca,U b r.TC.length cb,U c r.TG.length cc]/\Za w a 9 (r.Tw.map Ud.cs)/\Zo w b r.TC/\Za w c 2 (r.TG.map UO.cs)
theorem Zd.below{v:Value}{r:Un}(h:Zd w v r)(hb:Bw w w'):Zd w' v r:=by
 have⟨a,b,c,ca,cb,cc,hv,h1,h2,h3⟩:=h.form;exact⟨a,b,c,ca,cb,cc,hv,h1.below hb,h2.below hb,h3.below hb⟩
def Jj(B:Nat)(w w':World):Prop:=∀g x,B<=g->w'.cell? (O g x)=w.cell? (O g x)/\w'.frozen? (O g x)=w.frozen? (O g x)
theorem Jj.set{B:Nat}(h:Jj B w w'){p i:Nat}(hp:p<B)(v:Value):Jj B w (w'.setCell (O p i) v):=λg x hg=>
 ⟨by rw[Uh _ _ _ _ (jcv Q)];exact(h g x hg).1,by rw[World.frozen?_setCell];exact(h g x hg).2⟩
theorem Jj.refl(B:Nat)(w:World):Jj B w w:=λ_ _ _=>⟨rfl,rfl⟩
theorem jne{x2 v2:Value}(h0:w.cell? (O b 0)=some x0)(h1:w.cell? (O b 1)=some x1)(h2:w.cell? (O b 2)=some x2):
  (((w.setCell (O b 0) v0).setCell (O b 1) v1).setCell (O b 2) v2).cell? (O b 0)=some v0/\(((w.setCell (O b 0) v0).setCell (O b 1) v1).setCell (O b 2) v2).cell? (O b 1)=some v1/\(((w.setCell (O b 0) v0).setCell (O b 1) v1).setCell (O b 2) v2).cell? (O b 2)=some v2:=by
 refine⟨?_,?_,?_⟩
 .rw[Uh _ _ _ _ M,Uh _ _ _ _ M,U8 _ _ _ h0]
 .rw[Uh _ _ _ _ M]
  refine U8 _ _ _ (u:=x1) ?_;rw[Uh _ _ _ _ M];exact h1
 .refine U8 _ _ _ (u:=x2) ?_
  rw[Uh _ _ _ _ M,Uh _ _ _ _ M];exact h2
def Un.small(r:Un):Prop:=r.Tw.length<=1048576/\r.TC.length<=1048576/\r.TG.length<=1048576/\∀z∈r.TC,z.TR.length<=1048576
structure Ur where
 at_:Int
 TF:Int
 Uc:ByteArray
def Ur.cs(r:Ur):List Value:=[J r.at_,J r.TF,I r.Uc]
def Ur.v(r:Ur):Value:=.agg #[J r.at_,J r.TF,I r.Uc]
def Ur.sz(r:Ur):Nat:=r.Uc.size
def hsz(l:List Ur):Nat:=(l.map Ur.sz).sum
