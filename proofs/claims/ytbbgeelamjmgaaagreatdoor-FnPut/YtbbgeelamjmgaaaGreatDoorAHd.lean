import Derived.Test.YtbbgeelamjmgaaaGreatDoorDPd
import Derived.Test.YtbbgeelamjmgaaaGreatDoorLVd
import Derived.Test.YtbbgeelamjmgaaaGreatDoorFXd
set_option maxHeartbeats 0
set_option linter.unusedSimpArgs false
set_option maxRecDepth 100000
open Go.RowKit
namespace Go.Proofs.YtbbgeelamjmgaaaGreatDoor
section
open Go.RowKit Go.ChangeMaps Go.MapKept Go.WideMaps
structure vgI(s:ZP)(w:World)(q:Ending)(w':World):Prop where
 ex:∃x,q=V (.tuple #[.pointer x,.bool (wZ s)])/\(wZ s=true->∃bb lb n a8 c8,x=some (O bb 0)/\w'.cell? (O bb 10)=some (.map (some lb))/\Zm w' lb n (AY s.vs)/\w'.cell? (O bb 0)=some (J s.tx)/\w'.cell? (O bb 8)=some (U a8 s.vs.length c8)/\Za w' a8 8 (s.vs.map ZN.cs)/\s.vs.length<=c8/\True)
 ZB:Bw w w'
theorem ji8(hS:vcg)(s:ZP)(v:Value)(w:World)(hE:Zx w)(hv:Jd w v s)(ok:Zr s):
  C 21 #[v] w (vgI s w):=by
 refine(vea hS s v w hE hv ok).mono ?_;intro q w' h;obtain⟨x,rfl,hx⟩:=h.ex;refine⟨⟨x,rfl,λhs=>?_⟩,h.ZB⟩;obtain⟨bb,lb,n,a1,a2,a3,a4,a5,a6,a8,a9,c1,c2,c3,c4,c5,c6,c8,c9,nm,wm,k,w0,B,a,b,c,d,e,f,ca,cb,cc,cd,ce,cf,rfl,hM,hn,Ia,hk,bg,hE,hN,hW,mI,oG,dC,hC⟩:=(hx hs).ex;have⟨M1,M2,M3,_,_,_,hV,_⟩:=(hC.below Ia.ZB).parts;exact⟨bb,lb,n,a8,c8,rfl,Ia.live,hM,Ia.more (0,J s.tx) (by simp[Mq]),Ia.more (8,U a8 s.vs.length c8) (by simp[Mq]),hV.seq (jlb (cs:=ZN.cs) (λ_=>rfl) _),hV.cap,trivial⟩
end
set_option maxRecDepth 20000 in
theorem jwv(s:ZP)(v:Value)(w:World)(hE:Zx w)(hv:Jd w v s)(ok:Zr s):
  C 39 #[v] w λe w'=>e=V (.bool (wZ s))/\Bw w w':=by
 have dQ:=hv;obtain⟨a,b,c,d,e,f,va,ia,ca,cb,cc,cd,ce,cf,cv,ci,rfl,_,_,_,_,_,_⟩:=hv.form;have ag:Bw w (w.alloc (G (stA s a b c d e f va ia ca cb cc cd ce cf cv ci).toArray 31)):=ZA _ _;have hO:=ji8 j29 s _ _ (hE.of_below ag) (dQ.below ag) ok;clear hv dQ hE ok;unfold C;go_in;go_wp2_with fail;refine hO.mono ?_;rintro q w1 hP;obtain⟨x,rfl,_⟩:=hP.ex;have hb1:=hP.ZB;go_wp2;go_ret;exact⟨rfl,(Zp ag hb1)⟩
end Go.Proofs.YtbbgeelamjmgaaaGreatDoor
open Go.RowKit Go.Sort
namespace Go.Proofs.YtbbgeelamjmgaaaGreatDoor
variable{s:ZP}{l:List ZN}{base k n:Nat}{v:ZN}{tx:Int}{w:World}
theorem vff(h:wZ s=true):s.vs.length<=60:=by
 unfold wZ jov txB at h;simp only[vB,decide_eq_true_eq]at h;exact h.1.2.1.1
theorem vfo(hS:vcg)(s:ZP)(v:Value)(w:World)(hE:Zx w)(hv:Jd w v s)(ok:Zr s):
  C 8 #[v] w λe w'=>∃x,e=V x/\Jb w' w.heap.size x (if wZ s=true then ZJ s.vs else [])/\Bw w w':=by
 have dQ:=hv;obtain⟨a,b,c,d,e,f,va,ia,ca,cb,cc,cd,ce,cf,cv,ci,rfl,_,_,hV,_,_,_⟩:=hv.form;have ag:=ZA w (G (stA s a b c d e f va ia ca cb cc cd ce cf cv ci).toArray 31);have A0:=Zh.new w (stA s a b c d e f va ia ca cb cc cd ce cf cv ci) 31;have hO:=ji8 hS s _ _ (hE.of_below ag) (dQ.below ag) ok;have⟨x0,x1,x2,x3,x4,x5,x6,x7,x8,x9⟩:=A0.ZS;have⟨tb,jj⟩:=ZL (wZ s);have HT:=hid jj;rw[jj];clear hV hv dQ jj;unfold C;go_in;go_wp2_with fail;refine hO.mono ?_;rintro e1 w1 hP;have⟨x,mD,hx⟩:=hP.ex;rw[HT.out]at mD hx;subst mD;have aj:=ag.trans (hP.ZB.mono ag.size);clear hP x0 x1 x2 x3 x4 x5 x6 x7 x8 x9 A0 hO;cases tb
 .clear hx
  go_wp2;go_ret;exact⟨_,rfl,World.ownsRow_nil _ _ _ _,aj⟩
 .obtain⟨bb,lb,n,_,_,rfl,hl,hM,_⟩:=hx rfl
  have hC:=vfq lb n (AY s.vs) (ZJ s.vs) w1 hM (jga s.vs) (jhr s.vs.length) (Nat.le_trans (jwf _ _) ok.vl);clear hx;go_wp2_with fail;refine hC.mono ?_;rintro e2 w2 ⟨v2,rfl,aW,ac⟩;obtain⟨p,m,c2,rfl⟩:=Dt aW;have an:=Zp aj ac;go_wp2;go_ret;exact⟨_,rfl,Ez aW aj.size,an⟩
theorem vga(s:ZP)(v:Value)(w:World)(hv:Jd w v s)(yN:∀w,Jd w v s->C 10 #[v] w λe w'=>e=V (.bool (wZ s))/\Bw w w'):
  C 9 #[v] w λe w'=>∃x,e=V x/\Jb w' w.heap.size x (if wZ s=true then ZJ s.vs else [])/\Bw w w':=by
 have dQ:=hv;obtain⟨a,b,c,d,e,f,va,ia,ca,cb,cc,cd,ce,cf,cv,ci,rfl,_,_,hV,_,_,_⟩:=hv.form;have ag:=ZA w (G (stA s a b c d e f va ia ca cb cc cd ce cf cv ci).toArray 31);have A0:=Zh.new w (stA s a b c d e f va ia ca cb cc cd ce cf cv ci) 31;have hS:=yN _ (dQ.below ag);have⟨x0,x1,x2,x3,x4,x5,x6,x7,x8,x9⟩:=A0.ZS;have HV:=hid hV;have⟨tb,jj⟩:=ZL (wZ s);have HT:=hid jj;rw[jj]at hS ⊢;clear hV hv dQ yN jj;unfold C;go_in;go_wp2_with fail;refine hS.mono ?_;rintro e1 w1 ⟨rfl,hb1⟩;have aj:=Zp ag hb1;have A1:=A0.below hb1;clear hb1 x0 x1 x2 x3 x4 x5 x6 x7 x8 x9 A0 hS;cases tb
 .have hO:=ja5 w1 33 6
  have ac:=ZA w1 (G #[] 33);go_wp2;go_ret;exact⟨_,rfl,Ez hO aj.size,(Zp aj ac)⟩
 .have hC:=jd1 s.vs va s.vs.length cv w1 (HV.out.below aj) rfl (Nat.le_trans (vff HT.out) Q)
  have x8:=A1.c 8 rfl;go_wp2_with fail;refine hC.mono ?_;rintro e2 w2 ⟨v2,rfl,aW,ac⟩;obtain⟨p,m,c2,rfl⟩:=Dt aW;have an:=Zp aj ac;go_wp2;go_ret;exact⟨_,rfl,Ez aW aj.size,an⟩
def va5(l:List ZN)(tx:Int):Nat:=(l.takeWhile λv=>decide (v.tx<=tx)).length
theorem vd2{tx:Int}:∀{l:List ZN} {k:Nat},k<=l.length->(∀j v,j<k->l[j]? =some v->v.tx<=tx)->(∀v,l[k]? =some v->¬v.tx<=tx)->va5 l tx=k
 |[],k,h,_,_=>by
  simp only[List.length_nil,Nat.le_zero_eq]at h;subst h;rfl
 |x::l,0,_,_,h3=>by
  have h:=h3 x rfl;unfold va5;rw[List.takeWhile_cons_of_neg (by simpa using h)];rfl
 |x::l,k+1,h1,h2,h3=>by
  have h:=h2 0 x Q rfl;have ih:=vd2 (l:=l) (k:=k) (by simpa using h1) (λj v hj hv=>h2 (j+1) v Q (by simpa using hv)) (λv hv=>h3 v (by simpa using hv));unfold va5 at *;rw[List.takeWhile_cons_of_pos (by simpa using h),List.length_cons,ih]
theorem vhq{m:Nat}(h:k<=m):jdr (l.take m) k v=jdr l k v:=by
 unfold jdr;rw[List.take_take,Nat.min_eq_left h]
theorem vfd{l:List ZN}{m:Nat}:∀{k:Nat},k<=m->jdq (l.take m) k=jdq l k
 |0,_=>rfl
 |k+1,h=>by
  unfold jdq;rw[vfd (k:=k) Q,List.getElem?_take,if_pos Q];cases l[k]? with
  |none=>rfl
  |some v=>simp only;rw[vhq Q]
theorem vhr(h:jdq l n=true)(hk:k<=n):jdq l k=true:=by
 induction n with
 |zero=>
  obtain rfl:k=0:=Q;exact h
 | succ n ih=>
  by_cases e:k=n+1
  .rw[e];exact h
  .unfold jdq at h
   rw[vB]at h;exact ih h.1 Q
def asB(s:ZP)(tx:Int):Bool:=decide (0<=tx)&&decide (tx<=s.tx)
def asL(s:ZP)(tx:Int):List Ze:=if asB s tx=true then ZJ (s.vs.take (va5 s.vs tx))else []
def asC(s:ZP)(tx:Int):Int:=if asB s tx=true then 0 else 4
theorem veS(h:tx<0\/s.tx<tx):asL s tx=[]/\asC s tx=4:=by
 have e:asB s tx=false:=by
  unfold asB;rcases h with h|h
  .rw[dfe Q];rfl
  .rw[dfe (p:=tx<=s.tx) Q];simp
 unfold asL asC;rw[e];exact⟨rfl,rfl⟩
theorem vdo(h1:0<=tx)(h2:tx<=s.tx):asL s tx=ZJ (s.vs.take (va5 s.vs tx))/\asC s tx=0:=by
 have e:asB s tx=true:=by unfold asB;rw[rT h1,rT h2];rfl
 unfold asL asC;rw[e];exact⟨rfl,rfl⟩
def AsP(vCC:Int)(X:List Ze)(w:World)(q:Ending)(W':World):Prop:=∃x,q=V (.agg #[x,J vCC])/\Jb W' w.heap.size x X/\Bw w W'
theorem vcy{vCC:Int}{X:List Ze}{w1:World}{b:Nat}{x:Value}(hO:Jb w1 base x X)(hb:w.heap.size<=b)(iF:b<base)(hB:Bw w w1):AsP vCC X w (V (.agg #[x,J vCC])) ((w1.setCell (O b 0) x).setCell (O b 1) (J vCC)):=by
 have az:x.ownBlock=none\/x.ownBlock≠some b:=by
  cases hv:x.ownBlock with
  |none=>exact .inl rfl
  |some g=>exact .inr λe=>by have:=(World.ownsRow.lt hO g hv).1;injection e with e;omega
 exact⟨x,rfl,World.ownsRow.kept (World.ownsRow.kept (Ez hO Q) (jck w1 _ 0 _) az) (jck _ _ 1 _) az,(hB.setCell hb _).setCell hb _⟩
theorem vhB(s:ZP)(bb:Nat)(a8:Option Addr)(c8:Nat)(tx:Int)(w:World)(c0:w.cell? (O bb 0)=some (J s.tx))(c1:w.cell? (O bb 8)=some (U a8 s.vs.length c8))(hA:Za w a8 8 (s.vs.map ZN.cs))(FR:s.vs.length<=c8)(hi:∀v∈s.vs,1<=v.id/\v.id<=1000000)(hg:jdq s.vs s.vs.length=true)(hl:s.vs.length<=1048576):
  C 74 #[.pointer (some (O bb 0)),J tx] w (AsP (asC s tx) (asL s tx) w):=by
 have ag:Bw w (w.alloc (G #[nS,J 0] 78)):=ZA _ _;have A0:=Zh.new w [nS,J 0] 78;have r0:=A0.c 0 rfl;have r1:=A0.c 1 rfl;have GN:=A0.f 0 rfl;have GO:=A0.f 1 rfl;have d0:=YR ag c0;have d1:=YR ag c1;have HA:=hid hA;have HI:=hid hi;have HG:=hid hg;clear c0 c1 hA hi hg A0;by_cases t:tx<0\/s.tx<tx
 .have⟨e1,e2⟩:=veS t
  rw[e1,e2];have HP:Hid (AsP 4 [] w (V (.agg #[nS,J 4])) (w.alloc (G #[nS,J 4] 78))):=⟨_,rfl,World.ownsRow_nil _ _ _ _,ZA _ _⟩;by_cases h0:tx<0
  .clear t
   unfold C;go_in;go_wp2;exact ZM (v:=.agg #[nS,J 4]) (by simp[results,Tryz.results74,go_sem]) rfl HP.out
  .have h1:s.tx<tx:=Q
   clear t;unfold C;go_in;go_wp2;exact ZM (v:=.agg #[nS,J 4]) (by simp[results,Tryz.results74,go_sem]) rfl HP.out
 have h0:¬tx<0:=Q;have h1:¬s.tx<tx:=Q;have⟨e1,e2⟩:=vdo (s:=s) (tx:=tx) Q Q;rw[e1,e2];clear t e1 e2;have⟨n,hn⟩:=ZL s.vs.length;have HN:=hid hn;simp only[hn]at d1 FR hl;clear hn;have⟨W,hW⟩:=ZL ((w.alloc (G #[nS,J 0] 78)));rw[hW]at ag r0 r1 GN GO d0 d1;have dI:W.heap.size=w.heap.size+1:=by rw[<- hW];simp
 unfold C;go_in;go_wp2_with fail;clear hW;go_loopw [5] (λt wr=>∃k:Nat,t=J k/\k<=n/\wr=W/\Hid (∀j v,j<k->s.vs[j]? =some v->v.tx<=tx)) (λt _=>n-(intOf t).toNat)
 .exact⟨0,rfl,Q,rfl,λj v hj=>Q⟩
 ·
  obtain⟨k,rfl,hk,hw,HK⟩:=hrel;have hw:=hw.symm;subst hw;have hA:=HA.out.below ag;by_cases xZ:∃v,s.vs[k]? =some v/\v.tx<=tx
  .have⟨v,hv,U8⟩:=xZ
   have hlt:k<n:=by have:=(pO hv).1;have:=HN.out;omega
   have ed:Hid (∀j u,j<k+1->s.vs[j]? =some u->u.tx<=tx):=λj u hj hu=>by
    by_cases e:j=k
    .subst e;rw[hv]at hu;obtain rfl:=Z9 hu;exact U8
    .exact HK.out j u Q hu
   obtain⟨b,o,rfl,hc⟩:=hA.at (i:=k) (r:=v.cs) (by rw[Z8,hv];rfl);have c0:W.cell? (O b (o+k*8))=some (J v.tx):=hc 0 _ rfl;clear hc hv HK hA;go_wp2;go_roundw
   .exact⟨k+1,RP,Q,trivial,ed⟩
   .simp[intOf];omega
  .have hcut:va5 s.vs tx=k:=vd2 (by rw[HN.out];exact hk) HK.out λv hv cr=>xZ ⟨v,hv,cr⟩
   have HC:Hid (s.vs.take (va5 s.vs tx)=s.vs.take k):=by rw[hcut];rfl
   have au:(s.vs.take k).length=k:=by rw[List.length_take,HN.out];omega
   have hL:=jqn (s.vs.take k) a8 k c8 W (by rw[List.map_take];exact hA.take k) (λv hv=>HI.out v (List.mem_of_mem_take hv)) au Q;have jK:Hid (jdq (s.vs.take k) (s.vs.take k).length=true):=by simp only[Hid];rw[au,vfd (ZD _)];exact vhr HG.out (by rw[HN.out];exact hk)
   have HL:Hid ((ZJ (s.vs.take k)).length<=1048576):=by simp only[Hid];refine Nat.le_trans (jwf _ _) ?_;omega
   have HE:Hid (k=n\/∃v,s.vs[k]? =some v/\¬v.tx<=tx):=by
    simp only[Hid];by_cases e:k<n
    .obtain⟨v,hv⟩:∃v,s.vs[k]? =some v:=⟨_,ZV (by rw[HN.out];exact e)⟩
     exact .inr ⟨v,hv,λcr=>xZ ⟨v,hv,cr⟩⟩
    .exact .inl Q
   generalize hT:s.vs.take k=T at *;clear hT hcut xZ au;have fx:(k:Int)<=c8:=Q;rcases HE.out with e|⟨v,hv,U8⟩
   all_goals
    first
    |(subst e;clear HE HK HI HG hA;go_wp2_with fail)
    |(have hlt:k<n:=(by have:=(pO hv).1;have:=HN.out;omega);obtain⟨b,o,rfl,hc⟩:=hA.at (i:=k) (r:=v.cs) (by rw[Z8,hv];rfl);have c0:W.cell? ⟨b,o+k*8,none⟩=some (J v.tx):=hc 0 _ rfl;clear HE HK HI HG hA hc hv;go_wp2_with fail)
    refine hL.mono ?_;rintro q w1 hP;have hb1:=hP.ZB;rcases hP.end_ with⟨_,hq,hM⟩|⟨lF,_⟩
    case inr=>rw[jK.out]at lF;cases lF
    subst hq;have aj:=Zp ag hb1;have u0:=YR hb1 r0;have u1:=YR hb1 r1;have hY:=vfq W.heap.size T.length (AY T) (ZJ T) w1 hM (jga T) (jhr T.length) HL.out;rw[dI]at hY;clear hP hM jK HL hL r0 r1 d0 d1;go_wp2_with fail;refine hY.mono ?_;rintro q w2 ⟨v2,rfl,aW,ac⟩;obtain⟨p2,m2,k2,rfl⟩:=Dt aW;have an:=Zp aj ac;have y0:=YR ac u0;have y1:=YR ac u1;have y2:=((Z4 ac).2 _ _ (ZI u0)).trans (((Z4 hb1).2 _ _ (by rw[dI];simp)).trans GN);have y3:=((Z4 ac).2 _ _ (ZI u1)).trans (((Z4 hb1).2 _ _ (by rw[dI];simp)).trans GO);have HP:Hid (AsP 0 (ZJ T) w (V (.agg #[U p2 m2 k2,J 0])) ((w2.setCell (O w.heap.size 0) (U p2 m2 k2)).setCell (O w.heap.size 1) (J 0))):=vcy aW (ZD _) (by have:=hb1.size;omega) an;have⟨t0,t1⟩:=jav (v0:=U p2 m2 k2) (v1:=J 0) y0 y1;clear aW hb1 ac hY u0 u1;go_wp2;exact ZM (v:=.agg #[U p2 m2 k2,J 0]) (by simp[results,Tryz.results74,go_sem,t0,t1]) rfl (by rw[HC.out];exact HP.out)
def aoC(s:ZP)(tx:Int):Int:=if wZ s=true then asC s tx else 1
def aoL(s:ZP)(tx:Int):List Ze:=if wZ s=true then asL s tx else []
theorem veR(s:ZP)(tx:Int):(aoL s tx).length<=s.vs.length:=by
 unfold aoL asL;split
 .split
  .exact Nat.le_trans (jwf _ _) (List.length_take_le' ..)
  .simp
 .simp
theorem vhs(h:wZ s=true):txB s.vs s.tx=true/\jdq s.vs s.vs.length=true:=by
 unfold wZ jov at h;simp only[vB]at h;exact⟨h.1.2.1,h.1.2.2.1⟩
theorem vfm(hS:vcg)(s:ZP)(v:Value)(tx:Int)(w:World)(hE:Zx w)(hv:Jd w v s)(ok:Zr s):
  C 35 #[v,J tx] w (AsP (aoC s tx) (aoL s tx) w):=by
 have dQ:=hv;obtain⟨a,b,c,d,e,f,va,ia,ca,cb,cc,cd,ce,cf,cv,ci,rfl,_,_,hV,_,FR,_⟩:=hv.form;have bg:=ZA w (G (stA s a b c d e f va ia ca cb cc cd ce cf cv ci).toArray 31);have ja:=(ZU (w.alloc (G (stA s a b c d e f va ia ca cb cc cd ce cf cv ci).toArray 31)).heap.size (w.alloc (G (stA s a b c d e f va ia ca cb cc cd ce cf cv ci).toArray 31))).alloc (ZD _) (G #[nS,J 0] 78);have ag:=Zp bg ja;have A0:=(Zh.new w (stA s a b c d e f va ia ca cb cc cd ce cf cv ci) 31).below ja;have R0:=Zh.new (w.alloc (G (stA s a b c d e f va ia ca cb cc cd ce cf cv ci).toArray 31)) [nS,J 0] 78;have hz:(w.alloc (G (stA s a b c d e f va ia ca cb cc cd ce cf cv ci).toArray 31)).heap.size=w.heap.size+1:=M;rw[hz]at R0;have HV:Hid (Za w va 8 (s.vs.map ZN.cs)/\s.vs.length<=cv):=⟨hV,FR⟩;have⟨tb,jj⟩:=ZL (wZ s);have HT:=hid jj;have⟨x0,x1,x2,x3,x4,x5,x6,x7,x8,x9⟩:=A0.ZS;have hO:=ji8 hS s _ _ (hE.of_below ag) (dQ.below ag) ok;have q0:=R0.c 0 rfl;have q1:=R0.c 1 rfl;clear hV hv dQ jj hz bg ja;unfold C;go_in;go_wp2_with fail;refine hO.mono ?_;rintro e1 w1 hP;have⟨x,mD,hx⟩:=hP.ex;rw[HT.out]at mD hx;subst mD;have aj:=ag.trans (hP.ZB.mono ag.size);have R1:=R0.below hP.ZB;have lw:w.heap.size+1<w1.heap.size:=ZI (R1.c 0 rfl);clear hP x0 x1 x2 x3 x4 x5 x6 x7 x8 x9 A0 hO R0 q0 q1 ag;have r0:=R1.c 0 rfl;have r1:=R1.c 1 rfl;have GN:=R1.f 0 rfl;have GO:=R1.f 1 rfl;cases tb
 .clear hx
  have HP:Hid (AsP (aoC s tx) (aoL s tx) w (V (.agg #[nS,J 1])) ((w1.setCell (O (w.heap.size+1) 0) nS).setCell (O (w.heap.size+1) 1) (J 1))):=by
   simp only[Hid,aoC,aoL,HT.out];exact vcy (base:=w1.heap.size) (World.ownsRow_nil _ _ _ _) Q lw aj
  have⟨t0,t1⟩:=jav (v0:=nS) (v1:=J 1) r0 r1;go_wp2;exact ZM (v:=.agg #[nS,J 1]) (by simp[results,Tryz.results35,go_sem,t0,t1]) rfl HP.out
 .obtain⟨bb,lb,n,a8,c8,rfl,hl,hM,m0,m8,Kz,DX,_⟩:=hx rfl
  have⟨g1,g2⟩:=vhs HT.out;have hC:=vhB s bb a8 c8 tx w1 m0 m8 Kz DX (j23 g1) g2 ok.vl;clear hx hl hM m0 m8 Kz DX g1 g2;go_wp2_with fail;refine hC.mono ?_;rintro e2 w2 ⟨v2,rfl,aW,ac⟩;obtain⟨p,m,c2,rfl⟩:=Dt aW;have an:=Zp aj ac;have R2:=R1.below ac;have u0:=R2.c 0 rfl;have u1:=R2.c 1 rfl;have Qs:=R2.f 0 rfl;have VX:=R2.f 1 rfl;have HP:Hid (AsP (aoC s tx) (aoL s tx) w (V (.agg #[U p m c2,J (asC s tx)])) ((w2.setCell (O (w.heap.size+1) 0) (U p m c2)).setCell (O (w.heap.size+1) 1) (J (asC s tx)))):=by
   simp only[Hid,aoC,aoL,HT.out];exact vcy aW Q lw an
  have⟨t0,t1⟩:=jav (v0:=U p m c2) (v1:=J (asC s tx)) u0 u1;generalize asC s tx=vCC at *;clear aW ac hC R1 R2 r0 r1 GN GO;go_wp2;exact ZM (v:=.agg #[U p m c2,J vCC]) (by simp[results,Tryz.results35,go_sem,t0,t1]) rfl HP.out
def van(l:List ZN)(id:Int)(k:Nat):List ZN:=(l.take k).filter λv=>decide (v.id=id)
def va7(l:List ZN)(id:Int):List ZN:=l.filter λv=>decide (v.id=id)
theorem vfj{id:Int}(h:l[k]? =some v)(he:v.id=id):van l id (k+1)=van l id k++[v]:=by
 unfold van;rw[List.take_add_one,h,List.filter_append];simp[he]
theorem vfi{id:Int}(h:l[k]? =some v)(he:¬v.id=id):van l id (k+1)=van l id k:=by
 unfold van;rw[List.take_add_one,h,List.filter_append];simp[he]
theorem vfh(l:List ZN)(id:Int):van l id l.length=va7 l id:=by unfold van va7;rw[List.take_length]
def vdk(w:World)(base:Nat)(v:Value)(L:List ZN):Prop:=w.ownsRow base 82 8 v L.length (L.map ZN.cs).flatten
theorem vf3{e:TypeId}{size:Nat}{v:Value}{xs:List Value}(h:w.ownsRow base e size v n xs):∃a c,v=U a n c/\(0<n->∃g,a=some (O g 0)):=by
 rcases h.2 with⟨rfl,rfl⟩|⟨g,cap,cur,rfl,_⟩
 .exact⟨none,0,rfl,λh=>Q⟩
 .exact⟨_,cap,rfl,λ_=>⟨g,rfl⟩⟩
theorem vfv:∃i:TypeInfo,Tryz.prog.info? 82=some i/\i.zero=some (.agg #[J 0,.bool false,J 0,Rn,Rn,J 0,J 0,J 0])/\i.size=8/\i.bytes=80:=⟨_,rfl,rfl,rfl,rfl⟩
theorem vfn(s:ZP)(v:Value)(id:Int)(tb:Bool)(w:World)(hE:Zx w)(hv:Jd w v s)(hl:s.vs.length<=1048576)
  (yN:∀w,Zx w->Jd w v s->C 39 #[v] w λe w'=>e=V (.bool tb)/\Bw w w'):
  C 15 #[v,J id] w λe w'=>∃x,e=V x/\vdk w' w.heap.size x (if tb then va7 s.vs id else [])/\Bw w w':=by
 have dQ:=hv;obtain⟨a,b,c,d,e,f,va,ia,ca,cb,cc,cd,ce,cf,cv,ci,rfl,_,_,hV,_,_,_⟩:=hv.form;have⟨i0,hi,aG,aH,aF⟩:=vfv;have ag:=ZA w (G (stA s a b c d e f va ia ca cb cc cd ce cf cv ci).toArray 31);have A0:=Zh.new w (stA s a b c d e f va ia ca cb cc cd ce cf cv ci) 31;have hS:=yN _ (hE.of_below ag) (dQ.below ag);have HV:=hid hV;have⟨x0,x1,x2,x3,x4,x5,x6,x7,x8,x9⟩:=A0.ZS;clear hV hv dQ yN;unfold C;go_in;go_wp2_with fail;refine hS.mono ?_;rintro e1 w1 ⟨rfl,hb1⟩;have aj:=Zp ag hb1;have A1:=A0.below hb1;clear x0 x1 x2 x3 x4 x5 x6 x7 x8 x9 A0 ag hb1 hS;cases tb
 .go_wp2
  go_ret;exact⟨_,rfl,World.ownsRow_nil _ _ _ _,aj⟩
 have⟨n,hn⟩:=ZL s.vs.length;have HN:=hid hn;have Uy:Hid (∀wr,Bw w wr->Za wr va 8 (s.vs.map ZN.cs)):=λwr hb=>HV.out.below hb
 have x8:=A1.c 8 rfl;simp only[hn]at x8 hl;clear hn HV;go_wp2;go_loopw [5,7,14] (λh _ t wr=>∃(i m c:Nat) (p:Option Addr),i<=n/\t=J i/\h=U p m c/\m<=i/\Hid ((van s.vs id i).length=m)/\wr.ownsRow w1.heap.size 82 8 (U p m c) m ((van s.vs id i).map ZN.cs).flatten/\Bw w1 wr) (λ_ _ t _=>n-(intOf t).toNat)
 .exact⟨0,0,0,none,Q,rfl,rfl,Q,rfl,World.ownsRow_nil _ _ _ _,ZU _ _⟩
 ·
  have⟨wa,dS⟩:=wL wr;subst dS;obtain⟨i,m,cq,pq,hin,rfl,rfl,P8,HM,hO,aK⟩:=hrel;have cR:=Zp aj aK;have hA:=Uy.out wa cR;have y8:=YR aK x8;have hsz:=cR.size;have U7:=aK.size;have UK:=aj.size;by_cases hlt:i<n
  .have a1:(i:Int)<(n:Int):=Q
   obtain⟨v,hv⟩:∃v,s.vs[i]? =some v:=⟨_,ZV (by have:=HN.out;omega)⟩;have ap:(s.vs.map ZN.cs)[i]? =some v.cs:=by rw[Z8,hv];rfl
   obtain⟨bb,ob,rfl,hc⟩:=hA.at (i:=i) ap;have c0:wa.cell? (O bb (ob+i*8))=some (J v.tx):=hc 0 _ rfl;have c1:=hc 1 _ rfl;have c2:=hc 2 _ rfl;have c3:=hc 3 _ rfl;have c4:=hc 4 _ rfl;have c5:=hc 5 _ rfl;have c6:=hc 6 _ rfl;have c7:=hc 7 _ rfl;clear hc ap hA;by_cases Ts:v.id=id
   .subst Ts
    have HK:Hid (van s.vs v.id (i+1)=van s.vs v.id i++[v]):=vfj hv rfl;clear hv;have⟨L,j4⟩:=ZL (van s.vs v.id i);rw[j4]at hO HM HK;clear j4;go_wp2_with (first|(at_builtin;refine wpList_append_own _ rfl _ _ 28 rfl w1.heap.size 82 i0 (.agg #[J 0,.bool false,J 0,Rn,Rn,J 0,J 0,J 0]) 8 80 Tryz.underlying28 hi aG aH aF rfl RN _ _ _ rfl ((nO hO _).alloc _) (O (wa.heap.size+1) 0) 1 1 [J v.tx,.bool v.gone,J v.id,I v.name,I v.YZ,J v.YV,J v.Zz,J v.Zu] rfl rfl ?b1 ?b2 ?b3 ?b4 ?b5 ?_)|fail)
    case b1=>rw[show wa.heap.size+1=(wa.alloc (G #[J v.tx,.bool v.gone,J v.id,I v.name,I v.YZ,J v.YV,J v.Zz,J v.Zu] 82)).heap.size by simp];exact Ka _ [J v.tx,.bool v.gone,J v.id,I v.name,I v.YZ,J v.YV,J v.Zz,J v.Zu] _
    case b2=>intro u hu;simp at hu;rcases hu with rfl|rfl|rfl|rfl|rfl|rfl|rfl|rfl<;>rfl
    case b3=>unfold maxLen;omega
    case b4=>omega
    case b5=>simp;omega
    intro v2 w2 aw aU _;have an:Bw w1 w2:=((aK.alloc U7 _).alloc RO _).grown aU RO (λj hj=>(hO.lt j hj).1);obtain⟨p2,c2,rfl,_⟩:=vf3 aw;go_wp2;go_roundw
    .exact⟨i+1,m+1,c2,p2,Q,RP,rfl,Q,by simp only[Hid];rw[HK.out,FB,HM.out];rfl,by rw[HK.out];simpa [ZN.cs]using aw,an⟩
    .simp[intOf];omega
   .have HK:Hid (van s.vs id (i+1)=van s.vs id i):=vfi hv Ts
    have hq:(v.id==id)=false:=by simp[Ts]
    have hq2:decide (v.id=id)=false:=dfe Ts;clear hv;go_wp2;go_roundw
    .exact⟨i+1,m,cq,pq,Q,RP,rfl,Q,by simp only[Hid];rw[HK.out];exact HM.out,by rw[HK.out];exact nO hO _,aK.alloc aK.size _⟩
    .simp[intOf];omega
  .obtain rfl:i=n:=Q
   have HR:Hid (van s.vs id i=va7 s.vs id):=by simp only[Hid];rw[<- HN.out];exact vfh _ _
   go_wp2;go_ret;exact⟨_,rfl,by simp only[if_true];unfold vdk;rw[<- HR.out,HM.out];exact Ez hO Q,cR⟩
theorem viV(s:ZP)(v:Value)(id:Int)(tb:Bool)(w:World)(hv:Jd w v s)(hl:s.vs.length<=1048576)
  (yN:∀w,Jd w v s->C 10 #[v] w λe w'=>e=V (.bool tb)/\Bw w w'):
  C 17 #[v,J id] w λe w'=>∃x,e=V x/\vdk w' w.heap.size x (if tb then va7 s.vs id else [])/\Bw w w':=by
 have dQ:=hv;obtain⟨a,b,c,d,e,f,va,ia,ca,cb,cc,cd,ce,cf,cv,ci,rfl,_,_,hV,_,_,_⟩:=hv.form;have⟨i0,hi,aG,aH,aF⟩:=vfv;have bg:=ZA w (G (stA s a b c d e f va ia ca cb cc cd ce cf cv ci).toArray 31);have ja:=(ZU (w.alloc (G (stA s a b c d e f va ia ca cb cc cd ce cf cv ci).toArray 31)).heap.size (w.alloc (G (stA s a b c d e f va ia ca cb cc cd ce cf cv ci).toArray 31))).alloc (ZD _) (G #[] 82);have ag:=Zp bg ja;have A0:=(Zh.new w (stA s a b c d e f va ia ca cb cc cd ce cf cv ci) 31).below ja;have hS:=yN _ (dQ.below ag);have nZ:=ja5 (w.alloc (G (stA s a b c d e f va ia ca cb cc cd ce cf cv ci).toArray 31)) 82 8;have lz:(w.alloc (G (stA s a b c d e f va ia ca cb cc cd ce cf cv ci).toArray 31)).heap.size=w.heap.size+1:=M;rw[lz]at nZ;clear bg ja lz;have HV:=hid hV;have⟨x0,x1,x2,x3,x4,x5,x6,x7,x8,x9⟩:=A0.ZS;clear hV hv dQ yN;unfold C;go_in;go_wp2_with fail;refine hS.mono ?_;rintro e1 w1 ⟨rfl,hb1⟩;have aj:=Zp ag hb1;have A1:=A0.below hb1;have dW:=uZ nZ hb1;have f9:w.heap.size+1<=w1.heap.size:=by have:=hb1.size;simp at this;omega
 clear x0 x1 x2 x3 x4 x5 x6 x7 x8 x9 A0 ag hb1 hS;cases tb
 .go_wp2
  go_ret;exact⟨_,rfl,Ez dW Q,aj⟩
 have⟨n,hn⟩:=ZL s.vs.length;have HN:=hid hn;have Uy:Hid (∀wr,Bw w wr->Za wr va 8 (s.vs.map ZN.cs)):=λwr hb=>HV.out.below hb
 have x8:=A1.c 8 rfl;simp only[hn]at x8 hl;clear hn HV;go_wp2;go_loopw [5,6] (λh t wr=>∃(i m c:Nat) (p:Option Addr),i<=n/\t=J i/\h=U p m c/\m<=i/\Hid ((van s.vs id i).length=m)/\wr.ownsRow (w.heap.size+1) 82 8 (U p m c) m ((van s.vs id i).map ZN.cs).flatten/\Below (w.heap.size+1) w1 wr) (λ_ t _=>n-(intOf t).toNat)
 .exact⟨0,0,0,_,Q,rfl,rfl,Q,rfl,dW,ZU _ _⟩
 ·
  have⟨wa,dS⟩:=wL wr;subst dS;obtain⟨i,m,cq,pq,hin,rfl,rfl,P8,HM,hO,aK⟩:=hrel;have cR:=aj.trans (aK.mono Q);have hA:=Uy.out wa cR;have y8:=(aK.cell (p:=(O w.heap.size 8)) M).trans x8;have hsz:=cR.size;have U7:=aK.size;have UK:=aj.size;by_cases hlt:i<n
  .have a1:(i:Int)<(n:Int):=Q
   obtain⟨v,hv⟩:∃v,s.vs[i]? =some v:=⟨_,ZV (by have:=HN.out;omega)⟩;have ap:(s.vs.map ZN.cs)[i]? =some v.cs:=by rw[Z8,hv];rfl
   obtain⟨bb,ob,rfl,hc⟩:=hA.at (i:=i) ap;have c0:wa.cell? (O bb (ob+i*8))=some (J v.tx):=hc 0 _ rfl;have c1:=hc 1 _ rfl;have c2:=hc 2 _ rfl;have c3:=hc 3 _ rfl;have c4:=hc 4 _ rfl;have c5:=hc 5 _ rfl;have c6:=hc 6 _ rfl;have c7:=hc 7 _ rfl;clear hc ap hA;by_cases Ts:v.id=id
   .subst Ts
    have HK:Hid (van s.vs v.id (i+1)=van s.vs v.id i++[v]):=vfj hv rfl;clear hv;have⟨L,j4⟩:=ZL (van s.vs v.id i);rw[j4]at hO HM HK;clear j4;go_wp2_with (first|(at_builtin;refine wpList_append_own _ rfl _ _ 28 rfl (w.heap.size+1) 82 i0 (.agg #[J 0,.bool false,J 0,Rn,Rn,J 0,J 0,J 0]) 8 80 Tryz.underlying28 hi aG aH aF rfl RN _ _ _ rfl (nO hO _) (O wa.heap.size 0) 1 1 [J v.tx,.bool v.gone,J v.id,I v.name,I v.YZ,J v.YV,J v.Zz,J v.Zu] rfl rfl ?b1 ?b2 ?b3 ?b4 ?b5 ?_)|fail)
    case b1=>exact Ka _ [J v.tx,.bool v.gone,J v.id,I v.name,I v.YZ,J v.YV,J v.Zz,J v.Zu] _
    case b2=>intro u hu;simp at hu;rcases hu with rfl|rfl|rfl|rfl|rfl|rfl|rfl|rfl<;>rfl
    case b3=>unfold maxLen;omega
    case b4=>omega
    case b5=>simp;omega
    intro v2 w2 aw aU _;have an:Below (w.heap.size+1) w1 w2:=(aK.alloc (show w.heap.size+1<=wa.heap.size from by omega) _).grown aU RO (λj hj=>(hO.lt j hj).1);obtain⟨p2,c2,rfl,_⟩:=vf3 aw;go_wp2;go_roundw
    .exact⟨i+1,m+1,c2,p2,Q,RP,rfl,Q,by simp only[Hid];rw[HK.out,FB,HM.out];rfl,by rw[HK.out];simpa [ZN.cs]using aw,an⟩
    .simp[intOf];omega
   .have HK:Hid (van s.vs id (i+1)=van s.vs id i):=vfi hv Ts
    have hq:(v.id==id)=false:=by simp[Ts]
    have hq2:decide (v.id=id)=false:=dfe Ts;clear hv;go_wp2;go_roundw
    .exact⟨i+1,m,cq,pq,Q,RP,rfl,Q,by simp only[Hid];rw[HK.out];exact HM.out,by rw[HK.out];exact hO,aK⟩
    .simp[intOf];omega
  .obtain rfl:i=n:=Q
   have HR:Hid (van s.vs id i=va7 s.vs id):=by simp only[Hid];rw[<- HN.out];exact vfh _ _
   go_wp2;go_ret;exact⟨_,rfl,by simp only[if_true];unfold vdk;rw[<- HR.out,HM.out];exact Ez hO Q,cR⟩
theorem vf8(s:ZP)(v:Value)(tx:Int)(w:World)(hv:Jd w v s)(yN:∀w,Jd w v s->C 10 #[v] w λe w'=>e=V (.bool (wZ s))/\Bw w w'):
  C 36 #[v,J tx] w (AsP (aoC s tx) (aoL s tx) w):=by
 have dQ:=hv;obtain⟨a,b,c,d,e,f,va,ia,ca,cb,cc,cd,ce,cf,cv,ci,rfl,_,_,hV,_,FR,_⟩:=hv.form;have bg:=ZA w (G (stA s a b c d e f va ia ca cb cc cd ce cf cv ci).toArray 31);have ja:=(ZU (w.alloc (G (stA s a b c d e f va ia ca cb cc cd ce cf cv ci).toArray 31)).heap.size (w.alloc (G (stA s a b c d e f va ia ca cb cc cd ce cf cv ci).toArray 31))).alloc (ZD _) (G #[nS,J 0] 78);have ag:=Zp bg ja;have A0:=(Zh.new w (stA s a b c d e f va ia ca cb cc cd ce cf cv ci) 31).below ja;have R0:=Zh.new (w.alloc (G (stA s a b c d e f va ia ca cb cc cd ce cf cv ci).toArray 31)) [nS,J 0] 78;have hz:(w.alloc (G (stA s a b c d e f va ia ca cb cc cd ce cf cv ci).toArray 31)).heap.size=w.heap.size+1:=M;rw[hz]at R0;have HV:Hid (Za w va 8 (s.vs.map ZN.cs)/\s.vs.length<=cv):=⟨hV,FR⟩;have⟨tb,jj⟩:=ZL (wZ s);have HT:=hid jj;have⟨x0,x1,x2,x3,x4,x5,x6,x7,x8,x9⟩:=A0.ZS;have hS:=yN _ (dQ.below ag);rw[jj]at hS;have q0:=R0.c 0 rfl;have q1:=R0.c 1 rfl;clear hV hv dQ jj hz bg ja yN FR;unfold C;go_in;go_wp2_with fail;refine hS.mono ?_;rintro e1 w1 ⟨rfl,hb1⟩;have aj:=Zp ag hb1;have R1:=R0.below hb1;have A1:=A0.below hb1;have lw:w.heap.size+1<w1.heap.size:=ZI (R1.c 0 rfl);clear x0 x1 x2 x3 x4 x5 x6 x7 x8 x9 A0 hS R0 q0 q1 ag hb1;have r0:=R1.c 0 rfl;have r1:=R1.c 1 rfl;have GN:=R1.f 0 rfl;have GO:=R1.f 1 rfl;have z0:=A1.c 0 rfl;have z8:=A1.c 8 rfl;cases tb
 .have HP:Hid (AsP (aoC s tx) (aoL s tx) w (V (.agg #[nS,J 1])) ((w1.setCell (O (w.heap.size+1) 0) nS).setCell (O (w.heap.size+1) 1) (J 1))):=by
   simp only[Hid,aoC,aoL,HT.out];exact vcy (base:=w1.heap.size) (World.ownsRow_nil _ _ _ _) Q lw aj
  have⟨t0,t1⟩:=jav (v0:=nS) (v1:=J 1) r0 r1;go_wp2;exact ZM (v:=.agg #[nS,J 1]) (by simp[results,Tryz.results36,go_sem,t0,t1]) rfl HP.out
 by_cases t:tx<0\/s.tx<tx
 .have HP:Hid (AsP (aoC s tx) (aoL s tx) w (V (.agg #[nS,J 4])) ((w1.setCell (O (w.heap.size+1) 0) nS).setCell (O (w.heap.size+1) 1) (J 4))):=by
   have⟨e1,e2⟩:=veS t;simp only[Hid,aoC,aoL,HT.out,e1,e2];exact vcy (base:=w1.heap.size) (World.ownsRow_nil _ _ _ _) Q lw aj
  have⟨t0,t1⟩:=jav (v0:=nS) (v1:=J 4) r0 r1;have hI:=jnc tx 0 s.tx w1 t;clear t;go_wp2_with fail;refine hI.mono ?_;rintro q wq ⟨rfl,rfl⟩;go_wp2;exact ZM (v:=.agg #[nS,J 4]) (by simp[results,Tryz.results36,go_sem,t0,t1]) rfl HP.out
 have hI:=jnb tx 0 s.tx w1 Q Q;have HX:Hid (aoC s tx=0/\aoL s tx=ZJ (s.vs.take (va5 s.vs tx))):=by
  have⟨e1,e2⟩:=vdo (s:=s) (tx:=tx) Q Q;simp only[Hid,aoC,aoL,HT.out,e1,e2];exact⟨rfl,rfl⟩
 have US:Hid (s.vs.length<=60):=vff HT.out;clear t;have⟨n,hn⟩:=ZL s.vs.length;have HN:=hid hn;simp only[hn]at z8;have VP:n<=60:=by rw[<- hn];exact US.out
 have FR:n<=cv:=by rw[<- hn];exact HV.out.2
 clear hn US A1;go_wp2_with fail;refine hI.mono ?_;rintro q wq ⟨rfl,rfl⟩;go_wp2_with fail;go_loopw [5] (λt wr=>∃k:Nat,t=J k/\k<=n/\wr=wq/\Hid (∀j v,j<k->s.vs[j]? =some v->v.tx<=tx)) (λt _=>n-(intOf t).toNat)
 .exact⟨0,rfl,Q,rfl,λj v hj=>Q⟩
 ·
  obtain⟨k,rfl,hk,hw,HK⟩:=hrel;have hw:=hw.symm;subst hw;have hA:=HV.out.1.below aj;by_cases xZ:∃v,s.vs[k]? =some v/\v.tx<=tx
  .have⟨v,hv,U8⟩:=xZ
   have hlt:k<n:=by have:=(pO hv).1;have:=HN.out;omega
   have ed:Hid (∀j u,j<k+1->s.vs[j]? =some u->u.tx<=tx):=λj u hj hu=>by
    by_cases e:j=k
    .subst e;rw[hv]at hu;obtain rfl:=Z9 hu;exact U8
    .exact HK.out j u Q hu
   obtain⟨b9,o9,rfl,hc⟩:=hA.at (i:=k) (r:=v.cs) (by rw[Z8,hv];rfl);have c0:wq.cell? (O b9 (o9+k*8))=some (J v.tx):=hc 0 _ rfl;clear hc hv HK hA;go_wp2;go_roundw
   .exact⟨k+1,RP,Q,trivial,ed⟩
   .simp[intOf];omega
  .have hcut:va5 s.vs tx=k:=vd2 (by rw[HN.out];exact hk) HK.out λv hv cr=>xZ ⟨v,hv,cr⟩
   have HC:Hid (s.vs.take (va5 s.vs tx)=s.vs.take k):=by rw[hcut];rfl
   have au:(s.vs.take k).length=k:=by rw[List.length_take,HN.out];omega
   have hC:=jd1 (s.vs.take k) va k cv wq (by rw[List.map_take];exact hA.take k) au Q;have HE:Hid (k=n\/∃v,s.vs[k]? =some v/\¬v.tx<=tx):=by
    simp only[Hid];by_cases e:k<n
    .obtain⟨v,hv⟩:∃v,s.vs[k]? =some v:=⟨_,ZV (by rw[HN.out];exact e)⟩
     exact .inr ⟨v,hv,λcr=>xZ ⟨v,hv,cr⟩⟩
    .exact .inl Q
   generalize hT:s.vs.take k=T at *;clear hT hcut xZ au;have fx:(k:Int)<=cv:=Q;rcases HE.out with e|⟨v,hv,U8⟩
   all_goals
    first
    |(subst e;clear HE HK hA;go_wp2_with fail)
    |(have hlt:k<n:=(by have:=(pO hv).1;have:=HN.out;omega);obtain⟨b9,o9,rfl,hc⟩:=hA.at (i:=k) (r:=v.cs) (by rw[Z8,hv];rfl);have c0:wq.cell? ⟨b9,o9+k*8,none⟩=some (J v.tx):=hc 0 _ rfl;clear HE HK hA hc hv;go_wp2_with fail)
    refine hC.mono ?_;rintro q w2 ⟨v2,rfl,aW,ac⟩;obtain⟨p2,m2,k2,rfl⟩:=Dt aW;have an:=Zp aj ac;have R2:=R1.below ac;have u0:=R2.c 0 rfl;have u1:=R2.c 1 rfl;have Qs:=R2.f 0 rfl;have VX:=R2.f 1 rfl;have HP:Hid (AsP (aoC s tx) (aoL s tx) w (V (.agg #[U p2 m2 k2,J 0])) ((w2.setCell (O (w.heap.size+1) 0) (U p2 m2 k2)).setCell (O (w.heap.size+1) 1) (J 0))):=by
     have h:=HX.out;simp only[Hid];rw[h.1,h.2,HC.out];exact vcy aW Q lw an
    have⟨t0,t1⟩:=jav (v0:=U p2 m2 k2) (v1:=J 0) u0 u1;clear aW ac hC R1 R2 r0 r1 GN GO z0 z8;go_wp2;exact ZM (v:=.agg #[U p2 m2 k2,J 0]) (by simp[results,Tryz.results36,go_sem,t0,t1]) rfl HP.out
