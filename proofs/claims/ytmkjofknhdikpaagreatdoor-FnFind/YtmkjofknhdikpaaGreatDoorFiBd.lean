import Derived.Test.YtmkjofknhdikpaaGreatDoorFiAd
import Derived.Test.YtmkjofknhdikpaaGreatDoorSNd
set_option maxHeartbeats 0
set_option linter.unusedSimpArgs false
open Go.RowKit
namespace Go.Proofs.YtmkjofknhdikpaaGreatDoor
variable{r:Un}{w wr:World}{B ca cb cc h i p:Nat}{a b c:Option Addr}{Tu:List Value}{L:List TD}{lv out:Value}{X:List TZ}{s:Uo}
structure ZG(r:Un)(w wr:World)(B p h:Nat)(a b c:Option Addr)(ca cb cc:Nat)(Tu:List Value)(L:List TD)(lv:Value)(X:List TZ)(i:Nat)(out:Value):Prop where
 ex:∃zv tv zs ts,Zk wr B p r a b c ca cb cc zv tv zs ts/\ts.length=zs.length/\zs.length<=i
 own:∃g m k,out=so g m k/\Zb wr (h+1) out X/\X.length=m/\m<=k
 live:Jb wr (h+1) lv L
 sv:Zh wr h Tu
 TQ:Bw w wr
 lo:B<=wr.heap.size
theorem ZG.below{oI:World}{X2:List TZ}{am:Value}(hR:ZG r w wr B p h a b c ca cb cc Tu L lv X i out)(hb:Bw wr oI)(ho:∃g m k,am=so g m k/\Zb oI (h+1) am X2/\X2.length=m/\m<=k):ZG r w oI B p h a b c ca cb cc Tu L lv X2 i am:=by
 have⟨zv,tv,zs,ts,h1,h2,h3⟩:=hR.ex;exact⟨⟨zv,tv,zs,ts,h1.below hb,h2,h3⟩,ho,UG hR.live hb,hR.sv.below hb,hR.TQ.trans (hb.mono hR.TQ.size),Nat.le_trans hR.lo hb.size⟩
theorem ZG.ask(hR:ZG r w wr B p h a b c ca cb cc Tu L lv X i out)(hh:h<B)(gn:w.heap.size<=B)(ev:TD)
  (hC:∀zv tv zs ts,Zk wr B p r a b c ca cb cc zv tv zs ts->ts.length=zs.length->zs.length<=i->C 22 #[.pointer (some (O p 0)),ev.v] wr (vaH B p r a b c ca cb cc zv tv zs ev wr)):
  C 22 #[.pointer (some (O p 0)),ev.v] wr λq w2=>q=V (.tuple #[J (Vf r ev).1,Z (Vf r ev).2])/\ZG r w w2 B p h a b c ca cb cc Tu L lv X (i+1) out:=by
 have⟨zv,tv,zs,ts,h1,h2,h3⟩:=hR.ex;refine(hC zv tv zs ts h1 h2 h3).mono λq w2 hP=>⟨hP.ex,?_⟩
 have hf:=hP.fr;have⟨lL,SX,l8,kZ,k1,k2,k3,k4⟩:=hP.cache;have⟨g,m,k,o1,o2,o3⟩:=hR.own;have qq:=ZL o2 hf (λg hg=>h1.not (YA o2 hg) Z5 Z5 Z5);have Dm:=ZL hR.live hf (λg hg=>h1.not (YA hR.live hg) Z5 Z5 Z5);have SV:=hR.sv.fr hf (λe=>by have:=h1.low e;omega);have df:Bw w w2:=hR.TQ.trans (hf.below (λg hg=>Nat.le_trans gn (h1.low hg)) hR.TQ.size);exact⟨⟨lL,SX,l8,kZ,k1,k2,Q⟩,⟨g,m,k,o1,qq,o3⟩,Dm,SV,df,Nat.le_trans hR.lo hf.size⟩
def veQ(r:Un)(w:World)(a b c:Option Addr)(ca cb cc:Nat)(L:List TD):Prop:=∀B zv tv zs ts ev wx,ev∈L->Bw w wx->w.heap.size<=B->B<=wx.heap.size->Zk wx B B r a b c ca cb cc zv tv zs ts->ts.length=zs.length->zs.length<=1000->C 22 #[.pointer (some (O B 0)),ev.v] wx (vaH B B r a b c ca cb cc zv tv zs ev wx)
def vca(s:Uo)(lo hi:Int)(tb:Bool):List TZ:=if tb=true then UK (VZ (Vf s.Tz) lo hi) (Uf s.vs)else []
set_option maxRecDepth 20000 in
theorem jvd(s:Uo)(v:Value)(lo hi:Int)(tb:Bool)(w:World)(hv:Jd w v s)(yN:∀w,Jd w v s->C 9 #[v] w λe w'=>e=V (Z tb)/\Bw w w')(tP:tb=true->s.vs.length<=1000/\(Uf s.vs).length<=1000)(vH:tb=true->∀a b c ca cb cc,Zd w (.agg #[U a s.Tz.Tw.length ca,U b s.Tz.TC.length cb,U c s.Tz.TG.length cc]) s.Tz->veQ s.Tz w a b c ca cb cc (Uf s.vs)):
  C 7 #[v,J lo,J hi] w λq w'=>∃x,q=V x/\Zb w' w.heap.size x (vca s lo hi tb)/\Bw w w':=by
 have dQ:=hv;obtain⟨a,b,c,d,e,f,va,ia,ca,cb,cc,cd,ce,cf,cv,ci,rfl,hN,_,hV,_,_,_⟩:=hv.form;have⟨wA,cK,b1,A1,O1,z1⟩:=juv w (stA s a b c d e f va ia ca cb cc cd ce cf cv ci) 31;have hS:=yN wA (dQ.below b1);have⟨x0,x1,x2,x3,x4,x5,x6,x7,x8,x9⟩:=A1.UA;have HI:=Xp vH;have HV:=hid hV;have HN:=hid hN;clear hv dQ yN hN hV vH;delta C;go_in;go_wp2_with fail;refine hS.mono ?_;rintro e1 w1 ⟨rfl,hb1⟩;have A2:=A1.below hb1;have O2:Zb w1 (w.heap.size+1) (U (some (O (w.heap.size+1) 0)) 0 0) []:=UG O1 hb1;have b2:=TJ b1 hb1;have bU:w.heap.size+1+1<=w1.heap.size:=by have:=hb1.size;omega
 clear x0 x1 x2 x3 x4 x5 x6 x7 x8 x9 hS cK A1 O1 b1 hb1;cases tb
 .go_wp2
  go_ret;exact⟨_,rfl,U4 O2 Q,b2⟩
 have⟨tP,ma⟩:=tP rfl;have jB:=jd1 s.vs va s.vs.length cv w1 (HV.out.below b2) rfl tP;have y8:=A2.c 8 rfl;go_wp2_with fail;refine jB.mono ?_;rintro q w2 ⟨lv,rfl,aW,ac⟩;obtain⟨pl,cl,rfl,eG⟩:=jkx aW;have A3:=A2.below ac;have O3:Zb w2 (w.heap.size+1) (U (some (O (w.heap.size+1) 0)) 0 0) []:=UG O2 ac;have b3:=TJ b2 ac;have y1:=A3.c 1 rfl;have y2:=A3.c 2 rfl;have y3:=A3.c 3 rfl;have HG:=Xp (HI.out (by trivial) a b c ca cb cc HN.out);have HS:Hid (vca s lo hi true=UK (VZ (Vf s.Tz) lo hi) (Uf s.vs)):=rfl;have⟨L,j4⟩:=TY (Uf s.vs);rw[j4]at HG HS aW eG ma ⊢;have⟨nl,fH⟩:=TY L.length;have jL:=hid fH;rw[fH]at eG ma ⊢;have dR:w.heap.size+1+1<=w2.heap.size:=by have:=ac.size;omega
 have⟨w4,yj,jN,KN,TN,z4⟩:=jvv w2 [U a s.Tz.Tw.length ca,U b s.Tz.TC.length cb,U c s.Tz.TG.length cc,nS,nS];have kp:Jb w2 (w.heap.size+1) (U pl nl cl) L:=by rw[fH]at aW;exact U4 aW Q
 have⟨B,dr⟩:=TY w2.heap.size;rw[dr]at KN TN z4;have lQ:Hid (ZG s.Tz w w4 B B w.heap.size a b c ca cb cc (stA s a b c d e f va ia ca cb cc cd ce cf cv ci) L (U pl nl cl) (UK (VZ (Vf s.Tz) lo hi) (L.take 0)) 0 (U (some (O (w.heap.size+1) 0)) 0 0)):=⟨⟨_,_,[],[],jjq KN TN (TP _),rfl,TP _⟩,⟨_,0,0,rfl,UG O3 jN,rfl,TP _⟩,UG kp jN,A3.below jN,(TJ b3 jN),by rw[z4];omega⟩;have gn:w.heap.size<B:=Q;have sZ:=hid eG;clear KN TN jN aW kp O3 O2 A3 A2 b3 b2 ac jB fH j4 eG z4 y8;go_wp2
 try simp only[dr]
 clear yj dr dR bU y1 y2 y3;go_loopw [7,10,11,12] (λs7 mY _ _ wr=>∃i:Nat,i<=nl/\mY=J i/\Hid (ZG s.Tz w wr B B w.heap.size a b c ca cb cc (stA s a b c d e f va ia ca cb cc cd ce cf cv ci) L (U pl nl cl) (UK (VZ (Vf s.Tz) lo hi) (L.take i)) i s7)) (λ_ mY _ _ _=>nl-(intOf mY).toNat)
 .exact⟨0,Q,rfl,lQ⟩
 ·
  have⟨wa,dS⟩:=UL wr;subst dS;obtain⟨i,hin,rfl,HR⟩:=hrel;clear lQ;have⟨go,mo,co,qJ,ly,iD,vi⟩:=HR.out.own;subst qJ;by_cases hlt:i<nl
  .have i1:(i:Int)<(nl:Int):=Q
   have i0:(0:Int)<=(i:Int):=Q;obtain⟨gl,rfl⟩:=sZ.out Q;obtain⟨ev,jb⟩:∃x,L[i]? =some x:=⟨_,Ug (by have:=jL.out;omega)⟩;have HT:Hid (UK (VZ (Vf s.Tz) lo hi) (L.take (i+1))=W9 (VZ (Vf s.Tz) lo hi) (UK (VZ (Vf s.Tz) lo hi) (L.take i)) ev):=jo5 jb;have yE:=hid jb;have⟨c0,c1,c2,c3,c4,c5⟩:=VO HR.out.live jb;have xQ:mo<=1000:=by have h1:=jep (VZ (Vf s.Tz) lo hi) (L.take i);rw[List.length_take]at h1;omega
   have lq:=HR.out.ask Q Q ev (λzv tv zs ts k1 k2 k3=>HG.out B zv tv zs ts ev wa (UH jb) HR.out.TQ Q HR.out.lo k1 k2 Q);have js:Hid (∀wx,ZG s.Tz w wx B B w.heap.size a b c ca cb cc (stA s a b c d e f va ia ca cb cc cd ce cf cv ci) L (so gl nl cl) (UK (VZ (Vf s.Tz) lo hi) (L.take i)) (i+1) (so go mo co)->wx.cell? (O gl (i*6))=some (J ev.id)):=λwx h=>(VO h.live yE.out).1
   have⟨⟨M1,M2⟩,hM⟩:=TY (Vf s.Tz ev);rw[hM]at lq;simp only[TD.v]at lq;have HM:Hid (VZ (Vf s.Tz) lo hi ev=(M1,M2&&WJ lo hi M1)):=by simp only[Hid,VZ,hM]
   clear hM jb ly;go_wp2_with fail;refine lq.mono ?_;rintro q w5 ⟨rfl,eC⟩;have f0:=js.out w5 eC;have gr:=Xp eC;clear eC lq c0 c1 c2 c3 c4 c5;have Bz:Hid ((M2&&WJ lo hi M1)=false->ZG s.Tz w w5 B B w.heap.size a b c ca cb cc (stA s a b c d e f va ia ca cb cc cd ce cf cv ci) L (so gl nl cl) (UK (VZ (Vf s.Tz) lo hi) (L.take (i+1))) (i+1) (so go mo co)):=λh=>by
    rw[HT.out,W9,HM.out,if_neg (by simp[h])];exact gr.out
   by_cases sp:M2=true/\lo<=M1/\M1<=hi
   .obtain⟨rfl,g1,g2⟩:=sp
    have HB:Hid ((true&&WJ lo hi M1)=true):=by simp only[Hid];rw[j3b g1 g2];rfl
    have⟨g5,m5,k5,vq,fe,kE,uY⟩:=gr.out.own;injection vq with h1 h2 h3
    injection h1 with h1
    injection h1 with h1
    subst h1 h2 h3;have ir:=je8 (UK (VZ (Vf s.Tz) lo hi) (L.take i)) ⟨M1,ev.id⟩ go mo co (w.heap.size+1) w5 fe kE uY xQ;have sV:=Xp kE;clear fe kE Bz;go_wp2_with fail;refine ir.mono ?_;rintro q w6 ⟨g6,c6,rfl,mu,fV,hb6⟩;have te:Hid (ZG s.Tz w w6 B B w.heap.size a b c ca cb cc (stA s a b c d e f va ia ca cb cc cd ce cf cv ci) L (so gl nl cl) (UK (VZ (Vf s.Tz) lo hi) (L.take (i+1))) (i+1) (so g6 (mo+1) c6)):=by
     simp only[Hid];rw[HT.out,W9,HM.out,if_pos HB.out];exact gr.out.below hb6 ⟨g6,mo+1,c6,rfl,U4 fV (Nat.le_trans Q gr.out.lo),by rw[ja9,sV.out],mu⟩
    clear fV hb6 ir;go_wp2;go_roundw
    .exact⟨i+1,Q,Z7,te⟩
    .simp[intOf];omega
   .have li:Hid (ZG s.Tz w w5 B B w.heap.size a b c ca cb cc (stA s a b c d e f va ia ca cb cc cd ce cf cv ci) L (so gl nl cl) (UK (VZ (Vf s.Tz) lo hi) (L.take (i+1))) (i+1) (so go mo co)):=Bz.out (by
     cases M2
     .rfl
     .have h3:M1<lo\/hi<M1:=by
       by_cases g:lo<=M1
       .have h4:¬M1<=hi:=λh=>sp ⟨rfl,g,h⟩
        exact .inr Q
       .exact .inl Q
      rw[j1t h3]
      rfl)
    clear Bz;cases M2
    .go_wp2
     go_roundw
     .exact⟨i+1,Q,Z7,li⟩
     .simp[intOf];omega
    .by_cases g1:lo<=M1
     .have g2:¬M1<=hi:=λh=>sp ⟨rfl,g1,h⟩
      go_wp2;go_roundw
      .exact⟨i+1,Q,Z7,li⟩
      .simp[intOf];omega
     .go_wp2
      go_roundw
      .exact⟨i+1,Q,Z7,li⟩
      .simp[intOf];omega
  .obtain rfl:i=nl:=Q
   have HF:Hid (Zb wa w.heap.size (so go mo co) (UK (VZ (Vf s.Tz) lo hi) L)):=by
    rw[List.take_of_length_le (by rw[jL.out];exact TP _)]at ly;exact U4 ly Q
   have BP:=HR.out.TQ;clear ly;go_wp2;go_ret;exact⟨(so go mo co),rfl,by rw[HS.out];exact HF.out,BP⟩
theorem jgj(h:VI s=true):Um s.Tz=true/\Yq s.vs s.tx=true/\(Uf s.vs).all (λx=>Xl s x.TH)=true/\(Uf s.vs).length<=30/\s.vs.length<=60:=by
 rw[<- jkt]at h;unfold Vi at h;simp only[UM]at h;have⟨h1,_,_,h4,_,_,h7,h8,_⟩:=h;exact⟨h1,h4,h8,VH h7,jun h4⟩
theorem j1z{e:TD}(h1:Um s.Tz=true)(hz:Xl s e.TH=true)(hs:e.TH.size<=8000):Vf s.Tz e=Ws s.Tz e:=by
 unfold Xl at hz;simp only[UM]at hz;unfold Ws Vf;rw[jlk h1 hz.1 hs]
theorem j0b(s:Uo)(lo hi:Int):vca s lo hi (VI s)=Wn s lo hi:=by
 unfold vca Wn;split
 .rename_i h
  have⟨h1,h4,h8,_,_⟩:=jgj h;refine jo6 λe he=>?_
  obtain⟨v,hm,rfl⟩:=jl5 he;unfold VZ;rw[j1z h1 (List.all_eq_true.mp h8 _ he) (jhs (jfk h4 v hm)).TH]
 .rfl
theorem jxe(s:Uo)(v:Value)(lo hi:Int)(w:World)(hv:Jd w v s)(ok:Zr s):
  C 7 #[v,J lo,J hi] w λq w'=>∃x,q=V x/\Zb w' w.heap.size x (Wn s lo hi)/\Bw w w':=by
 rw[<- j0b];refine jvd s v lo hi (VI s) w hv (λw h=>?_) (λh=>?_) (λh a b c ca cb cc hN B zv tv zs ts ev wx hm hb hB cR hA hl hn=>?_)
 .have h2:=jh8 s v w h ok
  rw[jkt]at h2;exact h2
 .have⟨_,_,_,h9,yh⟩:=jgj h
  exact⟨Q,Q⟩
 .have⟨h1,h4,_⟩:=jgj h
  obtain⟨u,hu,rfl⟩:=jl5 hm;exact jd3 w B B s.Tz a b c ca cb cc zv tv zs ts _ wx hN hb hB cR ok.Tz h1 hA hl hn (jhs (jfk h4 u hu))
