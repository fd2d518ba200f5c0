import Derived.Test.YtbbgeelamjmgaaaGreatDoorOwn1d
import Derived.Test.YtbbgeelamjmgaaaGreatDoorRightWd
set_option maxRecDepth 20000
set_option maxHeartbeats 0
set_option linter.unusedSimpArgs false
open Go.RowKit
namespace Go.Proofs.YtbbgeelamjmgaaaGreatDoor
variable{m off YX t YV y:Int}{w:World}{base i k:Nat}{v:Value}{x:ZQ}{nm:ByteArray}{l:List ZQ}{P:List Z5}
structure ZF where
 YV:Int
 place:Nat
def ZF.cs(x:ZF):List Value:=[J x.YV,J x.place]
theorem jbo{l:List ZF}:∀r∈l.map ZF.cs,r.length=2:=λr hr=>by
 obtain⟨x,_,rfl⟩:=List.mem_map.mp hr;rfl
def atW(t:Int)(l:List ZF):List ZF:=l.filter λx=>decide (x.YV=t)
theorem vcz(t:Int)(a b:List ZF):atW t (a++b)=atW t a++atW t b:=List.filter_append ..
theorem jcn{x:ZF}(l:List ZF)(h:x.YV=t):atW t (x::l)=x::atW t l:=List.filter_cons_of_pos (by simpa using h)
theorem jer{x:ZF}(l:List ZF)(h:x.YV≠t):atW t (x::l)=atW t l:=List.filter_cons_of_neg (by simpa using h)
theorem jmq{l:List ZF}(h:∀x∈l,t<x.YV):atW t l=[]:=by
 unfold atW;rw[List.filter_eq_nil_iff];intro x hx;have:=h x hx;simp;omega
def UpW(l:List ZF):Prop:=l.Pairwise λa b=>a.YV<=b.YV
structure Ja(l s:List ZF):Prop where
 up:UpW s
 at_:∀t,atW t s=atW t l
 len:s.length=l.length
theorem jfl{l:List ZF}(h:l.length<2):Ja l l:=by
 refine⟨?_,λ_=>rfl,rfl⟩
 match l,h with
 |[],_=>exact List.Pairwise.nil
 |[x],_=>exact List.pairwise_singleton _ _
def vc6(x:ZF)(f:List ZF->List ZF):List ZF->List ZF
 |[]=>x::f []
 |y::b=>if x.YV<=y.YV then x::f (y::b)else y::vc6 x f b
def Rj:List ZF->List ZF->List ZF
 |[],b=>b
 |x::a,b=>vc6 x (Rj a) b
theorem jcw(b:List ZF):Rj [] b=b:=rfl
theorem jek(a:List ZF):Rj a []=a:=by
 induction a with
 |nil=>rfl
 |cons x a ih=>rw[Rj,vc6,ih]
theorem jf9{x y:ZF}{a b:List ZF}(h:x.YV<=y.YV):Rj (x::a) (y::b)=x::Rj a (y::b):=by rw[Rj,vc6,if_pos h]
theorem jfb{x y:ZF}{a b:List ZF}(h:¬x.YV<=y.YV):Rj (x::a) (y::b)=y::Rj (x::a) b:=by rw[Rj,vc6,if_neg h,Rj]
theorem jno:∀{n:Nat} {a b:List ZF} {z:ZF},a.length+b.length<=n->(z∈Rj a b↔z∈a\/z∈b):=by
 intro n
 induction n with
 |zero=>
  intro a b z h;obtain rfl:a=[]:=List.length_eq_zero_iff.mp Q;rw[jcw];simp
 |succ n ih=>
  intro a b z h
  match a,b with
  |[],b=>rw[jcw];simp
  |x::a,[]=>rw[jek];simp
  |x::a,y::b=>
   by_cases hc:x.YV<=y.YV
   .rw[jf9 hc,List.mem_cons,ih (by simp at h ⊢;omega),List.mem_cons,List.mem_cons]
    constructor
    .rintro(h|h|h)
     .exact .inl (.inl h)
     .exact .inl (.inr h)
     .exact .inr h
    .rintro((h|h)|h)
     .exact .inl h
     .exact .inr (.inl h)
     .exact .inr (.inr h)
   .rw[jfb hc,List.mem_cons,ih (by simp at h ⊢;omega),List.mem_cons,List.mem_cons]
    constructor
    .rintro(h|h|h)
     .exact .inr (.inl h)
     .exact .inl h
     .exact .inr (.inr h)
    .rintro(h|h|h)
     .exact .inr (.inl h)
     .exact .inl h
     .exact .inr (.inr h)
theorem jv7:∀{n:Nat} {a b:List ZF},a.length+b.length<=n->UpW a->UpW b->Ja (a++b) (Rj a b):=by
 intro n
 induction n with
 |zero=>
  intro a b h ha hb;obtain rfl:a=[]:=List.length_eq_zero_iff.mp Q;rw[jcw];exact⟨hb,λ_=>rfl,rfl⟩
 |succ n ih=>
  intro a b h ha hb
  match a,b with
  |[],b=>rw[jcw];exact⟨hb,λ_=>rfl,rfl⟩
  |x::a,[]=>rw[jek,List.append_nil];exact⟨ha,λ_=>rfl,rfl⟩
  |x::a,y::b=>
   have jF:=List.pairwise_cons.mp ha;have sy:=List.pairwise_cons.mp hb;by_cases hc:x.YV<=y.YV
   .have:=ih (a:=a) (b:=y::b) (by simp at h ⊢;omega) jF.2 hb
    rw[jf9 hc];refine⟨List.pairwise_cons.mpr ⟨λz hz=>?_,this.up⟩,λt=>?_,by simp[this.len]⟩
    .rcases(jno (ZD _)).mp hz with e|e
     .exact jF.1 z e
     .rcases List.mem_cons.mp e with e|e
      .subst e;exact hc
      .have:=sy.1 z e;omega
    .rw[List.cons_append]
     by_cases ht:x.YV=t
     .rw[jcn _ ht,jcn _ ht,this.at_]
     .rw[jer _ ht,jer _ ht,this.at_]
   .have:=ih (a:=x::a) (b:=b) (by simp at h ⊢;omega) ha sy.2
    rw[jfb hc];refine⟨List.pairwise_cons.mpr ⟨λz hz=>?_,this.up⟩,λt=>?_,by simp[this.len];omega⟩
    .rcases(jno (ZD _)).mp hz with e|e
     .rcases List.mem_cons.mp e with e|e
      .subst e;omega
      .have:=jF.1 z e;omega
     .exact sy.1 z e
    .by_cases ht:y.YV=t
     .rw[jcn _ ht,this.at_,vcz,vcz,jcn _ ht,jmq (l:=x::a)]
      .rfl
      .intro z hz
       rcases List.mem_cons.mp hz with e|e
       .subst e;omega
       .have:=jF.1 z e;omega
     .rw[jer _ ht,this.at_,vcz,vcz,jer _ ht]
theorem jm3{l1 l2 s1 s2:List ZF}(h1:Ja l1 s1)(h2:Ja l2 s2):Ja (l1++l2) (Rj s1 s2):=by
 have h:=jv7 (ZD _) h1.up h2.up;refine⟨h.up,λt=>?_,by rw[h.len,FB,FB,h1.len,h2.len]⟩;rw[h.at_,vcz,vcz,h1.at_,h2.at_]
theorem jvc:∀{s1 s2:List ZF},UpW s1->UpW s2->(∀t,atW t s1=atW t s2)->s1=s2:=by
 intro s1
 induction s1 with
 |nil=>
  intro s2 _ _ h;cases s2 with
  |nil=>rfl
  |cons y s2=>have:=h y.YV;rw[jcn _ rfl]at this;simp[atW]at this
 |cons x s1 ih=>
  intro s2 h1 h2 h;have ES:=List.pairwise_cons.mp h1;cases s2 with
  |nil=>have:=h x.YV;rw[jcn _ rfl]at this;simp[atW]at this
  |cons y s2=>
   have rZ:=List.pairwise_cons.mp h2;have hw:x.YV=y.YV:=by
    rcases Int.lt_trichotomy x.YV y.YV with e|e|e
    .have:=h x.YV
     rw[jcn _ rfl,jmq (l:=y::s2)]at this
     .cases this
     .intro z hz
      rcases List.mem_cons.mp hz with e2|e2
      .subst e2;exact e
      .have:=rZ.1 z e2;omega
    .exact e
    .have:=h y.YV
     rw[jcn (x:=y) _ rfl,jmq (l:=x::s1)]at this
     .cases this
     .intro z hz
      rcases List.mem_cons.mp hz with e2|e2
      .subst e2;exact e
      .have:=ES.1 z e2;omega
   have gI:=h x.YV;rw[jcn _ rfl,jcn _ hw.symm]at gI;injection gI with e1 e2
   subst e1;rw[ih ES.2 rZ.2 λt=>?_];have:=h t;by_cases ht:x.YV=t
   .rw[jcn _ ht,jcn _ ht]at this
    injection this
   .rw[jer _ ht,jer _ ht]at this
    exact this
theorem jr2:(Tryz.prog.info? 257).map (λi=>(i.zero,i.size,i.bytes))=some (some (.agg #[J 0,J 0]),2,16):=RG
def Zn(w:World)(base:Nat)(v:Value)(P:List ZF):Prop:=w.ownsRow base 257 2 v P.length (P.map ZF.cs).flatten
theorem Zn.add{P:List ZF}{p:ZF}(h:w.ownsRow base 257 2 v (P.length+1) ((P.map ZF.cs).flatten++p.cs)):Zn w base v (P++[p]):=by
 unfold Zn;rw[FB,MZ,List.flatten_append]
 simpa using h
theorem Zn.seq{P:List ZF}(h:Zn w base v P):∃a cap,v=.slice a P.length cap/\Za w a 2 (P.map ZF.cs)/\P.length<=cap:=by
 obtain⟨a,cap,h1,h2,h3⟩:=jbe (rows:=P.map ZF.cs) (by rw[BX];exact h) jbo;rw[BX]at h1 h3;exact⟨a,cap,h1,h2,h3⟩
def jc0(w:World)(v:Value)(l:List ZF):Prop:=∃a cap,v=U a l.length cap/\l.length<=cap/\Za w a 2 (l.map ZF.cs)
theorem Zn.walls{P:List ZF}(h:Zn w base v P):jc0 w v P:=by
 have⟨a,cap,h1,h2,h3⟩:=h.seq;exact⟨a,cap,h1,h3,h2⟩
theorem jyn{l:List ZF}{s1 s2:List ZF}(h1:Ja (l.take k) s1)(h2:Ja (l.drop k) s2):Ja l (Rj s1 s2):=by
 have:=jm3 h1 h2;rw[List.take_append_drop]at this;exact this
theorem jm5(N:Nat):∀(l:List ZF) (v:Value) (w:World),l.length<=N->l.length<=4000->jc0 w v l->
  C 246 #[v] w λe W'=>∃v' s,e=V v'/\jc0 W' v' s/\Ja l s/\Bw w W':=by
 induction N with
 |zero=>
  intro l v w h0 _ hv;obtain⟨a,cap,rfl,eh,hA⟩:=hv;have HR:Hid (Ja l l):=jfl Q;have HA:Hid (jc0 w (U a l.length cap) l):=⟨a,cap,rfl,eh,hA⟩;unfold C;go_in;go_wp2;go_ret;exact⟨_,l,rfl,HA.out,HR.out,ZU _ _⟩
 |succ N ih=>
  intro l v w h0 h4 hv;obtain⟨a,cap,rfl,eh,hA⟩:=hv;by_cases h2:l.length<2
  .have HR:Hid (Ja l l):=jfl h2
   have HA:Hid (jc0 w (U a l.length cap) l):=⟨a,cap,rfl,eh,hA⟩;unfold C;go_in;go_wp2;go_ret;exact⟨_,l,rfl,HA.out,HR.out,ZU _ _⟩
  .have⟨i0,hi,aG,aH,aF⟩:=info_parts jr2
   obtain⟨f,hf⟩:∃f,l[0]? =some f:=⟨_,ZV Q⟩;obtain⟨b,o,rfl,hc⟩:=hA.at (i:=0) (r:=f.cs) (by rw[Z8,hf];rfl);clear hc hf;have lk:(l.take (l.length / 2)).length=l.length / 2:=by rw[List.length_take];omega
   have ld:(l.drop (l.length / 2)).length=l.length-l.length / 2:=by rw[List.length_drop]
   have T1:Za w (some (O b o)) 2 ((l.take (l.length / 2)).map ZF.cs):=by rw[List.map_take];exact hA.take _
   have T2:Za w (some (O b (o+l.length / 2*2))) 2 ((l.drop (l.length / 2)).map ZF.cs):=by rw[List.map_drop];exact hA.drop
   have HM:Hid (∀s1 s2,Ja (l.take (l.length / 2)) s1->Ja (l.drop (l.length / 2)) s2->Ja l (Rj s1 s2)):=λs1 s2 h1 h2=>jyn h1 h2
   have se:=λv w h=>ih (l.take (l.length / 2)) v w Q Q h
   have nX:=λv w h=>ih (l.drop (l.length / 2)) v w Q Q h
   have⟨l1,e1⟩:=ZL (l.take (l.length / 2));have⟨l2,e2⟩:=ZL (l.drop (l.length / 2));rw[e1]at lk T1 HM se;rw[e2]at ld T2 HM nX;clear e1 e2 ih;have f1:(l1.map ZF.cs).flatten.length=l.length / 2*2:=by rw[jbx jbo,BX,lk]
   have f2:(l2.map ZF.cs).flatten.length=(l.length-l.length / 2)*2:=by rw[jbx jbo,BX,ld]
   have one:∀(m:List ZF) u,u∈(m.map ZF.cs).flatten->u.oneCell'=true:=λm u hu=>by
    have⟨r,hr,hu⟩:=List.mem_flatten.mp hu;obtain⟨x,_,rfl⟩:=List.mem_map.mp hr;simp[ZF.cs]at hu;rcases hu with rfl|rfl<;>rfl
   have o1:=one l1;have o2:=one l2;clear one;have HN:Hid (l.length=l1.length+l2.length):=by simp only[Hid];omega
   have tk:((l.length:Int) / 2).toNat=l.length / 2:=Q;have bk:(0:Int)<=(l.length:Int) / 2:=Q;have EL:(l.length:Int) / 2<=(cap:Int):=Q;have Iq:(l.length:Int) / 2<=(l.length:Int):=Q;have iH:¬cap=l.length / 2:=Q;have HK:Hid (l1.length=l.length / 2/\l2.length=l.length-l.length / 2):=⟨lk,ld⟩;clear lk ld;have n1:=T1.flat jbo;have Ex:Hid (∀w2,Bw w w2->∀j u,(l2.map ZF.cs).flatten[j]? =some u->w2.cell? (((O b (o+l.length / 2*2)):Addr).add j)=some u):=λw2 hb=>(T2.below hb).flat jbo
   have GI:∀j u,(l1.map ZF.cs).flatten[j]? =some u->(w.alloc (G #[] 257)).cell? (((O b o):Addr).add j)=some u:=(T1.below (ZA w _)).flat jbo;have hE:=ja5 w 257 2;unfold C;go_in
   go_wp2_with (first
    |(at_builtin;refine wpList_append_own _ rfl _ _ 253 rfl w.heap.size 257 i0 (.agg #[J 0,J 0]) 2 16 Tryz.underlying253 hi aG aH aF rfl RN _ _ _ rfl hE ⟨b,o,none⟩ (l.length / 2) cap (l1.map ZF.cs).flatten rfl f1 GI o1 ?d3 ?d4 ?d5 ?_)
    |fail)
   case d3=>unfold maxLen;omega
   case d4=>omega
   case d5=>simp
   intro v1 w1 av aP _;have aj:Bw w w1:=(ZA w _).grown aP M (λj hj=>(hE.lt j hj).1);have j7:jc0 w1 v1 l1:=Zn.walls (base:=w.heap.size) (by unfold Zn;rw[HK.out.1];exact av);obtain⟨a1,m1,c1,rfl⟩:=Dt av;clear aP hE av GI o1 f1;go_wp2_with fail;refine(se _ _ j7).mono ?_;rintro e w2 ⟨v2,s1,rfl,sq,bU,ac⟩;have an:=Zp aj ac;obtain⟨a2,c2,rfl,cU,qf⟩:=sq;clear j7 ac se;have hE:=ja5 w2 257 2;have BN:Bw w (w2.alloc (G #[] 257)):=an.alloc an.size _;have n2:=Ex.out _ BN
   go_wp2_with (first
    |(at_builtin;refine wpList_append_own _ rfl _ _ 253 rfl w2.heap.size 257 i0 (.agg #[J 0,J 0]) 2 16 Tryz.underlying253 hi aG aH aF rfl RN _ _ _ rfl hE ⟨b,o+l.length / 2*2,none⟩ (l.length-l.length / 2) (cap-l.length / 2) (l2.map ZF.cs).flatten rfl f2 n2 o2 ?e3 ?e4 ?e5 ?_)
    |fail)
   case e3=>unfold maxLen;omega
   case e4=>omega
   case e5=>simp
   intro v3 w3 aI aJ _;have ar:Bw w2 w3:=(ZA w2 _).grown aJ M (λj hj=>(hE.lt j hj).1);have ax:=Zp an ar;have qo:jc0 w3 v3 l2:=Zn.walls (base:=w2.heap.size) (by unfold Zn;rw[HK.out.2];exact aI);have Fs:=qf.below ar;obtain⟨a3,m3,c3,rfl⟩:=Dt aI;clear aJ hE aI n2 o2 f2 ar qf;go_wp2_with fail;refine(nX _ _ qo).mono ?_;rintro e w4 ⟨v4,s2,rfl,JN,dR,aD⟩;have aR:=Zp ax aD;obtain⟨a4,c4,rfl,FO,uH⟩:=JN;have Fq:=Fs.below aD;clear qo aD nX Fs Ex T1 T2 n1 hA;have HR:Hid (Ja l (Rj s1 s2)):=HM.out s1 s2 bU dR;have au:s1.length+s2.length<=4000:=by have:=bU.len;have:=dR.len;have:=HN.out;omega
   clear HM bU dR;have hE:Zn (w4.alloc (G #[] 257)) w4.heap.size (U (some (O w4.heap.size 0)) 0 0) []:=ja5 w4 257 2;go_wp2;go_loopw [4,5,6] (λx4 x5 x6 wr=>∃(aa ab:Option Addr) (ca cb na nb:Nat) (ra rb out:List ZF),x4=U aa na ca/\Hid (ra.length=na)/\na<=ca/\Za w4 aa 2 (ra.map ZF.cs)/\x5=U ab nb cb/\Hid (rb.length=nb)/\nb<=cb/\Za w4 ab 2 (rb.map ZF.cs)/\Zn wr w4.heap.size x6 out/\Hid (out++Rj ra rb=Rj s1 s2)/\out.length+na+nb<=4000/\Bw w4 wr) (λx4 x5 _ _=>(match x4 with|.slice _ n _=>n|_=>0)+(match x5 with|.slice _ n _=>n|_=>0))
   .exact⟨a2,a4,c2,c4,_,_,s1,s2,[],rfl,rfl,cU,Fq,rfl,rfl,FO,uH,hE,rfl,by simpa using au,ZA _ _⟩
   ·
    clear hE cU Fq FO uH au;obtain⟨aa,ab,ca,cb,na,nb,ra,rb,out,rfl,HA,xU,og,rfl,HB,sA,oi,ai,HG,au,aK⟩:=hrel;have dI:=aK.size;have eM:=Zp aR aK;obtain⟨a6,m6,c6,rfl⟩:=Dt ai;cases hra:ra with
    |nil=>
     subst hra;obtain rfl:na=0:=HA.out.symm;cases hrb:rb with
     | nil=>
      subst hrb;obtain rfl:nb=0:=HB.out.symm;have HX:Hid (out=Rj s1 s2):=by
       have:=HG.out;rw[jcw,List.append_nil]at this;exact this
      have HO:Hid (jc0 wr (U a6 m6 c6) (Rj s1 s2)):=by simp only[Hid];rw[<- HX.out];exact ai.walls
      clear HG;go_wp2;go_ret;exact⟨_,_,rfl,HO.out,HR.out,eM⟩
     |cons y gJ=>
      subst hrb;have jK:Hid ((out++[y])++Rj [] gJ=Rj s1 s2):=by
       have:=HG.out;rw[jcw]at this;simp only[Hid];rw[jcw, <- this];simp
      obtain⟨bb,ob,rfl,qy⟩:=(oi.below aK).at (i:=0) (r:=y.cs) rfl;have pb:0<nb:=by have:=HB.out;simp at this;omega
      have eb:((nb:Int)==0)=false:=RO;have db:decide ((0:Int)<(nb:Int))=true:=RO;have IA:decide (0<nb)=true:=RO;have Lk:(1:Int)<=(nb:Int):=Q;have Ll:(0:Int)<(nb:Int):=Q;have Iy:wr.cell? (O bb ob)=some (J y.YV):=by simpa using qy 0 _ rfl
      have Iz:wr.cell? (O bb (ob+1))=some (J y.place):=by simpa using qy 1 _ rfl
      have qg:Za w4 (some (O bb (ob+2))) 2 (gJ.map ZF.cs):=by simpa using oi.drop (m:=1)
      clear qy;by_cases aX:cb=1
      .have hn:gJ=[]:=List.length_eq_zero_iff.mp (by have:=HB.out;simp at this;omega)
       subst hn aX;obtain rfl:nb=1:=Q;clear HG;go_wp2_with fail;go_quiet (fail)
       go_wp2_with (first
        |(at_builtin;refine wpList_append_own _ rfl _ _ 253 rfl w4.heap.size 257 i0 (.agg #[J 0,J 0]) 2 16 Tryz.underlying253 hi aG aH aF rfl RN _ _ _ rfl (nO ai _) ⟨wr.heap.size,0,none⟩ 1 1 [J y.YV,J y.place] rfl rfl ?c1a1 ?c2a1 ?c3a1 ?c4a1 ?c5a1 ?_)
        |fail)
       case c1a1=>exact Ka _ [J y.YV,J y.place] _
       case c2a1=>intro u hu;simp at hu;rcases hu with rfl|rfl<;>rfl
       case c3a1=>unfold maxLen;omega
       case c4a1=>omega
       case c5a1=>simp;omega
       intro v' wn ao af _;have df:Bw w4 wn:=(Below.alloc (below_drewN aK _) RO _).grown af RO (λj hj=>(ai.lt j hj).1);have HO:Hid (Zn wn w4.heap.size v' (out++[y])):=Zn.add (p:=y) ao;obtain⟨a7,m7,c7,rfl⟩:=Dt ao;clear af ao ai;go_wp2;go_roundw
       .exact⟨_,_,_,_,0,0,[],[],out++[y],rfl,rfl,xU,og,rfl,rfl,Q,.inl rfl,HO.out,jK,RO,df⟩
       .simp
      .clear HG
       go_wp2_with fail;go_quiet (fail)
       go_wp2_with (first
        |(at_builtin;refine wpList_append_own _ rfl _ _ 253 rfl w4.heap.size 257 i0 (.agg #[J 0,J 0]) 2 16 Tryz.underlying253 hi aG aH aF rfl RN _ _ _ rfl (nO ai _) ⟨wr.heap.size,0,none⟩ 1 1 [J y.YV,J y.place] rfl rfl ?c1a2 ?c2a2 ?c3a2 ?c4a2 ?c5a2 ?_)
        |fail)
       case c1a2=>exact Ka _ [J y.YV,J y.place] _
       case c2a2=>intro u hu;simp at hu;rcases hu with rfl|rfl<;>rfl
       case c3a2=>unfold maxLen;omega
       case c4a2=>omega
       case c5a2=>simp;omega
       intro v' wn ao af _;have df:Bw w4 wn:=(Below.alloc (below_drewN aK _) RO _).grown af RO (λj hj=>(ai.lt j hj).1);have HO:Hid (Zn wn w4.heap.size v' (out++[y])):=Zn.add (p:=y) ao;obtain⟨a7,m7,c7,rfl⟩:=Dt ao;clear af ao ai;go_wp2;go_roundw
       .exact⟨_,_,_,_,0,nb-1,[],gJ,out++[y],rfl,rfl,xU,og,rfl,by have:=HB.out;simp at this;simp only[Hid];omega,Q,qg,HO.out,jK,RO,df⟩
       .simp;omega
    |cons x ra'=>
     subst hra;obtain⟨ba,oa,rfl,dY⟩:=(og.below aK).at (i:=0) (r:=x.cs) rfl;have pa:0<na:=by have:=HA.out;simp at this;omega
     have ea:((na:Int)==0)=false:=RO;have da:decide ((0:Int)<(na:Int))=true:=RO;have Om:decide (0<na)=true:=RO;have PC:(1:Int)<=(na:Int):=Q;have PD:(0:Int)<(na:Int):=Q;have Oj:wr.cell? (O ba oa)=some (J x.YV):=by simpa using dY 0 _ rfl
     have Ok:wr.cell? (O ba (oa+1))=some (J x.place):=by simpa using dY 1 _ rfl
     have uI:Za w4 (some (O ba (oa+2))) 2 (ra'.map ZF.cs):=by simpa using og.drop (m:=1)
     clear dY;cases hrb:rb with
     |nil=>
      subst hrb;obtain rfl:nb=0:=HB.out.symm;have jK:Hid ((out++[x])++Rj ra' []=Rj s1 s2):=by
       have:=HG.out;rw[jek]at this;simp only[Hid];rw[jek, <- this];simp
      by_cases aX:ca=1
      .have hn:ra'=[]:=List.length_eq_zero_iff.mp (by have:=HA.out;simp at this;omega)
       subst hn aX;obtain rfl:na=1:=Q;clear HG;go_wp2_with fail;go_quiet (fail)
       go_wp2_with (first
        |(at_builtin;refine wpList_append_own _ rfl _ _ 253 rfl w4.heap.size 257 i0 (.agg #[J 0,J 0]) 2 16 Tryz.underlying253 hi aG aH aF rfl RN _ _ _ rfl (nO ai _) ⟨wr.heap.size,0,none⟩ 1 1 [J x.YV,J x.place] rfl rfl ?c1b1 ?c2b1 ?c3b1 ?c4b1 ?c5b1 ?_)
        |fail)
       case c1b1=>exact Ka _ [J x.YV,J x.place] _
       case c2b1=>intro u hu;simp at hu;rcases hu with rfl|rfl<;>rfl
       case c3b1=>unfold maxLen;omega
       case c4b1=>omega
       case c5b1=>simp;omega
       intro v' wn ao af _;have df:Bw w4 wn:=(Below.alloc (below_drewN aK _) RO _).grown af RO (λj hj=>(ai.lt j hj).1);have HO:Hid (Zn wn w4.heap.size v' (out++[x])):=Zn.add (p:=x) ao;obtain⟨a7,m7,c7,rfl⟩:=Dt ao;clear af ao ai;go_wp2;go_roundw
       .exact⟨_,_,_,_,0,0,[],[],out++[x],rfl,rfl,Q,.inl rfl,rfl,rfl,sA,oi,HO.out,jK,RO,df⟩
       .simp
      .clear HG
       go_wp2_with fail;go_quiet (fail)
       go_wp2_with (first
        |(at_builtin;refine wpList_append_own _ rfl _ _ 253 rfl w4.heap.size 257 i0 (.agg #[J 0,J 0]) 2 16 Tryz.underlying253 hi aG aH aF rfl RN _ _ _ rfl (nO ai _) ⟨wr.heap.size,0,none⟩ 1 1 [J x.YV,J x.place] rfl rfl ?c1b2 ?c2b2 ?c3b2 ?c4b2 ?c5b2 ?_)
        |fail)
       case c1b2=>exact Ka _ [J x.YV,J x.place] _
       case c2b2=>intro u hu;simp at hu;rcases hu with rfl|rfl<;>rfl
       case c3b2=>unfold maxLen;omega
       case c4b2=>omega
       case c5b2=>simp;omega
       intro v' wn ao af _;have df:Bw w4 wn:=(Below.alloc (below_drewN aK _) RO _).grown af RO (λj hj=>(ai.lt j hj).1);have HO:Hid (Zn wn w4.heap.size v' (out++[x])):=Zn.add (p:=x) ao;obtain⟨a7,m7,c7,rfl⟩:=Dt ao;clear af ao ai;go_wp2;go_roundw
       .exact⟨_,_,_,_,na-1,0,ra',[],out++[x],rfl,by have:=HA.out;simp at this;simp only[Hid];omega,Q,uI,rfl,rfl,sA,oi,HO.out,jK,RO,df⟩
       .simp;omega
     |cons y gJ=>
      subst hrb;obtain⟨bb,ob,rfl,qy⟩:=(oi.below aK).at (i:=0) (r:=y.cs) rfl;have pb:0<nb:=by have:=HB.out;simp at this;omega
      have eb:((nb:Int)==0)=false:=RO;have db:decide ((0:Int)<(nb:Int))=true:=RO;have IA:decide (0<nb)=true:=RO;have Lk:(1:Int)<=(nb:Int):=Q;have Ll:(0:Int)<(nb:Int):=Q;have Iy:wr.cell? (O bb ob)=some (J y.YV):=by simpa using qy 0 _ rfl
      have Iz:wr.cell? (O bb (ob+1))=some (J y.place):=by simpa using qy 1 _ rfl
      have qg:Za w4 (some (O bb (ob+2))) 2 (gJ.map ZF.cs):=by simpa using oi.drop (m:=1)
      clear qy;by_cases gI:x.YV<=y.YV
      .have jK:Hid ((out++[x])++Rj ra' (y::gJ)=Rj s1 s2):=by
        have:=HG.out;rw[jf9 gI]at this;simp only[Hid];rw[<- this];simp
       have IB:decide (x.YV<=y.YV)=true:=rT gI;by_cases aX:ca=1
       .have hn:ra'=[]:=List.length_eq_zero_iff.mp (by have:=HA.out;simp at this;omega)
        subst hn aX;obtain rfl:na=1:=Q;clear HG;go_wp2_with fail;go_quiet (fail)
        go_wp2_with (first
         |(at_builtin;refine wpList_append_own _ rfl _ _ 253 rfl w4.heap.size 257 i0 (.agg #[J 0,J 0]) 2 16 Tryz.underlying253 hi aG aH aF rfl RN _ _ _ rfl (nO ai _) ⟨wr.heap.size,0,none⟩ 1 1 [J x.YV,J x.place] rfl rfl ?c1c1 ?c2c1 ?c3c1 ?c4c1 ?c5c1 ?_)
         |fail)
        case c1c1=>exact Ka _ [J x.YV,J x.place] _
        case c2c1=>intro u hu;simp at hu;rcases hu with rfl|rfl<;>rfl
        case c3c1=>unfold maxLen;omega
        case c4c1=>omega
        case c5c1=>simp;omega
        intro v' wn ao af _;have df:Bw w4 wn:=(Below.alloc (below_drewN aK _) RO _).grown af RO (λj hj=>(ai.lt j hj).1);have HO:Hid (Zn wn w4.heap.size v' (out++[x])):=Zn.add (p:=x) ao;obtain⟨a7,m7,c7,rfl⟩:=Dt ao;clear af ao ai;go_wp2;go_roundw
        .exact⟨_,_,_,_,0,nb,[],(y::gJ),out++[x],rfl,rfl,Q,.inl rfl,rfl,HB,sA,oi,HO.out,jK,RO,df⟩
        .simp
       .clear HG
        go_wp2_with fail;go_quiet (fail)
        go_wp2_with (first
         |(at_builtin;refine wpList_append_own _ rfl _ _ 253 rfl w4.heap.size 257 i0 (.agg #[J 0,J 0]) 2 16 Tryz.underlying253 hi aG aH aF rfl RN _ _ _ rfl (nO ai _) ⟨wr.heap.size,0,none⟩ 1 1 [J x.YV,J x.place] rfl rfl ?c1c2 ?c2c2 ?c3c2 ?c4c2 ?c5c2 ?_)
         |fail)
        case c1c2=>exact Ka _ [J x.YV,J x.place] _
        case c2c2=>intro u hu;simp at hu;rcases hu with rfl|rfl<;>rfl
        case c3c2=>unfold maxLen;omega
        case c4c2=>omega
        case c5c2=>simp;omega
        intro v' wn ao af _;have df:Bw w4 wn:=(Below.alloc (below_drewN aK _) RO _).grown af RO (λj hj=>(ai.lt j hj).1);have HO:Hid (Zn wn w4.heap.size v' (out++[x])):=Zn.add (p:=x) ao;obtain⟨a7,m7,c7,rfl⟩:=Dt ao;clear af ao ai;go_wp2;go_roundw
        .exact⟨_,_,_,_,na-1,nb,ra',(y::gJ),out++[x],rfl,by have:=HA.out;simp at this;simp only[Hid];omega,Q,uI,rfl,HB,sA,oi,HO.out,jK,RO,df⟩
        .simp;omega
      .have jK:Hid ((out++[y])++Rj (x::ra') gJ=Rj s1 s2):=by
        have:=HG.out;rw[jfb gI]at this;simp only[Hid];rw[<- this];simp
       have IB:decide (x.YV<=y.YV)=false:=dfe gI;by_cases aX:cb=1
       .have hn:gJ=[]:=List.length_eq_zero_iff.mp (by have:=HB.out;simp at this;omega)
        subst hn aX;obtain rfl:nb=1:=Q;clear HG;go_wp2_with fail;go_quiet (fail)
        go_wp2_with (first
         |(at_builtin;refine wpList_append_own _ rfl _ _ 253 rfl w4.heap.size 257 i0 (.agg #[J 0,J 0]) 2 16 Tryz.underlying253 hi aG aH aF rfl RN _ _ _ rfl (nO ai _) ⟨wr.heap.size,0,none⟩ 1 1 [J y.YV,J y.place] rfl rfl ?c1d1 ?c2d1 ?c3d1 ?c4d1 ?c5d1 ?_)
         |fail)
        case c1d1=>exact Ka _ [J y.YV,J y.place] _
        case c2d1=>intro u hu;simp at hu;rcases hu with rfl|rfl<;>rfl
        case c3d1=>unfold maxLen;omega
        case c4d1=>omega
        case c5d1=>simp;omega
        intro v' wn ao af _;have df:Bw w4 wn:=(Below.alloc (below_drewN aK _) RO _).grown af RO (λj hj=>(ai.lt j hj).1);have HO:Hid (Zn wn w4.heap.size v' (out++[y])):=Zn.add (p:=y) ao;obtain⟨a7,m7,c7,rfl⟩:=Dt ao;clear af ao ai;go_wp2;go_roundw
        .exact⟨_,_,_,_,na,0,(x::ra'),[],out++[y],rfl,HA,xU,og,rfl,rfl,Q,.inl rfl,HO.out,jK,RO,df⟩
        .simp
       .clear HG
        go_wp2_with fail;go_quiet (fail)
        go_wp2_with (first
         |(at_builtin;refine wpList_append_own _ rfl _ _ 253 rfl w4.heap.size 257 i0 (.agg #[J 0,J 0]) 2 16 Tryz.underlying253 hi aG aH aF rfl RN _ _ _ rfl (nO ai _) ⟨wr.heap.size,0,none⟩ 1 1 [J y.YV,J y.place] rfl rfl ?c1d2 ?c2d2 ?c3d2 ?c4d2 ?c5d2 ?_)
         |fail)
        case c1d2=>exact Ka _ [J y.YV,J y.place] _
        case c2d2=>intro u hu;simp at hu;rcases hu with rfl|rfl<;>rfl
        case c3d2=>unfold maxLen;omega
        case c4d2=>omega
        case c5d2=>simp;omega
        intro v' wn ao af _;have df:Bw w4 wn:=(Below.alloc (below_drewN aK _) RO _).grown af RO (λj hj=>(ai.lt j hj).1);have HO:Hid (Zn wn w4.heap.size v' (out++[y])):=Zn.add (p:=y) ao;obtain⟨a7,m7,c7,rfl⟩:=Dt ao;clear af ao ai;go_wp2;go_roundw
        .exact⟨_,_,_,_,na,nb-1,(x::ra'),gJ,out++[y],rfl,HA,xU,og,rfl,by have:=HB.out;simp at this;simp only[Hid];omega,Q,qg,HO.out,jK,RO,df⟩
        .simp;omega
def jdy(i:Nat)(x:ZQ)(y:Int):List ZF:=if M0 y x.pU x.on= -1000000 then []else [⟨86400*M0 y x.pU x.on+x.at_,i⟩]
def EK(i:Nat)(x:ZQ)(y:Int):Nat->List ZF
 |0=>[]
 |n+1=>EK i x y n++jdy i x (y+n)
def yrs(x:ZQ):Nat:=(min x.hi 2037-max x.lo 1960+1).toNat
def jcf(i:Nat)(x:ZQ):List ZF:=EK i x (max x.lo 1960) (yrs x)
def LZ(nm:ByteArray)(l:List ZQ):Nat->List ZF
 |0=>[]
 |k+1=>LZ nm l k++(match l[k]? with|some x=>if (x.name.toList==nm.toList)=true then jcf k x else []|none=>[])
theorem jmy(h:M0 y x.pU x.on= -1000000):jdy i x y=[]:=by unfold jdy;rw[if_pos h]
theorem jkl(h:M0 y x.pU x.on≠ -1000000):jdy i x y=[⟨86400*M0 y x.pU x.on+x.at_,i⟩]:=by unfold jdy;rw[if_neg h]
theorem jkm(hx:l[k]? =some x)(h:(x.name.toList==nm.toList)=true):LZ nm l (k+1)=LZ nm l k++jcf k x:=by rw[LZ,hx];simp only[h,if_true]
theorem jmz(hx:l[k]? =some x)(h:(x.name.toList==nm.toList)=false):LZ nm l (k+1)=LZ nm l k:=by rw[LZ,hx];simp[h]
theorem jeg(i:Nat)(x:ZQ)(y:Int):∀n,(EK i x y n).length<=n:=by
 intro n
 induction n with
 |zero=>simp[EK]
 |succ n ih=>
  rw[EK,FB];have:(jdy i x (y+n)).length<=1:=by unfold jdy;split<;>simp
  omega
theorem jra(x:ZQ):yrs x<=78:=by unfold yrs;omega
theorem jsn(nm:ByteArray)(l:List ZQ):∀k,(LZ nm l k).length<=78*k:=by
 intro k
 induction k with
 |zero=>simp[LZ]
 | succ k ih=>
  rw[LZ,FB];have AN:∀x,(jcf k x).length<=78:=λx=>Nat.le_trans (jeg _ _ _ _) (jra x)
  split
  .rename_i x _
   split
   .have:=AN x;omega
   .simp;omega
  .simp;omega
structure Jo(x:ZQ):Prop where
 pU:1<=x.pU/\x.pU<=12
 at_:0<=x.at_/\x.at_<=604800
 YX: -7200<=x.YX/\x.YX<=7200
theorem jrg(h:BF x=true):Jo x:=by
 unfold BF at h;simp only[vB]at h;have⟨_,_,_,hm,_,ha,_,hs,_⟩:=h;exact⟨jax hm,jax ha,jax hs⟩
theorem j15{s:ByteArray}(hy:Ng y m=true):M0 y m s= -1000000\/(-800000<=M0 y m s/\M0 y m s<=3000000):=by
 have:=j1l (y:=y) (m:=m) (s:=s);unfold Nn at this;rw[hy,if_pos rfl,jig hy]at this;exact this
theorem jx9(h1:1960<=y)(h2:y<=2037)(h3:1<=m)(h4:m<=12):Ng y m=true:=by
 unfold Ng;simp;omega
theorem jgt(a b:Int)(w:World):C 214 #[J a,J b] w λe w'=>e=V (J (max a b))/\w'=w:=by
 by_cases h:b<a
 .unfold C;go_in
  go_wp2;go_ret;exact⟨Fh Q,rfl⟩
 .unfold C;go_in
  go_wp2;go_ret;exact⟨Fh Q,rfl⟩
theorem jgs(a b:Int)(w:World):C 213 #[J a,J b] w λe w'=>e=V (J (min a b))/\w'=w:=by
 by_cases h:a<b
 .unfold C;go_in
  go_wp2;go_ret;exact⟨Fh Q,rfl⟩
 .unfold C;go_in
  go_wp2;go_ret;exact⟨Fh Q,rfl⟩
def jpi(r:ZW)(nm:ByteArray)(s:List ZF)(b:Bool):Prop:=((LZ nm r.Vv r.Vv.length).length<=2000/\b=true/\Ja (LZ nm r.Vv r.Vv.length) s)\/(¬(LZ nm r.Vv r.Vv.length).length<=2000/\b=false/\s=[])
theorem j3c{g H bx:Nat}{a:Option Addr}{n c n2 c2:Nat}(bE:(U a n c).ownBlock=some g\/g=H)(az:some bx≠(U a n c).ownBlock)(hH:bx<H):some bx≠(so g n2 c2).ownBlock:=by
 intro e;have e2:bx=g:=by simpa [Value.ownBlock]using e
 subst e2;rcases bE with h|h
 .exact az h.symm
 .omega
theorem jlp(r:ZW)(v:Value)(nm:ByteArray)(w:World)(hv:Zd w v r)(hr:∀x∈r.Vv,BF x=true)(hl:r.Vv.length<=40)(di:∀x∈r.Vv,x.on.size<=1048576):
  C 212 #[v,I nm] w λe W'=>∃v' s b,e=V (.tuple #[v',.bool b])/\jc0 W' v' s/\jpi r nm s b/\Bw w W':=by
 have⟨i0,hi,aG,aH,aF⟩:=info_parts jr2;obtain⟨a,b,c,ca,cb,cc,rfl,hA,_,_⟩:=hv.form;have jv:Hid (∀x∈r.Vv,Jo x):=λx hx=>jrg (hr x hx)
 have sY:=hid di;clear hr di hv;have eX:=ZA w (G #[U a r.Vv.length ca,U b r.YU.length cb,U c r.YW.length cc] 27);have x0:(w.alloc (G #[U a r.Vv.length ca,U b r.YU.length cb,U c r.YW.length cc] 27)).cell? (O w.heap.size 0)=some (U a r.Vv.length ca):=RQ;unfold C;go_in;go_wp2;have⟨wA,cK⟩:=ZL ((w.alloc (G #[U a r.Vv.length ca,U b r.YU.length cb,U c r.YW.length cc] 27)));have ji:wA.heap.size=w.heap.size+1:=by rw[<- cK];simp
 rw[cK]at eX x0 ⊢;clear cK;have hE:Zn (wA.alloc (G #[] 257)) (w.heap.size+1) (U (some (O (w.heap.size+1) 0)) 0 0) (LZ nm r.Vv 0):=by have:=ja5 wA 257 2;rw[ji]at this;exact this
 go_loopw [6,7] (λs6 s7 wr=>∃k:Nat,k<=r.Vv.length/\s7=J k/\Zn wr (w.heap.size+1) s6 (LZ nm r.Vv k)/\Below (w.heap.size+1) wA wr) (λ_ s7 _=>r.Vv.length-(intOf s7).toNat)
 .exact⟨0,Q,rfl,hE,(ZU _ _).alloc Q _⟩
 ·
  clear hE;obtain⟨k,hk,rfl,ai,aK⟩:=hrel;have dI:=aK.size;have eM:=eX.trans (aK.mono (vQs _));have xr:wr.cell? (O w.heap.size 0)=some (U a r.Vv.length ca):=(aK.cell (p:=(O w.heap.size 0)) (show w.heap.size<w.heap.size+1 by omega)).trans x0;have au:=jsn nm r.Vv k;by_cases hlt:k<r.Vv.length
  .have⟨x,hx⟩:=DV hlt
   have mg:=jv.out x (ui hx);have Cs:=sY.out x (ui hx);obtain⟨b9,o9,rfl,hc⟩:=(hA.below eM).at (i:=k) (r:=x.cs) (by rw[Z8,hx];rfl);have c0:wr.cell? (O b9 (o9+k*9))=some (I x.name):=hc 0 _ rfl;have c1:=hc 1 _ rfl;have c2:=hc 2 _ rfl;have c3:=hc 3 _ rfl;have c4:=hc 4 _ rfl;have c5:=hc 5 _ rfl;have c6:=hc 6 _ rfl;have c7:=hc 7 _ rfl;have c8:=hc 8 _ rfl;clear hc;cases hn:(x.name.toList==nm.toList)
   .have HT:Hid (LZ nm r.Vv (k+1)=LZ nm r.Vv k):=jmz hx hn
    clear hx;obtain⟨a6,m6,d6,rfl⟩:=Dt ai;go_wp2;go_roundw
    .exact⟨k+1,Q,RP,by rw[HT.out];exact nO ai _,aK.alloc Q _⟩
    .simp[intOf];omega
   .have HT:Hid (LZ nm r.Vv (k+1)=LZ nm r.Vv k++jcf k x):=jkm hx hn
    clear hx;have⟨L,hL⟩:=ZL (LZ nm r.Vv k);rw[hL]at HT ai au;clear hL;obtain⟨a6,m6,d6,rfl⟩:=Dt ai;have hM:=λw=>jgt x.lo 1960 w
    have hN:=λw=>jgs x.hi 2037 w
    have⟨ya,vO⟩:=ZL (max x.lo 1960);have⟨ye,vP⟩:=ZL (min x.hi 2037);have Nq:1960<=ya:=Q;have Nr:ye<=2037:=Q;have HX:Hid (∀n:Nat,¬ya+n<=ye->ya+n<=ye+1\/n=0->jcf k x=EK k x ya n):=λn h1 h2=>by
     unfold jcf yrs;rw[vO,vP]
     congr 1
     omega
    have Pk:=jra x;rw[vO]at hM;rw[vP]at hN;clear vO vP;have qV:some wr.heap.size≠(U a6 m6 d6).ownBlock:=λe=>by have:=(ai.lt _ e.symm).2;omega
    have aS:Zn (wr.alloc (G #[I x.name,J x.lo,J x.hi,J x.pU,I x.on,J x.at_,I x.of,J x.YX,I x.ZR] 116)) (w.heap.size+1) (U a6 m6 d6) (L++EK k x ya 0):=by rw[show L++EK k x ya 0=L from List.append_nil _];exact nO ai _
    have B1:Below (w.heap.size+1) wA (wr.alloc (G #[I x.name,J x.lo,J x.hi,J x.pU,I x.on,J x.at_,I x.of,J x.YX,I x.ZR] 116)):=aK.alloc Q _;have kO:(wr.alloc (G #[I x.name,J x.lo,J x.hi,J x.pU,I x.on,J x.at_,I x.of,J x.YX,I x.ZR] 116)).heap.size=wr.heap.size+1:=M;obtain⟨e1,e2,e3,e4,e5⟩:(λz:World=>z.cell? (O wr.heap.size 1)=some (J x.lo)/\z.cell? (O wr.heap.size 2)=some (J x.hi)/\z.cell? (O wr.heap.size 3)=some (J x.pU)/\z.cell? (O wr.heap.size 4)=some (I x.on)/\z.cell? (O wr.heap.size 5)=some (J x.at_)) (wr.alloc (G #[I x.name,J x.lo,J x.hi,J x.pU,I x.on,J x.at_,I x.of,J x.YX,I x.ZR] 116)):=RQ;go_wp2_with (go_at_call 214;refine(hM _).mono ?_;rintro e wz ⟨rfl,gp⟩;have gp:=gp.symm;subst gp);have⟨wB,gn⟩:=ZL ((wr.alloc (G #[I x.name,J x.lo,J x.hi,J x.pU,I x.on,J x.at_,I x.of,J x.YX,I x.ZR] 116)));have⟨bx,ja⟩:=ZL wr.heap.size;rw[gn]at aS B1 kO e1 e2 e3 e4 e5 ⊢;rw[ja]at kO e1 e2 e3 e4 e5 qV dI ⊢;clear gn ja ai aK eM xr c0 c1 c2 c3 c4 c5 c6 c7 c8 hM;go_loopw [6,9] (λs6 s9 wq=>∃(n:Nat) (aq:Option Addr) (mq dq:Nat),s9=J (ya+n)/\s6=U aq mq dq/\(ya+n<=ye+1\/n=0)/\Zn wq (w.heap.size+1) (U aq mq dq) (L++EK k x ya n)/\some bx≠(U aq mq dq).ownBlock/\bx<wq.heap.size/\(wq.cell? (O bx 2)=some (J x.hi)/\wq.cell? (O bx 3)=some (J x.pU)/\wq.cell? (O bx 4)=some (I x.on)/\wq.cell? (O bx 5)=some (J x.at_))/\Below (w.heap.size+1) wA wq) (λ_ s9 _=>(ye+1-intOf s9).toNat)
    .exact⟨0,a6,m6,d6,M,rfl,.inr rfl,aS,qV,Q,⟨e2,e3,e4,e5⟩,B1⟩
    ·
     obtain⟨n,aq,mq,dq,rfl,rfl,sO,jn,nq,aY,⟨q2,q3,q4,q5⟩,Bq⟩:=hrel;clear aS qV B1 kO e1 e2 e3 e4 e5;have iQ:=Bq.size;have vK:=jeg k x ya n;have⟨wq,qQ⟩:=wL wr;subst qQ;by_cases hy:ya+n<=ye
     .have Ko:n<=78:=Q
      have mR:Ng (ya+n) x.pU=true:=jx9 Q Q mg.pU.1 mg.pU.2;have hO:=λw=>jkw (ya+n) x.pU x.on w mR Cs
      have ou:=j15 (s:=x.on) mR;have JS:=mg.at_.1;have gZ:=mg.at_.2;by_cases hd:M0 (ya+n) x.pU x.on= -1000000
      .have HW:Hid (EK k x ya (n+1)=EK k x ya n):=by simp only[Hid];rw[EK,jmy hd,List.append_nil]
       rw[hd]at hO;clear hd ou mR;go_wp2_with fail;refine(hN _).mono ?_;rintro e wz ⟨rfl,gp⟩;have gp:=gp.symm;subst gp;go_wp2_with fail;refine(hO _).mono ?_;rintro e w3 ⟨rfl,ar⟩;have Q2:=YR ar q2;have Q3:=YR ar q3;have Q4:=YR ar q4;have Q5:=YR ar q5;have kN:=ar.size;have el:=uZ jn ar;have B3:=Bq.trans (ar.mono Q);clear ar q2 q3 q4 q5 jn;go_wp2;go_roundw
       .exact⟨n+1,aq,mq,dq,by congr 1;omega,rfl,.inl Q,by rw[HW.out];exact el,nq,Q,⟨Q2,Q3,Q4,Q5⟩,B3⟩
       .simp[intOf];omega
      .have HW:Hid (EK k x ya (n+1)=EK k x ya n++[⟨86400*M0 (ya+n) x.pU x.on+x.at_,k⟩]):=by simp only[Hid];rw[EK,jkl hd]
       have BO:=ou.resolve_left hd;have gd:(M0 (ya+n) x.pU x.on != -1000000)=true:=by simpa using hd
       generalize M0 (ya+n) x.pU x.on=dy at *;have⟨X,hX⟩:=ZL (L++EK k x ya n);have iD:X.length<=4000:=by rw[<- hX,FB];omega
       have EE:Hid (L++EK k x ya (n+1)=X++[⟨86400*dy+x.at_,k⟩]):=by simp only[Hid];rw[HW.out, <- List.append_assoc,hX]
       rw[hX]at jn;clear hd ou mR hX HW;go_wp2_with fail;refine(hN _).mono ?_;rintro e wz ⟨rfl,gp⟩;have gp:=gp.symm;subst gp;go_wp2_with fail;refine(hO _).mono ?_;rintro e w3 ⟨rfl,ar⟩;have Q2:=YR ar q2;have Q3:=YR ar q3;have Q4:=YR ar q4;have Q5:=YR ar q5;have kN:=ar.size;have el:Zn w3 (w.heap.size+1) (U aq mq dq) X:=uZ jn ar;have B3:=Bq.trans (ar.mono Q);clear ar q2 q3 q4 q5 jn
       go_wp2_with (first
        |(at_builtin;refine wpList_append_lies _ rfl _ _ 253 rfl (w.heap.size+1) 257 i0 (.agg #[J 0,J 0]) 2 16 Tryz.underlying253 hi aG aH aF rfl RN _ _ _ rfl (nO el _) ⟨w3.heap.size,0,none⟩ 1 1 [J (86400*dy+x.at_),J k] rfl rfl ?c1 ?c2 Q ?c3 ?c4 ?c5 _ rfl ?_)
        |fail)
       case c1=>exact Ka _ [J (86400*dy+x.at_),J k] _
       case c2=>intro u hu;simp at hu;rcases hu with rfl|rfl<;>rfl
       case c3=>unfold maxLen;omega
       case c4=>omega
       case c5=>simp;omega
       intro g4 oU w4 gj af bE hlt4;have B4:Below (w.heap.size+1) wA w4:=(B3.alloc Q _).grown af RO (λj hj=>(el.lt j hj).1);have HO:Hid (Zn w4 (w.heap.size+1) (so g4 (X.length+1) oU) (L++EK k x ya (n+1))):=by simp only[Hid];rw[EE.out];exact Zn.add (p:=⟨86400*dy+x.at_,k⟩) gj
       have kb:=ZA w3 (G #[J (86400*dy+x.at_),J k] 257);have R2:=af.cell (a:=(O bx 2)) (YR kb Q2) nq;have R3:=af.cell (a:=(O bx 3)) (YR kb Q3) nq;have R4:=af.cell (a:=(O bx 4)) (YR kb Q4) nq;have R5:=af.cell (a:=(O bx 5)) (YR kb Q5) nq;have n4:=j3c (n2:=X.length+1) (c2:=oU) bE nq Q;have aD:bx<w4.heap.size:=by have:=af.size;simp at this;omega
       clear af gj el bE kb Q2 Q3 Q4 Q5 EE;go_wp2;go_roundw
       .exact⟨n+1,some (O g4 0),X.length+1,oU,by congr 1;omega,rfl,.inl Q,HO.out,n4,aD,⟨R2,R3,R4,R5⟩,B4⟩
       .simp[intOf];omega
     .have HE:Hid (LZ nm r.Vv (k+1)=L++EK k x ya n):=by simp only[Hid];rw[HT.out,HX.out n Q sO]
      go_wp2_with fail;refine(hN _).mono ?_;rintro e wz ⟨rfl,gp⟩;have gp:=gp.symm;subst gp;go_wp2;go_roundw
      .exact⟨k+1,Q,RP,by rw[HE.out];exact jn,Bq⟩
      .simp[intOf];omega
  .obtain rfl:k=r.Vv.length:=Q
   have⟨L,hL⟩:=ZL (LZ nm r.Vv r.Vv.length);have nE:=hid hL;rw[hL]at ai au;clear hL;obtain⟨a6,d6,rfl,xN,JY⟩:=ai.seq;have hW:jc0 wr (U a6 L.length d6) L:=⟨a6,d6,rfl,JY,xN⟩;by_cases h2:L.length<=2000
   .have Fx:=jm5 L.length L (U a6 L.length d6) wr (ZD _) Q hW
    go_wp2_with fail;refine Fx.mono ?_;rintro e w5 ⟨v5,s,rfl,uL,gG,aV⟩;have HR:Hid (jpi r nm s true):=.inl (by rw[nE.out];exact⟨h2,rfl,gG⟩);have B5:=Zp eM aV;obtain⟨a5,d5,rfl,JX,sl⟩:=uL;have Ic:Hid (jc0 w5 (U a5 s.length d5) s):=⟨a5,d5,rfl,JX,sl⟩;clear Fx aV gG sl;go_wp2;exact ZM (v:=.tuple #[U a5 s.length d5,.bool true]) (by simp[results,Tryz.results212,go_sem]) rfl ⟨_,s,true,rfl,Ic.out,HR.out,B5⟩
   .have HR:Hid (jpi r nm [] false):=.inr (by rw[nE.out];exact⟨h2,rfl,rfl⟩)
    go_wp2;exact ZM (v:=.tuple #[nS,.bool false]) (by simp[results,Tryz.results212,go_sem]) rfl ⟨_,[],false,rfl,⟨none,0,rfl,M,.inl rfl⟩,HR.out,eM⟩
def jeb(x:ZQ)(YV off YX:Int):Z5:=⟨if (x.of.toList==[115])=true then YV-off else if (x.of.toList==[119])=true then YV-off-YX else YV,x.YX,x.ZR⟩
theorem j2l(h:(x.of.toList==[115])=true):jeb x YV off YX=⟨YV-off,x.YX,x.ZR⟩:=by unfold jeb;rw[if_pos h]
theorem j2j(h:(x.of.toList==[115])=false)(h2:(x.of.toList==[119])=true):jeb x YV off YX=⟨YV-off-YX,x.YX,x.ZR⟩:=by unfold jeb;rw[if_neg (by rw[h];simp),if_pos h2]
theorem j2k(h:(x.of.toList==[115])=false)(h2:(x.of.toList==[119])=false):jeb x YV off YX=⟨YV,x.YX,x.ZR⟩:=by unfold jeb;rw[if_neg (by rw[h];simp),if_neg (by rw[h2];simp)]
def jdh(l:List ZQ)(off:Int)(st:List Z5 × Int)(m:ZF):List Z5 × Int:=match l[m.place]? with
 |some x=>(st.1++[jeb x m.YV off st.2],x.YX)
 |none=>st
def PP(l:List ZQ)(off:Int)(s:List ZF):List Z5 × Int:=s.foldl (jdh l off) ([],0)
theorem jgl{s:List ZF}{m:ZF}(hm:s[k]? =some m)(hx:l[m.place]? =some x):PP l off (s.take (k+1))=((PP l off (s.take k)).1++[jeb x m.YV off (PP l off (s.take k)).2],x.YX):=by
 unfold PP;rw[List.take_add_one,hm,List.foldl_append]
 show jdh l off _ m=_
 unfold jdh;rw[hx]
theorem joy{s:List ZF}(h:∀m∈s,m.place<l.length):∀k,k<=s.length->(PP l off (s.take k)).1.length=k:=by
 intro k
 induction k with
 |zero=>intro _;rfl
 |succ k ih=>
  intro hk;obtain⟨m,hm⟩:∃m,s[k]? =some m:=⟨_,ZV Q⟩;obtain⟨x,hx⟩:∃x,l[m.place]? =some x:=⟨_,ZV (h m (ui hm))⟩;rw[jgl hm hx,FB,ih Q];rfl
theorem jk7{s:List ZF}(h:∀m∈s,m.place<l.length)(hs:∀x∈l, -7200<=x.YX/\x.YX<=7200):∀k,k<=s.length-> -7200<=(PP l off (s.take k)).2/\(PP l off (s.take k)).2<=7200:=by
 intro k
 induction k with
 |zero=>intro _;exact⟨by simp[PP],by simp[PP]⟩
 |succ k ih=>
  intro hk;obtain⟨m,hm⟩:∃m,s[k]? =some m:=⟨_,ZV Q⟩;obtain⟨x,hx⟩:∃x,l[m.place]? =some x:=⟨_,ZV (h m (ui hm))⟩;rw[jgl hm hx];exact hs x (ui hx)
theorem jko(hx:Jo x){m:ZF}:∀{n:Nat},1960<=y->y+n<=2038->m∈EK i x y n->m.place=i/\ -100000000000<=m.YV/\m.YV<=300000000000:=by
 intro n
 induction n with
 |zero=>intro _ _ h;simp[EK]at h
 |succ n ih=>
  intro h1 h2 h;rw[EK,List.mem_append]at h;rcases h with h|h
  .exact ih h1 Q h
  .have hb:=j15 (s:=x.on) (jx9 (y:=y+n) (m:=x.pU) Q Q hx.pU.1 hx.pU.2)
   have ha:=hx.at_;unfold jdy at h;split at h
   .simp at h
   .rename_i az
    simp at h;subst h;refine⟨rfl,?_,?_⟩
    .show -100000000000<=86400*M0 (y+n) x.pU x.on+x.at_
     omega
    .show 86400*M0 (y+n) x.pU x.on+x.at_<=300000000000
     omega
theorem jkn(hl:∀x∈l,Jo x){m:ZF}:∀{k:Nat},m∈LZ nm l k->(∃x,l[m.place]? =some x/\(x.name.toList==nm.toList)=true)/\m.place<k/\ -100000000000<=m.YV/\m.YV<=300000000000:=by
 intro k
 induction k with
 |zero=>intro h;simp[LZ]at h
 |succ k ih=>
  intro h;rw[LZ,List.mem_append]at h;rcases h with h|h
  .have⟨h1,h2,h3⟩:=ih h
   exact⟨h1,Q,h3⟩
  .split at h
   .rename_i x hx
    split at h
    .rename_i hn
     by_cases hy:yrs x=0
     .unfold jcf at h;rw[hy]at h;simp[EK]at h
     .have⟨p1,p2⟩:=jko (hl x (ui hx)) Q (by unfold yrs at *;omega) h
      exact⟨⟨x,by rw[p1];exact hx,hn⟩,Q,p2⟩
    .simp at h
   .simp at h
theorem jpo{l s:List ZF}(h:Ja l s){m:ZF}(hm:m∈s):m∈l:=by
 have:m∈atW m.YV s:=List.mem_filter.mpr ⟨hm,M⟩;rw[h.at_]at this;exact(List.mem_filter.mp this).1
structure vgN(l:List ZQ)(s:List ZF):Prop where
 place:∀m∈s,m.place<l.length
 YV:∀m∈s, -100000000000<=m.YV/\m.YV<=300000000000
 len:s.length<=2000
theorem jya{r:ZW}{s:List ZF}{b:Bool}(hl:∀x∈r.Vv,Jo x)(h:jpi r nm s b):vgN r.Vv s:=by
 rcases h with⟨h1,_,h3⟩|⟨_,_,h3⟩
 .refine⟨λm hm=>?_,λm hm=>?_,by rw[h3.len];exact h1⟩
  .exact(jkn hl (jpo h3 hm)).2.1
  .exact(jkn hl (jpo h3 hm)).2.2
 .subst h3
  exact⟨λm hm=>by simp at hm,λm hm=>by simp at hm,M⟩
theorem jr5:(Tryz.prog.info? 223).map (λi=>(i.zero,i.size,i.bytes))=some (some (.agg #[J 0,J 0,Rn]),3,32):=RG
theorem j2m:∀r∈P.map Z5.cs,r.length=3:=λr hr=>by
 obtain⟨x,_,rfl⟩:=List.mem_map.mp hr;rfl
def Zw(w:World)(base:Nat)(v:Value)(P:List Z5):Prop:=w.ownsRow base 223 3 v P.length (P.map Z5.cs).flatten
theorem Zw.add{p:Z5}(h:w.ownsRow base 223 3 v (P.length+1) ((P.map Z5.cs).flatten++p.cs)):Zw w base v (P++[p]):=by
 unfold Zw;rw[FB,MZ,List.flatten_append]
 simpa using h
def jxz(r:ZW)(nm:ByteArray)(off:Int)(H:List Z5)(b:Bool):Prop:=∃s,jpi r nm s b/\H=(PP r.Vv off s).1
