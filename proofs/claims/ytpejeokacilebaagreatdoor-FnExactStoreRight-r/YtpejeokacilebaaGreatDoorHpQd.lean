import Derived.Test.YtpejeokacilebaaGreatDoorOwn1d
import Derived.Test.YtpejeokacilebaaGreatDoorRightWd
set_option maxRecDepth 20000
set_option maxHeartbeats 0
set_option linter.unusedSimpArgs false
open Go.RowKit
namespace Go.Proofs.YtpejeokacilebaaGreatDoor
structure WallD where
 wall:Int
 place:Nat
def WallD.cs(x:WallD):List Value:=[iv x.wall,iv x.place]
theorem jbo{l:List WallD}:∀r∈l.map WallD.cs,r.length=2:=fun r hr=>by
 obtain⟨x,_,rfl⟩:=List.mem_map.mp hr;rfl
def atW(t:Int)(l:List WallD):List WallD:=l.filter fun x=>decide (x.wall=t)
theorem atW_append(t:Int)(a b:List WallD):atW t (a++b)=atW t a++atW t b:=List.filter_append ..
theorem jcn{t:Int}{x:WallD}(l:List WallD)(h:x.wall=t):atW t (x::l)=x::atW t l:=List.filter_cons_of_pos (by simpa using h)
theorem jer{t:Int}{x:WallD}(l:List WallD)(h:x.wall≠t):atW t (x::l)=atW t l:=List.filter_cons_of_neg (by simpa using h)
theorem jmq{t:Int}{l:List WallD}(h:∀x∈l,t<x.wall):atW t l=[]:=by
 unfold atW
 rw[List.filter_eq_nil_iff]
 intro x hx
 have:=h x hx
 simp
 omega
def UpW(l:List WallD):Prop:=l.Pairwise fun a b=>a.wall<=b.wall
structure Ja(l s:List WallD):Prop where
 up:UpW s
 at_:∀t,atW t s=atW t l
 len:s.length=l.length
theorem jfl{l:List WallD}(h:l.length<2):Ja l l:=by
 refine⟨?_,fun _=>rfl,rfl⟩
 match l,h with
 |[],_=>exact List.Pairwise.nil
 |[x],_=>exact List.pairwise_singleton _ _
def mergeWA(x:WallD)(f:List WallD->List WallD):List WallD->List WallD
 |[]=>x::f []
 |y::b=>if x.wall<=y.wall then x::f (y::b)else y::mergeWA x f b
def ja0:List WallD->List WallD->List WallD
 |[],b=>b
 |x::a,b=>mergeWA x (ja0 a) b
theorem jcw(b:List WallD):ja0 [] b=b:=rfl
theorem jek(a:List WallD):ja0 a []=a:=by
 induction a with
 |nil=>rfl
 |cons x a ih=>rw[ja0,mergeWA,ih]
theorem jf9{x y:WallD}{a b:List WallD}(h:x.wall<=y.wall):ja0 (x::a) (y::b)=x::ja0 a (y::b):=by rw[ja0,mergeWA,if_pos h]
theorem jfb{x y:WallD}{a b:List WallD}(h:¬x.wall<=y.wall):ja0 (x::a) (y::b)=y::ja0 (x::a) b:=by rw[ja0,mergeWA,if_neg h,ja0]
theorem jno:∀{n:Nat} {a b:List WallD} {z:WallD},a.length+b.length<=n->(z∈ja0 a b↔z∈a\/z∈b):=by
 intro n
 induction n with
 |zero=>
  intro a b z h
  obtain rfl:a=[]:=List.length_eq_zero_iff.mp (by omega)
  rw[jcw];simp
 |succ n ih=>
  intro a b z h
  match a,b with
  |[],b=>rw[jcw];simp
  |x::a,[]=>rw[jek];simp
  |x::a,y::b=>
   by_cases hc:x.wall<=y.wall
   ·rw[jf9 hc,List.mem_cons,ih (by simp at h ⊢;omega),List.mem_cons,List.mem_cons]
    constructor
    ·rintro(h|h|h)
     ·exact .inl (.inl h)
     ·exact .inl (.inr h)
     ·exact .inr h
    ·rintro((h|h)|h)
     ·exact .inl h
     ·exact .inr (.inl h)
     ·exact .inr (.inr h)
   ·rw[jfb hc,List.mem_cons,ih (by simp at h ⊢;omega),List.mem_cons,List.mem_cons]
    constructor
    ·rintro(h|h|h)
     ·exact .inr (.inl h)
     ·exact .inl h
     ·exact .inr (.inr h)
    ·rintro(h|h|h)
     ·exact .inr (.inl h)
     ·exact .inl h
     ·exact .inr (.inr h)
theorem jv7:∀{n:Nat} {a b:List WallD},a.length+b.length<=n->UpW a->UpW b->Ja (a++b) (ja0 a b):=by
 intro n
 induction n with
 |zero=>
  intro a b h ha hb
  obtain rfl:a=[]:=List.length_eq_zero_iff.mp (by omega)
  rw[jcw]
  exact⟨hb,fun _=>rfl,rfl⟩
 |succ n ih=>
  intro a b h ha hb
  match a,b with
  |[],b=>rw[jcw];exact⟨hb,fun _=>rfl,rfl⟩
  |x::a,[]=>rw[jek,List.append_nil];exact⟨ha,fun _=>rfl,rfl⟩
  |x::a,y::b=>
   have jF:=List.pairwise_cons.mp ha
   have sy:=List.pairwise_cons.mp hb
   by_cases hc:x.wall<=y.wall
   ·have:=ih (a:=a) (b:=y::b) (by simp at h ⊢;omega) jF.2 hb
    rw[jf9 hc]
    refine⟨List.pairwise_cons.mpr ⟨fun z hz=>?_,this.up⟩,fun t=>?_,by simp[this.len]⟩
    ·rcases(jno (nlr _)).mp hz with e|e
     ·exact jF.1 z e
     ·rcases List.mem_cons.mp e with e|e
      ·subst e;exact hc
      ·have:=sy.1 z e;omega
    ·rw[List.cons_append]
     by_cases ht:x.wall=t
     ·rw[jcn _ ht,jcn _ ht,this.at_]
     ·rw[jer _ ht,jer _ ht,this.at_]
   ·have:=ih (a:=x::a) (b:=b) (by simp at h ⊢;omega) ha sy.2
    rw[jfb hc]
    refine⟨List.pairwise_cons.mpr ⟨fun z hz=>?_,this.up⟩,fun t=>?_,by simp[this.len];omega⟩
    ·rcases(jno (nlr _)).mp hz with e|e
     ·rcases List.mem_cons.mp e with e|e
      ·subst e;omega
      ·have:=jF.1 z e;omega
     ·exact sy.1 z e
    ·by_cases ht:y.wall=t
     ·rw[jcn _ ht,this.at_,atW_append,atW_append,jcn _ ht,jmq (l:=x::a)]
      ·rfl
      ·intro z hz
       rcases List.mem_cons.mp hz with e|e
       ·subst e;omega
       ·have:=jF.1 z e;omega
     ·rw[jer _ ht,this.at_,atW_append,atW_append,jer _ ht]
theorem jm3{l1 l2 s1 s2:List WallD}(h1:Ja l1 s1)(h2:Ja l2 s2):Ja (l1++l2) (ja0 s1 s2):=by
 have h:=jv7 (nlr _) h1.up h2.up
 refine⟨h.up,fun t=>?_,by rw[h.len,lla,lla,h1.len,h2.len]⟩
 rw[h.at_,atW_append,atW_append,h1.at_,h2.at_]
theorem jvc:∀{s1 s2:List WallD},UpW s1->UpW s2->(∀t,atW t s1=atW t s2)->s1=s2:=by
 intro s1
 induction s1 with
 |nil=>
  intro s2 _ _ h
  cases s2 with
  |nil=>rfl
  |cons y s2=>have:=h y.wall;rw[jcn _ rfl]at this;simp[atW]at this
 |cons x s1 ih=>
  intro s2 h1 h2 h
  have ES:=List.pairwise_cons.mp h1
  cases s2 with
  |nil=>have:=h x.wall;rw[jcn _ rfl]at this;simp[atW]at this
  |cons y s2=>
   have rZ:=List.pairwise_cons.mp h2
   have hw:x.wall=y.wall:=by
    rcases Int.lt_trichotomy x.wall y.wall with e|e|e
    ·have:=h x.wall
     rw[jcn _ rfl,jmq (l:=y::s2)]at this
     ·cases this
     ·intro z hz
      rcases List.mem_cons.mp hz with e2|e2
      ·subst e2;exact e
      ·have:=rZ.1 z e2;omega
    ·exact e
    ·have:=h y.wall
     rw[jcn (x:=y) _ rfl,jmq (l:=x::s1)]at this
     ·cases this
     ·intro z hz
      rcases List.mem_cons.mp hz with e2|e2
      ·subst e2;exact e
      ·have:=ES.1 z e2;omega
   have gI:=h x.wall
   rw[jcn _ rfl,jcn _ hw.symm]at gI
   injection gI with e1 e2
   subst e1
   rw[ih ES.2 rZ.2 fun t=>?_]
   have:=h t
   by_cases ht:x.wall=t
   ·rw[jcn _ ht,jcn _ ht]at this
    injection this
   ·rw[jer _ ht,jer _ ht]at this
    exact this
theorem jr2:(Tryz.prog.info? 221).map (fun i=>(i.zero,i.size,i.bytes))=some (some (.agg #[iv 0,iv 0]),2,16):=by kernel_rfl
def Zn(w:World)(base:Nat)(v:Value)(P:List WallD):Prop:=w.ownsRow base 221 2 v P.length (P.map WallD.cs).flatten
theorem Zn.add{w:World}{base:Nat}{v:Value}{P:List WallD}{p:WallD}(h:w.ownsRow base 221 2 v (P.length+1) ((P.map WallD.cs).flatten++p.cs)):Zn w base v (P++[p]):=by
 unfold Zn
 rw[lla,lma,List.flatten_append]
 simpa using h
theorem Zn.seq{w:World}{base:Nat}{v:Value}{P:List WallD}(h:Zn w base v P):∃a cap,v=.slice a P.length cap/\Za w a 2 (P.map WallD.cs)/\P.length<=cap:=by
 obtain⟨a,cap,h1,h2,h3⟩:=jbe (rows:=P.map WallD.cs) (by rw[llm];exact h) jbo
 rw[llm]at h1 h3
 exact⟨a,cap,h1,h2,h3⟩
def jc0(w:World)(v:Value)(l:List WallD):Prop:=∃a cap,v=.slice a l.length cap/\l.length<=cap/\Za w a 2 (l.map WallD.cs)
theorem Zn.walls{w:World}{base:Nat}{v:Value}{P:List WallD}(h:Zn w base v P):jc0 w v P:=by
 obtain⟨a,cap,h1,h2,h3⟩:=h.seq
 exact⟨a,cap,h1,h3,h2⟩
theorem jyn{l:List WallD}{k:Nat}{s1 s2:List WallD}(h1:Ja (l.take k) s1)(h2:Ja (l.drop k) s2):Ja l (ja0 s1 s2):=by
 have:=jm3 h1 h2
 rw[List.take_append_drop]at this
 exact this
theorem jm5(N:Nat):∀(l:List WallD) (v:Value) (w:World),l.length<=N->l.length<=4000->jc0 w v l->
  Cl 184 #[v] w fun e W'=>∃v' s,e=.returned v'/\jc0 W' v' s/\Ja l s/\Bw w W':=by
 induction N with
 |zero=>
  intro l v w h0 _ hv
  obtain⟨a,cap,rfl,eh,hA⟩:=hv
  have HR:Hid (Ja l l):=jfl (by omega)
  have HA:Hid (jc0 w (.slice a l.length cap) l):=⟨a,cap,rfl,eh,hA⟩
  unfold Cl;go_in
  go_wp2
  go_ret
  exact⟨_,l,rfl,HA.out,HR.out,brf _ _⟩
 |succ N ih=>
  intro l v w h0 h4 hv
  obtain⟨a,cap,rfl,eh,hA⟩:=hv
  by_cases h2:l.length<2
  ·have HR:Hid (Ja l l):=jfl h2
   have HA:Hid (jc0 w (.slice a l.length cap) l):=⟨a,cap,rfl,eh,hA⟩
   unfold Cl;go_in
   go_wp2
   go_ret
   exact⟨_,l,rfl,HA.out,HR.out,brf _ _⟩
  ·obtain⟨i0,hi,aG,aH,aF⟩:=info_parts jr2
   obtain⟨f,hf⟩:∃f,l[0]? =some f:=⟨_,lgg (by omega)⟩
   obtain⟨b,o,rfl,hc⟩:=hA.at (i:=0) (r:=f.cs) (by rw[lgm,hf];rfl)
   clear hc hf
   have lk:(l.take (l.length / 2)).length=l.length / 2:=by rw[List.length_take];omega
   have ld:(l.drop (l.length / 2)).length=l.length-l.length / 2:=by rw[List.length_drop]
   have T1:Za w (some (ad b o)) 2 ((l.take (l.length / 2)).map WallD.cs):=by rw[List.map_take];exact hA.take _
   have T2:Za w (some (ad b (o+l.length / 2*2))) 2 ((l.drop (l.length / 2)).map WallD.cs):=by rw[List.map_drop];exact hA.drop
   have HM:Hid (∀s1 s2,Ja (l.take (l.length / 2)) s1->Ja (l.drop (l.length / 2)) s2->Ja l (ja0 s1 s2)):=fun s1 s2 h1 h2=>jyn h1 h2
   have se:=fun v w h=>ih (l.take (l.length / 2)) v w (by omega) (by omega) h
   have nX:=fun v w h=>ih (l.drop (l.length / 2)) v w (by omega) (by omega) h
   obtain⟨l1,e1⟩:=qeb (l.take (l.length / 2))
   obtain⟨l2,e2⟩:=qeb (l.drop (l.length / 2))
   rw[e1]at lk T1 HM se
   rw[e2]at ld T2 HM nX
   clear e1 e2 ih
   have f1:(l1.map WallD.cs).flatten.length=l.length / 2*2:=by rw[jbx jbo,llm,lk]
   have f2:(l2.map WallD.cs).flatten.length=(l.length-l.length / 2)*2:=by rw[jbx jbo,llm,ld]
   have one:∀(m:List WallD) u,u∈(m.map WallD.cs).flatten->u.oneCell'=true:=fun m u hu=>by
    obtain⟨r,hr,hu⟩:=List.mem_flatten.mp hu
    obtain⟨x,_,rfl⟩:=List.mem_map.mp hr
    simp[WallD.cs]at hu
    rcases hu with rfl|rfl<;>rfl
   have o1:=one l1
   have o2:=one l2
   clear one
   have HN:Hid (l.length=l1.length+l2.length):=by simp only[Hid];omega
   have tk:((l.length:Int) / 2).toNat=l.length / 2:=by omega
   have bk:(0:Int)<=(l.length:Int) / 2:=by omega
   have EL:(l.length:Int) / 2<=(cap:Int):=by omega
   have Iq:(l.length:Int) / 2<=(l.length:Int):=by omega
   have iH:¬cap=l.length / 2:=by omega
   have HK:Hid (l1.length=l.length / 2/\l2.length=l.length-l.length / 2):=⟨lk,ld⟩
   clear lk ld
   have n1:=T1.flat jbo
   have Ex:Hid (∀w2,Bw w w2->∀j u,(l2.map WallD.cs).flatten[j]? =some u->w2.cell? (((ad b (o+l.length / 2*2)):Addr).add j)=some u):=fun w2 hb=>(T2.below hb).flat jbo
   have GI:∀j u,(l1.map WallD.cs).flatten[j]? =some u->(w.alloc (.cells #[] 221)).cell? (((ad b o):Addr).add j)=some u:=(T1.below (qal w _)).flat jbo
   have hE:=ja5 w 221 2
   unfold Cl;go_in
   go_wp2_with (first
    |(at_builtin;refine wpList_append_own _ rfl _ _ 217 rfl w.heap.size 221 i0 (.agg #[iv 0,iv 0]) 2 16 Tryz.underlying217 hi aG aH aF rfl (by decide) _ _ _ rfl hE ⟨b,o,none⟩ (l.length / 2) cap (l1.map WallD.cs).flatten rfl f1 GI o1 ?d3 ?d4 ?d5 ?_)
    |fail)
   case d3=>unfold maxLen;omega
   case d4=>omega
   case d5=>simp
   intro v1 w1 av aP _
   have aj:Bw w w1:=(qal w _).grown aP (by simp) (fun j hj=>(hE.lt j hj).1)
   have j7:jc0 w1 v1 l1:=Zn.walls (base:=w.heap.size) (by unfold Zn;rw[HK.out.1];exact av)
   obtain⟨a1,m1,c1,rfl⟩:=jad av
   clear aP hE av GI o1 f1
   go_wp2_with fail
   refine(se _ _ j7).mono ?_
   rintro e w2 ⟨v2,s1,rfl,sq,bU,ac⟩
   have an:=qtr aj ac
   obtain⟨a2,c2,rfl,cU,qf⟩:=sq
   clear j7 ac se
   have hE:=ja5 w2 221 2
   have BN:Bw w (w2.alloc (.cells #[] 221)):=an.alloc an.size _
   have n2:=Ex.out _ BN
   go_wp2_with (first
    |(at_builtin;refine wpList_append_own _ rfl _ _ 217 rfl w2.heap.size 221 i0 (.agg #[iv 0,iv 0]) 2 16 Tryz.underlying217 hi aG aH aF rfl (by decide) _ _ _ rfl hE ⟨b,o+l.length / 2*2,none⟩ (l.length-l.length / 2) (cap-l.length / 2) (l2.map WallD.cs).flatten rfl f2 n2 o2 ?e3 ?e4 ?e5 ?_)
    |fail)
   case e3=>unfold maxLen;omega
   case e4=>omega
   case e5=>simp
   intro v3 w3 aI aJ _
   have ar:Bw w2 w3:=(qal w2 _).grown aJ (by simp) (fun j hj=>(hE.lt j hj).1)
   have ax:=qtr an ar
   have qo:jc0 w3 v3 l2:=Zn.walls (base:=w2.heap.size) (by unfold Zn;rw[HK.out.2];exact aI)
   have Fs:=qf.below ar
   obtain⟨a3,m3,c3,rfl⟩:=jad aI
   clear aJ hE aI n2 o2 f2 ar qf
   go_wp2_with fail
   refine(nX _ _ qo).mono ?_
   rintro e w4 ⟨v4,s2,rfl,JN,dR,aD⟩
   have aR:=qtr ax aD
   obtain⟨a4,c4,rfl,FO,uH⟩:=JN
   have Fq:=Fs.below aD
   clear qo aD nX Fs Ex T1 T2 n1 hA
   have HR:Hid (Ja l (ja0 s1 s2)):=HM.out s1 s2 bU dR
   have au:s1.length+s2.length<=4000:=by have:=bU.len;have:=dR.len;have:=HN.out;omega
   clear HM bU dR
   have hE:Zn (w4.alloc (.cells #[] 221)) w4.heap.size (.slice (some (ad w4.heap.size 0)) 0 0) []:=ja5 w4 221 2
   go_wp2
   go_loopw [4,5,6] (fun x4 x5 x6 wr=>∃(aa ab:Option Addr) (ca cb na nb:Nat) (ra rb out:List WallD),x4=.slice aa na ca/\Hid (ra.length=na)/\na<=ca/\Za w4 aa 2 (ra.map WallD.cs)/\x5=.slice ab nb cb/\Hid (rb.length=nb)/\nb<=cb/\Za w4 ab 2 (rb.map WallD.cs)/\Zn wr w4.heap.size x6 out/\Hid (out++ja0 ra rb=ja0 s1 s2)/\out.length+na+nb<=4000/\Bw w4 wr) (fun x4 x5 _ _=>(match x4 with|.slice _ n _=>n|_=>0)+(match x5 with|.slice _ n _=>n|_=>0))
   case atStart=>exact⟨a2,a4,c2,c4,_,_,s1,s2,[],rfl,rfl,cU,Fq,rfl,rfl,FO,uH,hE,rfl,by simpa using au,qal _ _⟩
   case round=>
    clear hE cU Fq FO uH au
    obtain⟨aa,ab,ca,cb,na,nb,ra,rb,out,rfl,HA,xU,og,rfl,HB,sA,oi,ai,HG,au,aK⟩:=hrel
    have dI:=aK.size
    have eM:=qtr aR aK
    obtain⟨a6,m6,c6,rfl⟩:=jad ai
    cases hra:ra with
    |nil=>
     subst hra
     obtain rfl:na=0:=HA.out.symm
     cases hrb:rb with
     | nil=>
      subst hrb
      obtain rfl:nb=0:=HB.out.symm
      have HX:Hid (out=ja0 s1 s2):=by
       have:=HG.out
       rw[jcw,List.append_nil]at this
       exact this
      have HO:Hid (jc0 wr (.slice a6 m6 c6) (ja0 s1 s2)):=by simp only[Hid];rw[<- HX.out];exact ai.walls
      clear HG
      go_wp2
      go_ret
      exact⟨_,_,rfl,HO.out,HR.out,eM⟩
     |cons y gJ=>
      subst hrb
      have jK:Hid ((out++[y])++ja0 [] gJ=ja0 s1 s2):=by
       have:=HG.out
       rw[jcw]at this
       simp only[Hid]
       rw[jcw, <- this];simp
      obtain⟨bb,ob,rfl,qy⟩:=(oi.below aK).at (i:=0) (r:=y.cs) rfl
      have pb:0<nb:=by have:=HB.out;simp at this;omega
      have eb:((nb:Int)==0)=false:=by simp;omega
      have db:decide ((0:Int)<(nb:Int))=true:=by simp;omega
      have IA:decide (0<nb)=true:=by simp;omega
      have Lk:(1:Int)<=(nb:Int):=by omega
      have Ll:(0:Int)<(nb:Int):=by omega
      have Iy:wr.cell? (ad bb ob)=some (iv y.wall):=by simpa using qy 0 _ rfl
      have Iz:wr.cell? (ad bb (ob+1))=some (iv y.place):=by simpa using qy 1 _ rfl
      have qg:Za w4 (some (ad bb (ob+2))) 2 (gJ.map WallD.cs):=by simpa using oi.drop (m:=1)
      clear qy
      by_cases aX:cb=1
      ·have hn:gJ=[]:=List.length_eq_zero_iff.mp (by have:=HB.out;simp at this;omega)
       subst hn aX
       obtain rfl:nb=1:=by omega
       clear HG
       go_wp2_with fail
       go_quiet (fail)
       go_wp2_with (first
        |(at_builtin;refine wpList_append_own _ rfl _ _ 217 rfl w4.heap.size 221 i0 (.agg #[iv 0,iv 0]) 2 16 Tryz.underlying217 hi aG aH aF rfl (by decide) _ _ _ rfl (woa ai _) ⟨wr.heap.size,0,none⟩ 1 1 [iv y.wall,iv y.place] rfl rfl ?c1a1 ?c2a1 ?c3a1 ?c4a1 ?c5a1 ?_)
        |fail)
       case c1a1=>exact jah _ [iv y.wall,iv y.place] _
       case c2a1=>intro u hu;simp at hu;rcases hu with rfl|rfl<;>rfl
       case c3a1=>unfold maxLen;omega
       case c4a1=>omega
       case c5a1=>simp;omega
       intro v' wn ao af _
       have df:Bw w4 wn:=(Below.alloc (below_drewN aK _) (by simp;omega) _).grown af (by simp;omega) (fun j hj=>(ai.lt j hj).1)
       have HO:Hid (Zn wn w4.heap.size v' (out++[y])):=Zn.add (p:=y) ao
       obtain⟨a7,m7,c7,rfl⟩:=jad ao
       clear af ao ai
       go_wp2
       go_roundw
       case rel=>exact⟨_,_,_,_,0,0,[],[],out++[y],rfl,rfl,xU,og,rfl,rfl,by omega,.inl rfl,HO.out,jK,by simp;omega,df⟩
       case measure=>simp
      ·clear HG
       go_wp2_with fail
       go_quiet (fail)
       go_wp2_with (first
        |(at_builtin;refine wpList_append_own _ rfl _ _ 217 rfl w4.heap.size 221 i0 (.agg #[iv 0,iv 0]) 2 16 Tryz.underlying217 hi aG aH aF rfl (by decide) _ _ _ rfl (woa ai _) ⟨wr.heap.size,0,none⟩ 1 1 [iv y.wall,iv y.place] rfl rfl ?c1a2 ?c2a2 ?c3a2 ?c4a2 ?c5a2 ?_)
        |fail)
       case c1a2=>exact jah _ [iv y.wall,iv y.place] _
       case c2a2=>intro u hu;simp at hu;rcases hu with rfl|rfl<;>rfl
       case c3a2=>unfold maxLen;omega
       case c4a2=>omega
       case c5a2=>simp;omega
       intro v' wn ao af _
       have df:Bw w4 wn:=(Below.alloc (below_drewN aK _) (by simp;omega) _).grown af (by simp;omega) (fun j hj=>(ai.lt j hj).1)
       have HO:Hid (Zn wn w4.heap.size v' (out++[y])):=Zn.add (p:=y) ao
       obtain⟨a7,m7,c7,rfl⟩:=jad ao
       clear af ao ai
       go_wp2
       go_roundw
       case rel=>exact⟨_,_,_,_,0,nb-1,[],gJ,out++[y],rfl,rfl,xU,og,rfl,by have:=HB.out;simp at this;simp only[Hid];omega,by omega,qg,HO.out,jK,by simp;omega,df⟩
       case measure=>simp;omega
    |cons x ra'=>
     subst hra
     obtain⟨ba,oa,rfl,dY⟩:=(og.below aK).at (i:=0) (r:=x.cs) rfl
     have pa:0<na:=by have:=HA.out;simp at this;omega
     have ea:((na:Int)==0)=false:=by simp;omega
     have da:decide ((0:Int)<(na:Int))=true:=by simp;omega
     have Om:decide (0<na)=true:=by simp;omega
     have PC:(1:Int)<=(na:Int):=by omega
     have PD:(0:Int)<(na:Int):=by omega
     have Oj:wr.cell? (ad ba oa)=some (iv x.wall):=by simpa using dY 0 _ rfl
     have Ok:wr.cell? (ad ba (oa+1))=some (iv x.place):=by simpa using dY 1 _ rfl
     have uI:Za w4 (some (ad ba (oa+2))) 2 (ra'.map WallD.cs):=by simpa using og.drop (m:=1)
     clear dY
     cases hrb:rb with
     |nil=>
      subst hrb
      obtain rfl:nb=0:=HB.out.symm
      have jK:Hid ((out++[x])++ja0 ra' []=ja0 s1 s2):=by
       have:=HG.out
       rw[jek]at this
       simp only[Hid]
       rw[jek, <- this];simp
      by_cases aX:ca=1
      ·have hn:ra'=[]:=List.length_eq_zero_iff.mp (by have:=HA.out;simp at this;omega)
       subst hn aX
       obtain rfl:na=1:=by omega
       clear HG
       go_wp2_with fail
       go_quiet (fail)
       go_wp2_with (first
        |(at_builtin;refine wpList_append_own _ rfl _ _ 217 rfl w4.heap.size 221 i0 (.agg #[iv 0,iv 0]) 2 16 Tryz.underlying217 hi aG aH aF rfl (by decide) _ _ _ rfl (woa ai _) ⟨wr.heap.size,0,none⟩ 1 1 [iv x.wall,iv x.place] rfl rfl ?c1b1 ?c2b1 ?c3b1 ?c4b1 ?c5b1 ?_)
        |fail)
       case c1b1=>exact jah _ [iv x.wall,iv x.place] _
       case c2b1=>intro u hu;simp at hu;rcases hu with rfl|rfl<;>rfl
       case c3b1=>unfold maxLen;omega
       case c4b1=>omega
       case c5b1=>simp;omega
       intro v' wn ao af _
       have df:Bw w4 wn:=(Below.alloc (below_drewN aK _) (by simp;omega) _).grown af (by simp;omega) (fun j hj=>(ai.lt j hj).1)
       have HO:Hid (Zn wn w4.heap.size v' (out++[x])):=Zn.add (p:=x) ao
       obtain⟨a7,m7,c7,rfl⟩:=jad ao
       clear af ao ai
       go_wp2
       go_roundw
       case rel=>exact⟨_,_,_,_,0,0,[],[],out++[x],rfl,rfl,by omega,.inl rfl,rfl,rfl,sA,oi,HO.out,jK,by simp;omega,df⟩
       case measure=>simp
      ·clear HG
       go_wp2_with fail
       go_quiet (fail)
       go_wp2_with (first
        |(at_builtin;refine wpList_append_own _ rfl _ _ 217 rfl w4.heap.size 221 i0 (.agg #[iv 0,iv 0]) 2 16 Tryz.underlying217 hi aG aH aF rfl (by decide) _ _ _ rfl (woa ai _) ⟨wr.heap.size,0,none⟩ 1 1 [iv x.wall,iv x.place] rfl rfl ?c1b2 ?c2b2 ?c3b2 ?c4b2 ?c5b2 ?_)
        |fail)
       case c1b2=>exact jah _ [iv x.wall,iv x.place] _
       case c2b2=>intro u hu;simp at hu;rcases hu with rfl|rfl<;>rfl
       case c3b2=>unfold maxLen;omega
       case c4b2=>omega
       case c5b2=>simp;omega
       intro v' wn ao af _
       have df:Bw w4 wn:=(Below.alloc (below_drewN aK _) (by simp;omega) _).grown af (by simp;omega) (fun j hj=>(ai.lt j hj).1)
       have HO:Hid (Zn wn w4.heap.size v' (out++[x])):=Zn.add (p:=x) ao
       obtain⟨a7,m7,c7,rfl⟩:=jad ao
       clear af ao ai
       go_wp2
       go_roundw
       case rel=>exact⟨_,_,_,_,na-1,0,ra',[],out++[x],rfl,by have:=HA.out;simp at this;simp only[Hid];omega,by omega,uI,rfl,rfl,sA,oi,HO.out,jK,by simp;omega,df⟩
       case measure=>simp;omega
     |cons y gJ=>
      subst hrb
      obtain⟨bb,ob,rfl,qy⟩:=(oi.below aK).at (i:=0) (r:=y.cs) rfl
      have pb:0<nb:=by have:=HB.out;simp at this;omega
      have eb:((nb:Int)==0)=false:=by simp;omega
      have db:decide ((0:Int)<(nb:Int))=true:=by simp;omega
      have IA:decide (0<nb)=true:=by simp;omega
      have Lk:(1:Int)<=(nb:Int):=by omega
      have Ll:(0:Int)<(nb:Int):=by omega
      have Iy:wr.cell? (ad bb ob)=some (iv y.wall):=by simpa using qy 0 _ rfl
      have Iz:wr.cell? (ad bb (ob+1))=some (iv y.place):=by simpa using qy 1 _ rfl
      have qg:Za w4 (some (ad bb (ob+2))) 2 (gJ.map WallD.cs):=by simpa using oi.drop (m:=1)
      clear qy
      by_cases gI:x.wall<=y.wall
      ·have jK:Hid ((out++[x])++ja0 ra' (y::gJ)=ja0 s1 s2):=by
        have:=HG.out
        rw[jf9 gI]at this
        simp only[Hid]
        rw[<- this];simp
       have IB:decide (x.wall<=y.wall)=true:=dte gI
       by_cases aX:ca=1
       ·have hn:ra'=[]:=List.length_eq_zero_iff.mp (by have:=HA.out;simp at this;omega)
        subst hn aX
        obtain rfl:na=1:=by omega
        clear HG
        go_wp2_with fail
        go_quiet (fail)
        go_wp2_with (first
         |(at_builtin;refine wpList_append_own _ rfl _ _ 217 rfl w4.heap.size 221 i0 (.agg #[iv 0,iv 0]) 2 16 Tryz.underlying217 hi aG aH aF rfl (by decide) _ _ _ rfl (woa ai _) ⟨wr.heap.size,0,none⟩ 1 1 [iv x.wall,iv x.place] rfl rfl ?c1c1 ?c2c1 ?c3c1 ?c4c1 ?c5c1 ?_)
         |fail)
        case c1c1=>exact jah _ [iv x.wall,iv x.place] _
        case c2c1=>intro u hu;simp at hu;rcases hu with rfl|rfl<;>rfl
        case c3c1=>unfold maxLen;omega
        case c4c1=>omega
        case c5c1=>simp;omega
        intro v' wn ao af _
        have df:Bw w4 wn:=(Below.alloc (below_drewN aK _) (by simp;omega) _).grown af (by simp;omega) (fun j hj=>(ai.lt j hj).1)
        have HO:Hid (Zn wn w4.heap.size v' (out++[x])):=Zn.add (p:=x) ao
        obtain⟨a7,m7,c7,rfl⟩:=jad ao
        clear af ao ai
        go_wp2
        go_roundw
        case rel=>exact⟨_,_,_,_,0,nb,[],(y::gJ),out++[x],rfl,rfl,by omega,.inl rfl,rfl,HB,sA,oi,HO.out,jK,by simp;omega,df⟩
        case measure=>simp
       ·clear HG
        go_wp2_with fail
        go_quiet (fail)
        go_wp2_with (first
         |(at_builtin;refine wpList_append_own _ rfl _ _ 217 rfl w4.heap.size 221 i0 (.agg #[iv 0,iv 0]) 2 16 Tryz.underlying217 hi aG aH aF rfl (by decide) _ _ _ rfl (woa ai _) ⟨wr.heap.size,0,none⟩ 1 1 [iv x.wall,iv x.place] rfl rfl ?c1c2 ?c2c2 ?c3c2 ?c4c2 ?c5c2 ?_)
         |fail)
        case c1c2=>exact jah _ [iv x.wall,iv x.place] _
        case c2c2=>intro u hu;simp at hu;rcases hu with rfl|rfl<;>rfl
        case c3c2=>unfold maxLen;omega
        case c4c2=>omega
        case c5c2=>simp;omega
        intro v' wn ao af _
        have df:Bw w4 wn:=(Below.alloc (below_drewN aK _) (by simp;omega) _).grown af (by simp;omega) (fun j hj=>(ai.lt j hj).1)
        have HO:Hid (Zn wn w4.heap.size v' (out++[x])):=Zn.add (p:=x) ao
        obtain⟨a7,m7,c7,rfl⟩:=jad ao
        clear af ao ai
        go_wp2
        go_roundw
        case rel=>exact⟨_,_,_,_,na-1,nb,ra',(y::gJ),out++[x],rfl,by have:=HA.out;simp at this;simp only[Hid];omega,by omega,uI,rfl,HB,sA,oi,HO.out,jK,by simp;omega,df⟩
        case measure=>simp;omega
      ·have jK:Hid ((out++[y])++ja0 (x::ra') gJ=ja0 s1 s2):=by
        have:=HG.out
        rw[jfb gI]at this
        simp only[Hid]
        rw[<- this];simp
       have IB:decide (x.wall<=y.wall)=false:=dfe gI
       by_cases aX:cb=1
       ·have hn:gJ=[]:=List.length_eq_zero_iff.mp (by have:=HB.out;simp at this;omega)
        subst hn aX
        obtain rfl:nb=1:=by omega
        clear HG
        go_wp2_with fail
        go_quiet (fail)
        go_wp2_with (first
         |(at_builtin;refine wpList_append_own _ rfl _ _ 217 rfl w4.heap.size 221 i0 (.agg #[iv 0,iv 0]) 2 16 Tryz.underlying217 hi aG aH aF rfl (by decide) _ _ _ rfl (woa ai _) ⟨wr.heap.size,0,none⟩ 1 1 [iv y.wall,iv y.place] rfl rfl ?c1d1 ?c2d1 ?c3d1 ?c4d1 ?c5d1 ?_)
         |fail)
        case c1d1=>exact jah _ [iv y.wall,iv y.place] _
        case c2d1=>intro u hu;simp at hu;rcases hu with rfl|rfl<;>rfl
        case c3d1=>unfold maxLen;omega
        case c4d1=>omega
        case c5d1=>simp;omega
        intro v' wn ao af _
        have df:Bw w4 wn:=(Below.alloc (below_drewN aK _) (by simp;omega) _).grown af (by simp;omega) (fun j hj=>(ai.lt j hj).1)
        have HO:Hid (Zn wn w4.heap.size v' (out++[y])):=Zn.add (p:=y) ao
        obtain⟨a7,m7,c7,rfl⟩:=jad ao
        clear af ao ai
        go_wp2
        go_roundw
        case rel=>exact⟨_,_,_,_,na,0,(x::ra'),[],out++[y],rfl,HA,xU,og,rfl,rfl,by omega,.inl rfl,HO.out,jK,by simp;omega,df⟩
        case measure=>simp
       ·clear HG
        go_wp2_with fail
        go_quiet (fail)
        go_wp2_with (first
         |(at_builtin;refine wpList_append_own _ rfl _ _ 217 rfl w4.heap.size 221 i0 (.agg #[iv 0,iv 0]) 2 16 Tryz.underlying217 hi aG aH aF rfl (by decide) _ _ _ rfl (woa ai _) ⟨wr.heap.size,0,none⟩ 1 1 [iv y.wall,iv y.place] rfl rfl ?c1d2 ?c2d2 ?c3d2 ?c4d2 ?c5d2 ?_)
         |fail)
        case c1d2=>exact jah _ [iv y.wall,iv y.place] _
        case c2d2=>intro u hu;simp at hu;rcases hu with rfl|rfl<;>rfl
        case c3d2=>unfold maxLen;omega
        case c4d2=>omega
        case c5d2=>simp;omega
        intro v' wn ao af _
        have df:Bw w4 wn:=(Below.alloc (below_drewN aK _) (by simp;omega) _).grown af (by simp;omega) (fun j hj=>(ai.lt j hj).1)
        have HO:Hid (Zn wn w4.heap.size v' (out++[y])):=Zn.add (p:=y) ao
        obtain⟨a7,m7,c7,rfl⟩:=jad ao
        clear af ao ai
        go_wp2
        go_roundw
        case rel=>exact⟨_,_,_,_,na,nb-1,(x::ra'),gJ,out++[y],rfl,HA,xU,og,rfl,by have:=HB.out;simp at this;simp only[Hid];omega,by omega,qg,HO.out,jK,by simp;omega,df⟩
        case measure=>simp;omega
def jdy(i:Nat)(x:RuleD)(y:Int):List WallD:=if moV y x.month x.on= -1000000 then []else [⟨86400*moV y x.month x.on+x.at_,i⟩]
def wallsN(i:Nat)(x:RuleD)(y:Int):Nat->List WallD
 |0=>[]
 |n+1=>wallsN i x y n++jdy i x (y+n)
def yrs(x:RuleD):Nat:=(min x.hi 2037-max x.lo 1960+1).toNat
def jcf(i:Nat)(x:RuleD):List WallD:=wallsN i x (max x.lo 1960) (yrs x)
def jaq(nm:ByteArray)(l:List RuleD):Nat->List WallD
 |0=>[]
 |k+1=>jaq nm l k++(match l[k]? with|some x=>if (x.name.toList==nm.toList)=true then jcf k x else []|none=>[])
theorem jmy{i:Nat}{x:RuleD}{y:Int}(h:moV y x.month x.on= -1000000):jdy i x y=[]:=by unfold jdy;rw[if_pos h]
theorem jkl{i:Nat}{x:RuleD}{y:Int}(h:moV y x.month x.on≠ -1000000):jdy i x y=[⟨86400*moV y x.month x.on+x.at_,i⟩]:=by unfold jdy;rw[if_neg h]
theorem jkm{nm:ByteArray}{l:List RuleD}{k:Nat}{x:RuleD}(hx:l[k]? =some x)(h:(x.name.toList==nm.toList)=true):jaq nm l (k+1)=jaq nm l k++jcf k x:=by rw[jaq,hx];simp only[h,if_true]
theorem jmz{nm:ByteArray}{l:List RuleD}{k:Nat}{x:RuleD}(hx:l[k]? =some x)(h:(x.name.toList==nm.toList)=false):jaq nm l (k+1)=jaq nm l k:=by rw[jaq,hx];simp[h]
theorem jeg(i:Nat)(x:RuleD)(y:Int):∀n,(wallsN i x y n).length<=n:=by
 intro n
 induction n with
 |zero=>simp[wallsN]
 |succ n ih=>
  rw[wallsN,lla]
  have:(jdy i x (y+n)).length<=1:=by unfold jdy;split<;>simp
  omega
theorem jra(x:RuleD):yrs x<=78:=by unfold yrs;omega
theorem jsn(nm:ByteArray)(l:List RuleD):∀k,(jaq nm l k).length<=78*k:=by
 intro k
 induction k with
 |zero=>simp[jaq]
 | succ k ih=>
  rw[jaq,lla]
  have AN:∀x,(jcf k x).length<=78:=fun x=>Nat.le_trans (jeg _ _ _ _) (jra x)
  split
  ·rename_i x _
   split
   ·have:=AN x;omega
   ·simp;omega
  ·simp;omega
structure Jo(x:RuleD):Prop where
 month:1<=x.month/\x.month<=12
 at_:0<=x.at_/\x.at_<=604800
 save: -7200<=x.save/\x.save<=7200
theorem jrg{x:RuleD}(h:jaw x=true):Jo x:=by
 unfold jaw at h
 simp only[bat]at h
 obtain⟨_,_,_,hm,_,ha,_,hs,_⟩:=h
 exact⟨jax hm,jax ha,jax hs⟩
theorem j15{y m:Int}{s:ByteArray}(hy:ymB y m=true):moV y m s= -1000000\/(-800000<=moV y m s/\moV y m s<=3000000):=by
 have:=j1l (y:=y) (m:=m) (s:=s)
 unfold jbj at this
 rw[hy,if_pos rfl,jig hy]at this
 exact this
theorem jx9{y m:Int}(h1:1960<=y)(h2:y<=2037)(h3:1<=m)(h4:m<=12):ymB y m=true:=by
 unfold ymB
 simp
 omega
theorem jgt(a b:Int)(w:World):Cl 159 #[iv a,iv b] w fun e w'=>e=.returned (iv (max a b))/\w'=w:=by
 by_cases h:b<a
 ·unfold Cl;go_in
  go_wp2
  go_ret
  exact⟨ret_int (by omega),rfl⟩
 ·unfold Cl;go_in
  go_wp2
  go_ret
  exact⟨ret_int (by omega),rfl⟩
theorem jgs(a b:Int)(w:World):Cl 158 #[iv a,iv b] w fun e w'=>e=.returned (iv (min a b))/\w'=w:=by
 by_cases h:a<b
 ·unfold Cl;go_in
  go_wp2
  go_ret
  exact⟨ret_int (by omega),rfl⟩
 ·unfold Cl;go_in
  go_wp2
  go_ret
  exact⟨ret_int (by omega),rfl⟩
def jpi(r:RelD)(nm:ByteArray)(s:List WallD)(b:Bool):Prop:=((jaq nm r.rules r.rules.length).length<=2000/\b=true/\Ja (jaq nm r.rules r.rules.length) s)\/(¬(jaq nm r.rules r.rules.length).length<=2000/\b=false/\s=[])
theorem j3c{g H bx:Nat}{a:Option Addr}{n c n2 c2:Nat}(bE:(Value.slice a n c).ownBlock=some g\/g=H)(az:some bx≠(Value.slice a n c).ownBlock)(hH:bx<H):some bx≠(so g n2 c2).ownBlock:=by
 intro e
 have e2:bx=g:=by simpa [Value.ownBlock]using e
 subst e2
 rcases bE with h|h
 ·exact az h.symm
 ·omega
theorem jlp (r:RelD) (v:Value) (nm:ByteArray) (w:World) (hv:Zd w v r) (hr:∀x∈r.rules,jaw x=true) (hl:r.rules.length<=40) (di:∀x∈r.rules,x.on.size<=1048576):
  Cl 157 #[v,.string nm] w fun e W'=>∃v' s b,e=.returned (.tuple #[v',.bool b])/\jc0 W' v' s/\jpi r nm s b/\Bw w W':=by
 obtain⟨i0,hi,aG,aH,aF⟩:=info_parts jr2
 obtain⟨a,b,c,ca,cb,cc,rfl,hA,_,_⟩:=hv.form
 have jv:Hid (∀x∈r.rules,Jo x):=fun x hx=>jrg (hr x hx)
 have sY:=hid di
 clear hr di hv
 have eX:=qal w (.cells #[.slice a r.rules.length ca,.slice b r.zones.length cb,.slice c r.links.length cc] 37)
 have x0:(w.alloc (.cells #[.slice a r.rules.length ca,.slice b r.zones.length cb,.slice c r.links.length cc] 37)).cell? (ad w.heap.size 0)=some (.slice a r.rules.length ca):=by simp[go_sem]
 unfold Cl;go_in
 go_wp2
 obtain⟨wA,cK⟩:=qeb ((w.alloc (.cells #[.slice a r.rules.length ca,.slice b r.zones.length cb,.slice c r.links.length cc] 37)))
 have ji:wA.heap.size=w.heap.size+1:=by rw[<- cK];simp
 rw[cK]at eX x0 ⊢
 clear cK
 have hE:Zn (wA.alloc (.cells #[] 221)) (w.heap.size+1) (.slice (some (ad (w.heap.size+1) 0)) 0 0) (jaq nm r.rules 0):=by have:=ja5 wA 221 2;rw[ji]at this;exact this
 go_loopw [6,7] (fun s6 s7 wr=>∃k:Nat,k<=r.rules.length/\s7=iv k/\Zn wr (w.heap.size+1) s6 (jaq nm r.rules k)/\Below (w.heap.size+1) wA wr) (fun _ s7 _=>r.rules.length-(intOf s7).toNat)
 case atStart=>exact⟨0,by omega,rfl,hE,(brf _ _).alloc (by omega) _⟩
 case round=>
  clear hE
  obtain⟨k,hk,rfl,ai,aK⟩:=hrel
  have dI:=aK.size
  have eM:=eX.trans (aK.mono (show w.heap.size<=w.heap.size+1 by omega))
  have xr:wr.cell? (ad w.heap.size 0)=some (.slice a r.rules.length ca):=(aK.cell (p:=(ad w.heap.size 0)) (show w.heap.size<w.heap.size+1 by omega)).trans x0
  have au:=jsn nm r.rules k
  by_cases hlt:k<r.rules.length
  ·obtain⟨x,hx⟩:=qgg hlt
   have mg:=jv.out x (lmg hx)
   have Cs:=sY.out x (lmg hx)
   obtain⟨b9,o9,rfl,hc⟩:=(hA.below eM).at (i:=k) (r:=x.cs) (by rw[lgm,hx];rfl)
   have c0:wr.cell? (ad b9 (o9+k*9))=some (.string x.name):=hc 0 _ rfl
   have c1:=hc 1 _ rfl
   have c2:=hc 2 _ rfl
   have c3:=hc 3 _ rfl
   have c4:=hc 4 _ rfl
   have c5:=hc 5 _ rfl
   have c6:=hc 6 _ rfl
   have c7:=hc 7 _ rfl
   have c8:=hc 8 _ rfl
   clear hc
   cases hn:(x.name.toList==nm.toList)
   ·have HT:Hid (jaq nm r.rules (k+1)=jaq nm r.rules k):=jmz hx hn
    clear hx
    obtain⟨a6,m6,d6,rfl⟩:=jad ai
    go_wp2
    go_roundw
    case rel=>exact⟨k+1,by omega,by go_num,by rw[HT.out];exact woa ai _,aK.alloc (by omega) _⟩
    case measure=>simp[intOf];omega
   ·have HT:Hid (jaq nm r.rules (k+1)=jaq nm r.rules k++jcf k x):=jkm hx hn
    clear hx
    obtain⟨L,hL⟩:=qeb (jaq nm r.rules k)
    rw[hL]at HT ai au
    clear hL
    obtain⟨a6,m6,d6,rfl⟩:=jad ai
    have hM:=fun w=>jgt x.lo 1960 w
    have hN:=fun w=>jgs x.hi 2037 w
    obtain⟨ya,vO⟩:=qeb (max x.lo 1960)
    obtain⟨ye,vP⟩:=qeb (min x.hi 2037)
    have Nq:1960<=ya:=by omega
    have Nr:ye<=2037:=by omega
    have HX:Hid (∀n:Nat,¬ya+n<=ye->ya+n<=ye+1\/n=0->jcf k x=wallsN k x ya n):=fun n h1 h2=>by
     unfold jcf yrs
     rw[vO,vP]
     congr 1
     omega
    have Pk:=jra x
    rw[vO]at hM
    rw[vP]at hN
    clear vO vP
    have qV:some wr.heap.size≠(Value.slice a6 m6 d6).ownBlock:=fun e=>by have:=(ai.lt _ e.symm).2;omega
    have aS:Zn (wr.alloc (.cells #[.string x.name,iv x.lo,iv x.hi,iv x.month,.string x.on,iv x.at_,.string x.of,iv x.save,.string x.letter] 77)) (w.heap.size+1) (.slice a6 m6 d6) (L++wallsN k x ya 0):=by rw[show L++wallsN k x ya 0=L from List.append_nil _];exact woa ai _
    have B1:Below (w.heap.size+1) wA (wr.alloc (.cells #[.string x.name,iv x.lo,iv x.hi,iv x.month,.string x.on,iv x.at_,.string x.of,iv x.save,.string x.letter] 77)):=aK.alloc (by omega) _
    have kO:(wr.alloc (.cells #[.string x.name,iv x.lo,iv x.hi,iv x.month,.string x.on,iv x.at_,.string x.of,iv x.save,.string x.letter] 77)).heap.size=wr.heap.size+1:=by simp
    obtain⟨e1,e2,e3,e4,e5⟩:(fun z:World=>z.cell? (ad wr.heap.size 1)=some (iv x.lo)/\z.cell? (ad wr.heap.size 2)=some (iv x.hi)/\z.cell? (ad wr.heap.size 3)=some (iv x.month)/\z.cell? (ad wr.heap.size 4)=some (.string x.on)/\z.cell? (ad wr.heap.size 5)=some (iv x.at_)) (wr.alloc (.cells #[.string x.name,iv x.lo,iv x.hi,iv x.month,.string x.on,iv x.at_,.string x.of,iv x.save,.string x.letter] 77)):=by simp[go_sem]
    go_wp2_with (go_at_call 159;refine(hM _).mono ?_;rintro e wz ⟨rfl,gp⟩;have gp:=gp.symm;subst gp)
    obtain⟨wB,gn⟩:=qeb ((wr.alloc (.cells #[.string x.name,iv x.lo,iv x.hi,iv x.month,.string x.on,iv x.at_,.string x.of,iv x.save,.string x.letter] 77)))
    obtain⟨bx,ja⟩:=qeb wr.heap.size
    rw[gn]at aS B1 kO e1 e2 e3 e4 e5 ⊢
    rw[ja]at kO e1 e2 e3 e4 e5 qV dI ⊢
    clear gn ja ai aK eM xr c0 c1 c2 c3 c4 c5 c6 c7 c8 hM
    go_loopw [6,9] (fun s6 s9 wq=>∃(n:Nat) (aq:Option Addr) (mq dq:Nat),s9=iv (ya+n)/\s6=.slice aq mq dq/\(ya+n<=ye+1\/n=0)/\Zn wq (w.heap.size+1) (.slice aq mq dq) (L++wallsN k x ya n)/\some bx≠(Value.slice aq mq dq).ownBlock/\bx<wq.heap.size/\(wq.cell? (ad bx 2)=some (iv x.hi)/\wq.cell? (ad bx 3)=some (iv x.month)/\wq.cell? (ad bx 4)=some (.string x.on)/\wq.cell? (ad bx 5)=some (iv x.at_))/\Below (w.heap.size+1) wA wq) (fun _ s9 _=>(ye+1-intOf s9).toNat)
    case atStart=>exact⟨0,a6,m6,d6,by simp,rfl,.inr rfl,aS,qV,by omega,⟨e2,e3,e4,e5⟩,B1⟩
    case round=>
     obtain⟨n,aq,mq,dq,rfl,rfl,sO,jn,nq,aY,⟨q2,q3,q4,q5⟩,Bq⟩:=hrel
     clear aS qV B1 kO e1 e2 e3 e4 e5
     have iQ:=Bq.size
     have vK:=jeg k x ya n
     obtain⟨wq,qQ⟩:=qea wr
     subst qQ
     by_cases hy:ya+n<=ye
     ·have Ko:n<=78:=by omega
      have mR:ymB (ya+n) x.month=true:=jx9 (by omega) (by omega) mg.month.1 mg.month.2
      have hO:=fun w=>jkw (ya+n) x.month x.on w mR Cs
      have ou:=j15 (s:=x.on) mR
      have JS:=mg.at_.1
      have gZ:=mg.at_.2
      by_cases hd:moV (ya+n) x.month x.on= -1000000
      ·have HW:Hid (wallsN k x ya (n+1)=wallsN k x ya n):=by simp only[Hid];rw[wallsN,jmy hd,List.append_nil]
       rw[hd]at hO
       clear hd ou mR
       go_wp2_with fail
       refine(hN _).mono ?_
       rintro e wz ⟨rfl,gp⟩
       have gp:=gp.symm
       subst gp
       go_wp2_with fail
       refine(hO _).mono ?_
       rintro e w3 ⟨rfl,ar⟩
       have Q2:=jaa ar q2
       have Q3:=jaa ar q3
       have Q4:=jaa ar q4
       have Q5:=jaa ar q5
       have kN:=ar.size
       have el:=jac jn ar
       have B3:=Bq.trans (ar.mono (by omega))
       clear ar q2 q3 q4 q5 jn
       go_wp2
       go_roundw
       case rel=>exact⟨n+1,aq,mq,dq,by congr 1;omega,rfl,.inl (by omega),by rw[HW.out];exact el,nq,by omega,⟨Q2,Q3,Q4,Q5⟩,B3⟩
       case measure=>simp[intOf];omega
      ·have HW:Hid (wallsN k x ya (n+1)=wallsN k x ya n++[⟨86400*moV (ya+n) x.month x.on+x.at_,k⟩]):=by simp only[Hid];rw[wallsN,jkl hd]
       have BO:=ou.resolve_left hd
       have gd:(moV (ya+n) x.month x.on != -1000000)=true:=by simpa using hd
       generalize moV (ya+n) x.month x.on=dy at *
       obtain⟨X,hX⟩:=qeb (L++wallsN k x ya n)
       have iD:X.length<=4000:=by rw[<- hX,lla];omega
       have EE:Hid (L++wallsN k x ya (n+1)=X++[⟨86400*dy+x.at_,k⟩]):=by simp only[Hid];rw[HW.out, <- List.append_assoc,hX]
       rw[hX]at jn
       clear hd ou mR hX HW
       go_wp2_with fail
       refine(hN _).mono ?_
       rintro e wz ⟨rfl,gp⟩
       have gp:=gp.symm
       subst gp
       go_wp2_with fail
       refine(hO _).mono ?_
       rintro e w3 ⟨rfl,ar⟩
       have Q2:=jaa ar q2
       have Q3:=jaa ar q3
       have Q4:=jaa ar q4
       have Q5:=jaa ar q5
       have kN:=ar.size
       have el:Zn w3 (w.heap.size+1) (.slice aq mq dq) X:=jac jn ar
       have B3:=Bq.trans (ar.mono (by omega))
       clear ar q2 q3 q4 q5 jn
       go_wp2_with (first
        |(at_builtin;refine wpList_append_lies _ rfl _ _ 217 rfl (w.heap.size+1) 221 i0 (.agg #[iv 0,iv 0]) 2 16 Tryz.underlying217 hi aG aH aF rfl (by decide) _ _ _ rfl (woa el _) ⟨w3.heap.size,0,none⟩ 1 1 [iv (86400*dy+x.at_),iv k] rfl rfl ?c1 ?c2 (by omega) ?c3 ?c4 ?c5 _ rfl ?_)
        |fail)
       case c1=>exact jah _ [iv (86400*dy+x.at_),iv k] _
       case c2=>intro u hu;simp at hu;rcases hu with rfl|rfl<;>rfl
       case c3=>unfold maxLen;omega
       case c4=>omega
       case c5=>simp;omega
       intro g4 oU w4 gj af bE hlt4
       have B4:Below (w.heap.size+1) wA w4:=(B3.alloc (by omega) _).grown af (by simp;omega) (fun j hj=>(el.lt j hj).1)
       have HO:Hid (Zn w4 (w.heap.size+1) (so g4 (X.length+1) oU) (L++wallsN k x ya (n+1))):=by simp only[Hid];rw[EE.out];exact Zn.add (p:=⟨86400*dy+x.at_,k⟩) gj
       have kb:=qal w3 (.cells #[iv (86400*dy+x.at_),iv k] 221)
       have R2:=af.cell (a:=(ad bx 2)) (jaa kb Q2) nq
       have R3:=af.cell (a:=(ad bx 3)) (jaa kb Q3) nq
       have R4:=af.cell (a:=(ad bx 4)) (jaa kb Q4) nq
       have R5:=af.cell (a:=(ad bx 5)) (jaa kb Q5) nq
       have n4:=j3c (n2:=X.length+1) (c2:=oU) bE nq (by omega)
       have aD:bx<w4.heap.size:=by have:=af.size;simp at this;omega
       clear af gj el bE kb Q2 Q3 Q4 Q5 EE
       go_wp2
       go_roundw
       case rel=>exact⟨n+1,some (ad g4 0),X.length+1,oU,by congr 1;omega,rfl,.inl (by omega),HO.out,n4,aD,⟨R2,R3,R4,R5⟩,B4⟩
       case measure=>simp[intOf];omega
     ·have HE:Hid (jaq nm r.rules (k+1)=L++wallsN k x ya n):=by simp only[Hid];rw[HT.out,HX.out n (by omega) sO]
      go_wp2_with fail
      refine(hN _).mono ?_
      rintro e wz ⟨rfl,gp⟩
      have gp:=gp.symm
      subst gp
      go_wp2
      go_roundw
      case rel=>exact⟨k+1,by omega,by go_num,by rw[HE.out];exact jn,Bq⟩
      case measure=>simp[intOf];omega
  ·obtain rfl:k=r.rules.length:=by omega
   obtain⟨L,hL⟩:=qeb (jaq nm r.rules r.rules.length)
   have nE:=hid hL
   rw[hL]at ai au
   clear hL
   obtain⟨a6,d6,rfl,xN,JY⟩:=ai.seq
   have hW:jc0 wr (.slice a6 L.length d6) L:=⟨a6,d6,rfl,JY,xN⟩
   by_cases h2:L.length<=2000
   ·have Fx:=jm5 L.length L (.slice a6 L.length d6) wr (nlr _) (by omega) hW
    go_wp2_with fail
    refine Fx.mono ?_
    rintro e w5 ⟨v5,s,rfl,uL,gG,aV⟩
    have HR:Hid (jpi r nm s true):=.inl (by rw[nE.out];exact⟨h2,rfl,gG⟩)
    have B5:=qtr eM aV
    obtain⟨a5,d5,rfl,JX,sl⟩:=uL
    have Ic:Hid (jc0 w5 (.slice a5 s.length d5) s):=⟨a5,d5,rfl,JX,sl⟩
    clear Fx aV gG sl
    go_wp2
    exact bpr (v:=.tuple #[.slice a5 s.length d5,.bool true]) (by simp[results,Tryz.results157,go_sem]) rfl ⟨_,s,true,rfl,Ic.out,HR.out,B5⟩
   ·have HR:Hid (jpi r nm [] false):=.inr (by rw[nE.out];exact⟨h2,rfl,rfl⟩)
    go_wp2
    exact bpr (v:=.tuple #[nS,.bool false]) (by simp[results,Tryz.results157,go_sem]) rfl ⟨_,[],false,rfl,⟨none,0,rfl,by simp,.inl rfl⟩,HR.out,eM⟩
def jeb(x:RuleD)(wall off save:Int):HapD:=⟨if (x.of.toList==[115])=true then wall-off else if (x.of.toList==[119])=true then wall-off-save else wall,x.save,x.letter⟩
theorem j2l{x:RuleD}{wall off save:Int}(h:(x.of.toList==[115])=true):jeb x wall off save=⟨wall-off,x.save,x.letter⟩:=by unfold jeb;rw[if_pos h]
theorem j2j{x:RuleD}{wall off save:Int}(h:(x.of.toList==[115])=false)(h2:(x.of.toList==[119])=true):jeb x wall off save=⟨wall-off-save,x.save,x.letter⟩:=by unfold jeb;rw[if_neg (by rw[h];simp),if_pos h2]
theorem j2k{x:RuleD}{wall off save:Int}(h:(x.of.toList==[115])=false)(h2:(x.of.toList==[119])=false):jeb x wall off save=⟨wall,x.save,x.letter⟩:=by unfold jeb;rw[if_neg (by rw[h];simp),if_neg (by rw[h2];simp)]
def jdh(l:List RuleD)(off:Int)(st:List HapD × Int)(m:WallD):List HapD × Int:=match l[m.place]? with
 |some x=>(st.1++[jeb x m.wall off st.2],x.save)
 |none=>st
def jbv(l:List RuleD)(off:Int)(s:List WallD):List HapD × Int:=s.foldl (jdh l off) ([],0)
theorem jgl{l:List RuleD}{off:Int}{s:List WallD}{k:Nat}{m:WallD}{x:RuleD}(hm:s[k]? =some m)(hx:l[m.place]? =some x):jbv l off (s.take (k+1))=((jbv l off (s.take k)).1++[jeb x m.wall off (jbv l off (s.take k)).2],x.save):=by
 unfold jbv
 rw[List.take_add_one,hm,List.foldl_append]
 show jdh l off _ m=_
 unfold jdh
 rw[hx]
theorem joy{l:List RuleD}{off:Int}{s:List WallD}(h:∀m∈s,m.place<l.length):∀k,k<=s.length->(jbv l off (s.take k)).1.length=k:=by
 intro k
 induction k with
 |zero=>intro _;rfl
 |succ k ih=>
  intro hk
  obtain⟨m,hm⟩:∃m,s[k]? =some m:=⟨_,lgg (by omega)⟩
  obtain⟨x,hx⟩:∃x,l[m.place]? =some x:=⟨_,lgg (h m (lmg hm))⟩
  rw[jgl hm hx,lla,ih (by omega)];rfl
theorem jk7{l:List RuleD}{off:Int}{s:List WallD}(h:∀m∈s,m.place<l.length)(hs:∀x∈l, -7200<=x.save/\x.save<=7200):∀k,k<=s.length-> -7200<=(jbv l off (s.take k)).2/\(jbv l off (s.take k)).2<=7200:=by
 intro k
 induction k with
 |zero=>intro _;exact⟨by simp[jbv],by simp[jbv]⟩
 |succ k ih=>
  intro hk
  obtain⟨m,hm⟩:∃m,s[k]? =some m:=⟨_,lgg (by omega)⟩
  obtain⟨x,hx⟩:∃x,l[m.place]? =some x:=⟨_,lgg (h m (lmg hm))⟩
  rw[jgl hm hx]
  exact hs x (lmg hx)
theorem jko{i:Nat}{x:RuleD}{y:Int}(hx:Jo x){m:WallD}:∀{n:Nat},1960<=y->y+n<=2038->m∈wallsN i x y n->m.place=i/\ -100000000000<=m.wall/\m.wall<=300000000000:=by
 intro n
 induction n with
 |zero=>intro _ _ h;simp[wallsN]at h
 |succ n ih=>
  intro h1 h2 h
  rw[wallsN,List.mem_append]at h
  rcases h with h|h
  ·exact ih h1 (by omega) h
  ·have hb:=j15 (s:=x.on) (jx9 (y:=y+n) (m:=x.month) (by omega) (by omega) hx.month.1 hx.month.2)
   have ha:=hx.at_
   unfold jdy at h
   split at h
   ·simp at h
   ·rename_i az
    simp at h
    subst h
    refine⟨rfl,?_,?_⟩
    ·show -100000000000<=86400*moV (y+n) x.month x.on+x.at_
     omega
    ·show 86400*moV (y+n) x.month x.on+x.at_<=300000000000
     omega
theorem jkn{nm:ByteArray}{l:List RuleD}(hl:∀x∈l,Jo x){m:WallD}:∀{k:Nat},m∈jaq nm l k->(∃x,l[m.place]? =some x/\(x.name.toList==nm.toList)=true)/\m.place<k/\ -100000000000<=m.wall/\m.wall<=300000000000:=by
 intro k
 induction k with
 |zero=>intro h;simp[jaq]at h
 |succ k ih=>
  intro h
  rw[jaq,List.mem_append]at h
  rcases h with h|h
  ·obtain⟨h1,h2,h3⟩:=ih h
   exact⟨h1,by omega,h3⟩
  ·split at h
   ·rename_i x hx
    split at h
    ·rename_i hn
     by_cases hy:yrs x=0
     ·unfold jcf at h;rw[hy]at h;simp[wallsN]at h
     ·obtain⟨p1,p2⟩:=jko (hl x (lmg hx)) (by omega) (by unfold yrs at *;omega) h
      exact⟨⟨x,by rw[p1];exact hx,hn⟩,by omega,p2⟩
    ·simp at h
   ·simp at h
theorem jpo{l s:List WallD}(h:Ja l s){m:WallD}(hm:m∈s):m∈l:=by
 have:m∈atW m.wall s:=List.mem_filter.mpr ⟨hm,by simp⟩
 rw[h.at_]at this
 exact(List.mem_filter.mp this).1
structure WallOk(l:List RuleD)(s:List WallD):Prop where
 place:∀m∈s,m.place<l.length
 wall:∀m∈s, -100000000000<=m.wall/\m.wall<=300000000000
 len:s.length<=2000
theorem jya{r:RelD}{nm:ByteArray}{s:List WallD}{b:Bool}(hl:∀x∈r.rules,Jo x)(h:jpi r nm s b):WallOk r.rules s:=by
 rcases h with⟨h1,_,h3⟩|⟨_,_,h3⟩
 ·refine⟨fun m hm=>?_,fun m hm=>?_,by rw[h3.len];exact h1⟩
  ·exact(jkn hl (jpo h3 hm)).2.1
  ·exact(jkn hl (jpo h3 hm)).2.2
 ·subst h3
  exact⟨fun m hm=>by simp at hm,fun m hm=>by simp at hm,by simp⟩
theorem jr5:(Tryz.prog.info? 199).map (fun i=>(i.zero,i.size,i.bytes))=some (some (.agg #[iv 0,iv 0,.string ⟨#[]⟩]),3,32):=by kernel_rfl
theorem j2m{P:List HapD}:∀r∈P.map HapD.cs,r.length=3:=fun r hr=>by
 obtain⟨x,_,rfl⟩:=List.mem_map.mp hr;rfl
def Zw(w:World)(base:Nat)(v:Value)(P:List HapD):Prop:=w.ownsRow base 199 3 v P.length (P.map HapD.cs).flatten
theorem Zw.add{w:World}{base:Nat}{v:Value}{P:List HapD}{p:HapD}(h:w.ownsRow base 199 3 v (P.length+1) ((P.map HapD.cs).flatten++p.cs)):Zw w base v (P++[p]):=by
 unfold Zw
 rw[lla,lma,List.flatten_append]
 simpa using h
def jxz(r:RelD)(nm:ByteArray)(off:Int)(H:List HapD)(b:Bool):Prop:=∃s,jpi r nm s b/\H=(jbv r.rules off s).1
