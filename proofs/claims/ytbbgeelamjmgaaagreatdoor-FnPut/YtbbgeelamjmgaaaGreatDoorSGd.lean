import Derived.Test.YtbbgeelamjmgaaaGreatDoorSDd
import Derived.Test.YtbbgeelamjmgaaaGreatDoorSEd
set_option maxHeartbeats 0
set_option linter.unusedSimpArgs false
open Go.RowKit
namespace Go.Proofs.YtbbgeelamjmgaaaGreatDoor
variable{l:List Ze}{E:List ZH}{x:ZY}{H:List Z5}{b:Int}{e:Ze}{L:List ZY}{r:ZW}{nm:ByteArray}
theorem j0i(a l:List UInt8)(s:Int):(jdf (jdw a s) l).length<=a.length+l.length:=by
 have h1:=jlz a s;unfold jdf;split
 .simp only[FB,List.length_take,List.length_drop];omega
 .omega
theorem j0r{f l:ByteArray}{s:Int}(hf:f.size<=12)(hl:l.size<=6):(jki f l s).size<=20:=by
 rw[jjv ⟨Q,Q⟩];have h:=j0i f.data.toList l.data.toList s;simp only[Array.length_toList]at h
 show(List.toArray _).size<=20
 rw[List.size_toArray];have h1:f.data.size=f.size:=rfl;have h2:l.data.size=l.size:=rfl;omega
structure vb7(E:List ZH)(T:List ZK):Prop where
 up:T.Pairwise λx y=>x.at_<y.at_
 hd:∀a,T[0]? =some a->a.at_= -62135596800
 ok:∀t∈T,jb8 t=true/\∃e∈E,e.Zq+t.YX=t.Zq
 nl:∀(i:Nat) x y,T[i]? =some x->T[i+1]? =some y->jd6 x y=false
theorem vb7.add{T:List ZK}{x:ZK}(h:vb7 E T)(hx:∀t∈T,t.at_<x.at_)(h0:T=[]->x.at_= -62135596800)(lH:jb8 x=true/\∃e∈E,e.Zq+x.YX=x.Zq):vb7 E (LP T x)/\(∀u∈LP T x,u∈T\/u=x)/\LP T x≠[]:=by
 have SW:(∀y,T.getLast? =some y->jd6 y x=false)->vb7 E (T++[x])/\(∀u∈T++[x],u∈T\/u=x)/\T++[x]≠[]:=λhl=>by
  refine⟨⟨?_,?_,?_,?_⟩,λu hu=>by simpa using hu,M⟩
  .refine List.pairwise_append.mpr ⟨h.up,M,λa ha b hb=>?_⟩
   simp at hb;subst hb;exact hx a ha
  .intro a ha
   by_cases hT:T=[]
   .subst hT
    simp at ha;subst ha;exact h0 rfl
   .have hp:0<T.length:=List.length_pos_iff.mpr hT
    rw[N9 hp]at ha;exact h.hd a ha
  .intro t ht
   rcases List.mem_append.mp ht with ht|ht
   .exact h.ok t ht
   .simp at ht
    subst ht;exact lH
  .intro i a b ha hb
   by_cases hi:i+1<T.length
   .rw[N9 Q]at ha
    rw[N9 hi]at hb;exact h.nl i a b ha hb
   .have fG:=(pO hb).1
    simp at fG;have e:i+1=T.length:=Q;rw[N9 Q]at ha;rw[e,List.getElem?_append_right Q]at hb;simp at hb;subst hb;exact hl a (by rw[List.getLast?_eq_getElem?,show T.length-1=i by omega];exact ha)
 unfold LP;split
 .rename_i y hy
  split
  .exact⟨h,λu hu=>.inl hu,λe=>by subst e;simp at hy⟩
  .rename_i hn
   exact SW λz hz=>by
    rw[hy]at hz;obtain rfl:=Z9 hz
    simpa using hn
 .rename_i hn
  exact SW λz hz=>by rw[hn]at hz;cases hz
theorem vb7.Zu{f:Int->ZK}:∀{L:List Int} {T:List ZK},vb7 E T->L.Pairwise (· < ·)->(∀t∈T,∀l∈L,t.at_<l)->(T=[]->∀l L',L=l::L'->l= -62135596800)->(∀l,(f l).at_=l/\jb8 (f l)=true/\∃e∈E,e.Zq+(f l).YX=(f l).Zq)->
  vb7 E (GB f L T)/\(∀u∈GB f L T,u∈T\/u.at_∈L)/\(GB f L T=[]->T=[]/\L=[]):=by
 intro L
 induction L with
 |nil=>intro T h _ _ _ _;exact⟨h,λu hu=>.inl hu,λe=>⟨e,rfl⟩⟩
 |cons l L ih=>
  intro T h hL hT h0 hf;rw[vc1];have km:=List.pairwise_cons.mp hL;have⟨f1,f2,f3⟩:=hf l;have⟨i1,i2,i3⟩:=h.add (x:=f l) (λt ht=>by rw[f1];exact hT t ht l M) (λe=>by rw[f1];exact h0 e l L rfl) ⟨f2,f3⟩
  have⟨j1,j2,j3⟩:=ih i1 km.2 (λt ht m hm=>by
   rcases i2 t ht with e|e
   .exact hT t e m (lmc _ hm)
   .subst e
    rw[f1]
    exact km.1 m hm) (λe=>absurd e i3) hf
  refine⟨j1,λu hu=>?_,λe=>absurd (j3 e).1 i3⟩;rcases j2 u hu with e|e
  .rcases i2 u e with e|e
   .exact .inl e
   .subst e
    right;rw[f1];simp
  .exact .inr (lmc _ e)
theorem jq8{e:Int}:(vaG b (yM H b e)).Pairwise (· < ·)/\(∀t∈vaG b (yM H b e),b<=t/\(t=b\/t<e))/\b∈vaG b (yM H b e):=by
 have h:=jsk (X:=yM H b e) (A:=[b]) M;refine⟨h.1,λt ht=>?_,(h.2 b).mpr (.inl M)⟩;rcases(h.2 t).mp ht with e1|e1
 .simp at e1;omega
 .unfold yM at e1
  rw[List.mem_filter]at e1;simp at e1;omega
theorem jpd{e l:Int}{L:List Int}(h:vaG b (yM H b e)=l::L):l=b:=by
 have⟨h1,h2,h3⟩:=jq8 (H:=H) (b:=b) (e:=e);rw[h]at h1 h2 h3;have h4:=(h2 l M).1;rcases List.mem_cons.mp h3 with e1|e1
 .exact e1.symm
 .have:=(List.pairwise_cons.mp h1).1 b e1
  omega
theorem jrc{e:ZH}(he:e∈E)(hE:vbM e)(hH:∀h∈H,vdT h)(l:Int):(yO e H l).at_=l/\jb8 (yO e H l)=true/\∃x∈E,x.Zq+(yO e H l).YX=(yO e H l).Zq:=by
 have⟨⟨s1,s2⟩,s3⟩:=jmk hE hH l;have⟨o1,o2⟩:=hE.off;refine⟨rfl,vgu ?_ ?_ ?_,e,he,rfl⟩
 .show ZX (e.Zq+(Mv e H l).YX) (-100000) 100000=true
  unfold ZX;simp;omega
 .show ZX (Mv e H l).YX (-7200) 7200=true
  unfold ZX;simp;omega
 .exact j0r hE.fmt s3
theorem j1r(hr:∀x∈r.Vv,BF x=true)(hE:∀e∈E,vbM e):∀k,k<E.length->vb7 E (uj r E k).1/\((uj r E k).1=[]->(uj r E k).2= -62135596800)/\∀t∈(uj r E k).1,t.at_<(uj r E k).2:=by
 intro k
 induction k with
 |zero=>intro _;exact⟨⟨by simp[uj],by simp[uj],by simp[uj],by simp[uj]⟩,λ_=>rfl,by simp[uj]⟩
 |succ k ih=>
  intro hk;have⟨i1,i2,i3⟩:=ih Q;obtain⟨e,he⟩:∃e,E[k]? =some e:=⟨_,ZV Q⟩;have hm:=ui he;have hH:=jmi (r:=r) (nm:=e.Vv) (off:=e.Zq) hr (hE e hm).off.1 (hE e hm).off.2;rw[jlm he Q (show uj r E k=((uj r E k).1,(uj r E k).2)from rfl)];generalize (Fg r e.Vv e.Zq).1=H at *;generalize (uj r E k).1=T at *;generalize (uj r E k).2=b at *;simp only;have hbe:b<=OV e H b:=by unfold OV;omega
  split
  .rename_i hlt
   have⟨a1,a2,a3⟩:=jq8 (H:=H) (b:=b) (e:=OV e H b);have⟨j1,j2,j3⟩:=i1.Zu (f:=yO e H) a1 (λt ht l hl=>by have:=i3 t ht;have:=(a2 l hl).1;omega) (λe0 l L' hl=>by rw[jpd hl];exact i2 e0) (jrc hm (hE e hm) hH);refine⟨j1,λe0=>?_,λt ht=>?_⟩
   .rw[(j3 e0).2]at a3;simp at a3
   .rcases j2 t ht with h|h
    .have:=i3 t h;omega
    .have:=a2 _ h;omega
  .rename_i hn
   refine⟨i1,λe0=>by have:=i2 e0;omega,λt ht=>by have:=i3 t ht;omega⟩
structure veP(E:List ZH)(T:List ZK):Prop where
 right:vaq T=true
 era:∀t∈T,∃e∈E,e.Zq+t.YX=t.Zq
 nl:∀(i:Nat) x y,T[i]? =some x->T[i+1]? =some y->jd6 x y=false
theorem ju3(hr:∀x∈r.Vv,BF x=true)(hE:∀e∈E,vbM e)(h1:E≠[]){T:List ZK}(hT:vay r E=(T,true)):veP E T:=by
 unfold vay at hT;split at hT
 case isFalse=>cases hT
 injection hT with t1 t2
 have hl:T.length<=600:=by rw[<- t1];exact Nb t2
 have hp:0<E.length:=List.length_pos_iff.mpr h1;obtain⟨k,hk⟩:∃k,E.length=k+1:=⟨E.length-1,Q⟩;obtain⟨e,he⟩:∃e,E[k]? =some e:=⟨_,ZV Q⟩;have hm:=ui he;have hH:=jmi (r:=r) (nm:=e.Vv) (off:=e.Zq) hr (hE e hm).off.1 (hE e hm).off.2;have⟨i1,i2,i3⟩:=j1r hr hE k Q;have hb:=(j1s (r:=r) (E:=E) k).1;rw[hk,jln he Q (show uj r E k=((uj r E k).1,(uj r E k).2)from rfl)]at t1;clear t2;generalize (Fg r e.Vv e.Zq).1=H at *;generalize (uj r E k).1=S at *;generalize (uj r E k).2=b at *;simp only at t1;have⟨a1,a2,a3⟩:=jq8 (H:=H) (b:=b) (e:=253402300799);have⟨j1,j2,j3⟩:=i1.Zu (f:=yO e H) a1 (λt ht l hl=>by have:=i3 t ht;have:=(a2 l hl).1;omega) (λe0 l L' hl=>by rw[jpd hl];exact i2 e0) (jrc hm (hE e hm) hH);rw[t1]at j1 j2 j3;have az:T≠[]:=λe0=>by rw[(j3 e0).2]at a3;simp at a3
 have Ks:0<T.length:=List.length_pos_iff.mpr az;refine⟨?_,λt ht=>(j1.ok t ht).2,j1.nl⟩;have hu:upT T=true:=jut λi x y hx hy=>by
  obtain⟨p1,rfl⟩:=pO hx;obtain⟨p2,rfl⟩:=pO hy;exact List.pairwise_iff_getElem.mp j1.up i (i+1) p1 p2 Q
 rw[jre ⟨Ks,hl⟩ (List.all_eq_true.mpr λt ht=>(j1.ok t ht).1) hu];obtain⟨n,hn⟩:∃n,T.length=n+1:=⟨T.length-1,Q⟩;obtain⟨x,hx⟩:∃x,T[0]? =some x:=⟨_,ZV Q⟩;obtain⟨y,hy⟩:∃y,T[n]? =some y:=⟨_,ZV Q⟩;rw[jxi hn hx hy,j1.hd x hx];have L0:y.at_<=253402300799:=by
  rcases j2 y (ui hy)with h|h
  .have:=i3 y h;omega
  .have:=a2 _ h;omega
 simp[L0]
theorem j0m{a b:ByteArray}(h:a.data.toList=b.data.toList):a=b:=by
 cases a with|mk a=>cases b with|mk b=>exact congrArg ByteArray.mk (Array.toList_inj.mp h)
theorem jx4(h:ZZ r=true)(az:(xP r nm).ZC≠[]):xP r (xP r nm).name=xP r nm:=by
 have⟨_,i,hi,hz⟩:=je7 h az;generalize mS:xP r nm=z at *;have hn:(jha (jgx r)).Nodup:=by
  have h':=h;unfold ZZ at h';simp only[vB]at h';exact Nb h'.2.2.2.2.1
 unfold jha jgx at hn;rw[MZ,List.nodup_append]at hn;have⟨n1,_,n3⟩:=hn;have hl:jba r.YW z.name=z.name:=jiq λj hj y hy=>by
  cases he:(y.name.toList==z.name.toList)
  .rfl
  .exfalso
   have e1:y.name.data.toList=z.name.data.toList:=by have:=eq_of_beq he;rwa [vbh,vbh]at this
   exact n3 z.name.data.toList (List.mem_map.mpr ⟨z.name,List.mem_map.mpr ⟨z,ui hz,rfl⟩,rfl⟩) y.name.data.toList (List.mem_map.mpr ⟨y.name,List.mem_map.mpr ⟨y,ui hy,rfl⟩,rfl⟩) e1.symm
 have hx:jbg r.YU z.name=some i:=jfh hz M λj hj y hy=>by
  cases he:(y.name.toList==z.name.toList)
  .rfl
  .exfalso
   have e1:y.name.data.toList=z.name.data.toList:=by have:=eq_of_beq he;rwa [vbh,vbh]at this
   have⟨p1,q1⟩:=pO hy;have⟨p2,q2⟩:=pO hz;have:=List.pairwise_iff_getElem.mp n1 j i (by simpa using p1) (by simpa using p2) hj;simp only[List.getElem_map]at this;rw[q1,q2]at this;exact this e1
 unfold xP;rw[if_pos h,hl,hx];simp only;rw[hz]
theorem j1n(hs:nm.size<=8000)(h:ZZ r=true)(az:(xP r nm).ZC≠[])(dR:(xP r nm).name.size<=8000):uC r (xP r nm).name=uC r nm:=by
 unfold uC;rw[if_pos hs,if_pos dR,jx4 h az]
theorem jm1(h:(uC r nm).1=0):nm.size<=8000/\ZZ r=true/\(xP r nm).ZC≠[]/\veP (xP r nm).ZC (uC r nm).2:=by
 by_cases h1:nm.size<=8000
 case neg=>rw[j0y h1]at h;cases h
 cases h2:ZZ r
 case false=>rw[j0z h1 h2]at h;cases h
 by_cases h3:(xP r nm).ZC=[]
 case pos=>rw[ju5 h1 h2 h3]at h;cases h
 cases h4:vay r (xP r nm).ZC with
 |mk T b=>
  cases b
  case false=>rw[ju4 h1 h2 h3 h4]at h;cases h
  have⟨z1,_⟩:=je7 h2 h3;refine⟨h1,rfl,h3,?_⟩;rw[ju6 h1 h2 h3 h4];exact ju3 (jid h2).2 (jhv z1).2 h3 h4
section
open Go.RowKit Go.ChangeMaps Go.MapKept Go.WideMaps
def vbe(t:Int × List ZK)(e:Ze):Int × Bool:=if t.1=0 then((vaI t.2 e.YV e.Zz e.Zu).1,decide ((vaI t.2 e.YV e.Zz e.Zu).2=0))else(0,false)
theorem jv3{t:Int × List ZK}(h:t.1≠0):vbe t e=(0,false):=by unfold vbe;rw[if_neg h]
theorem jrp{t:Int × List ZK}(h:t.1=0):vbe t e=((vaI t.2 e.YV e.Zz e.Zu).1,decide ((vaI t.2 e.YV e.Zz e.Zu).2=0)):=by unfold vbe;rw[if_pos h]
theorem jsw(h:(uC r nm).1=0):(∀t∈(uC r nm).2,t.ok)/\(uC r nm).2.length<=1048576:=by
 have hb:=(jm1 h).2.2.2.right;unfold vaq at hb;simp only[vB,decide_eq_true_eq,List.all_eq_true]at hb;have⟨h1,h2,_⟩:=hb;refine⟨λt ht=>?_,Q⟩;have h3:=h2 t ht;unfold jb8 at h3;simp only[vB,decide_eq_true_eq]at h3;have:=h3.2.2;unfold ZK.ok maxLen;omega
structure vct(r:ZW)(e:Ze)(mb mn:Nat)(w:World)(q:Ending)(w':World):Prop where
 ex:q=V (.agg #[J (vbe (uC r (xP r e.YZ).name) e).1,.bool (vbe (uC r (xP r e.YZ).name) e).2])
 cache:Zi w' mb (mn+1) r
 grown:w.grownBy w' (some mb)
end
theorem jzv(h:ZZ r=true)(hi:inR r nm=true):(xP r nm).ZC≠[]:=by
 unfold inR at hi;cases hx:jbg r.YU (jba r.YW nm)with
 |none=>rw[hx]at hi;cases hi
 |some i=>
  have hl:i<r.YU.length:=by unfold jbg at hx;exact(List.findIdx?_eq_some_iff_getElem.mp hx).1
  rw[jcr h hx (ZV hl)];intro he;have:=(jc9 h (List.getElem_mem hl)).1;rw[he]at this;simp at this
theorem jlk(h:ZZ r=true)(hi:inR r nm=true)(hz:nm.size<=8000):uC r (xP r nm).name=uC r nm:=j1n hz h (jzv h hi) (by have:=jkk (nm:=nm) h;omega)
def vai(r:ZW)(e:Ze):Int × Bool:=vbe (uC r e.YZ) e
def My(s:ZP)(e:Ze):Int × Bool:=if s.cur=0\/e.id<s.cur then vai s.YT e else vai s.YS e
def vaL(g:Ze->Int × Bool)(L:List ZY)(e:Ze):List ZY:=if (g e).2=true then vaH L ⟨(g e).1,e.id⟩else L
def BS(g:Ze->Int × Bool)(l:List Ze):List ZY:=l.foldl (vaL g) []
theorem jo5{g:Ze->Int × Bool}{i:Nat}(h:l[i]? =some e):BS g (l.take (i+1))=vaL g (BS g (l.take i)) e:=by
 unfold BS;rw[List.take_add_one,h,List.foldl_append];rfl
theorem ve3{g:Ze->Int × Bool}:x∈vaL g L e↔x∈L\/((g e).2=true/\x=⟨(g e).1,e.id⟩):=by
 unfold vaL;split
 .rename_i h
  rw[vfx];constructor
  .rintro(h1|h1)
   .exact .inr ⟨h,h1⟩
   .exact .inl h1
  .rintro(h1|h1)
   .exact .inr h1
   .exact .inl h1.2
 .rename_i h
  exact⟨.inl,λh1=>h1.elim id λh2=>absurd h2.1 h⟩
theorem jz9{g:Ze->Int × Bool}:x∈l.foldl (vaL g) L↔x∈L\/∃e∈l,(g e).2=true/\x=⟨(g e).1,e.id⟩:=by
 induction l generalizing L with
 |nil=>simp
 |cons a l ih=>
  rw[List.foldl_cons,ih,ve3];constructor
  .rintro((h|h)|⟨e,he,h⟩)
   .exact .inl h
   .exact .inr ⟨a,M,h⟩
   .exact .inr ⟨e,lmc _ he,h⟩
  .rintro(h|⟨e,he,h⟩)
   .exact .inl (.inl h)
   .rcases List.mem_cons.mp he with rfl|he
    .exact .inl (.inr h)
    .exact .inr ⟨e,he,h⟩
theorem vhd{g:Ze->Int × Bool}:x∈BS g l↔∃e∈l,(g e).2=true/\x=⟨(g e).1,e.id⟩:=by
 unfold BS;rw[jz9];simp
theorem j2o{g:Ze->Int × Bool}(hl:l.Pairwise λx y=>x.id<y.id)(hL:jhm L)(hd:∀x∈L,∀e∈l,x.id≠e.id):jhm (l.foldl (vaL g) L):=by
 induction l generalizing L with
 |nil=>exact hL
 |cons a l ih=>
  have h2:=List.pairwise_cons.mp hl;rw[List.foldl_cons];refine ih h2.2 ?_ λx hx e he=>?_
  .unfold vaL
   split
   .exact j2d hL λhm=>hd _ hm a M rfl
   .exact hL
  .rcases ve3.mp hx with h|h
   .exact hd x h e (lmc _ he)
   .rw[h.2]
    have:=h2.1 e he;simp only;omega
theorem jq2{g:Ze->Int × Bool}(hl:l.Pairwise λx y=>x.id<y.id):jhm (BS g l):=j2o hl (by unfold jhm;exact List.Pairwise.nil) (λx hx=>by simp at hx)
theorem j0a{g:Ze->Int × Bool}:(l.foldl (vaL g) L).length<=L.length+l.length:=by
 induction l generalizing L with
 |nil=>simp
 | cons a l ih=>
  rw[List.foldl_cons,List.length_cons];have h1:(vaL g L a).length<=L.length+1:=by
   unfold vaL;split
   .rw[ja9];omega
   .omega
  have:=ih (L:=vaL g L a);omega
theorem jep(g:Ze->Int × Bool)(l:List Ze):(BS g l).length<=l.length:=by
 have:=j0a (g:=g) (l:=l) (L:=[])
 simpa [BS]using this
theorem jo6{g h:Ze->Int × Bool}(hs:∀e∈l,g e=h e):BS g l=BS h l:=by
 unfold BS
 suffices H:∀L,l.foldl (vaL g) L=l.foldl (vaL h) L from H []
 induction l with
 |nil=>exact λL=>rfl
 |cons a l ih=>
  intro L;rw[List.foldl_cons,List.foldl_cons,show vaL g L a=vaL h L a by unfold vaL;rw[hs a M]];exact ih (λe he=>hs e (lmc _ he)) _
theorem j0f{f:Int->Option Ze}{g:Ze->Int × Bool}{L:List Ze}{P:List ZY}(hT:vbb f L)(hL:L.Pairwise λx y=>x.id<y.id)(hP:P.Nodup)(hm:∀x,x∈P↔∃e,f e.id=some e/\(g e).2=true/\x=⟨(g e).1,e.id⟩):jg9 P=BS g L:=
 jus (jyp hP) (jq2 hL) λx=>by
  rw[jvg,hm,vhd];constructor
  .rintro⟨e,h1,h2⟩
   exact⟨e,(hT.mem e).mpr h1,h2⟩
  .rintro⟨e,h1,h2⟩
   exact⟨e,(hT.mem e).mp h1,h2⟩
section
open Go.RowKit Go.ChangeMaps Go.MapKept Go.WideMaps
set_option maxRecDepth 20000 in
theorem jfd(r:ZW)(a b c:Option Addr)(ca cb cc mb mn:Nat)(ev:Ze)(w:World)(hE:Zx w)(hv:Zd w (.agg #[U a r.Vv.length ca,U b r.YU.length cb,U c r.YW.length cc]) r)(ok:Jk r)(hr:ZZ r=true)(hC:Zi w mb mn r)(lE:mn<=1048576):
  C 136 #[.agg #[U a r.Vv.length ca,U b r.YU.length cb,U c r.YW.length cc,.map (some mb)],ev.v] w (vct r ev mb mn w):=by
 obtain⟨id,name,YZ,YV,Zz,Zu⟩:=ev;simp only[Ze.v];have⟨W0,j6⟩:=ZL ((((w.alloc (G #[U a r.Vv.length ca,U b r.YU.length cb,U c r.YW.length cc,.map (some mb)] 68)).alloc (G #[J id,I name,I YZ,J YV,J Zz,J Zu] 33)).alloc (G #[J 0,.bool false] 183)));have aj:Bw w W0:=by rw[<- j6];exact((ZA _ _).alloc M _).alloc RO _
 have hT:=jtq r a b c ca cb cc mb mn YZ W0 (hE.of_below aj) (hv.below aj) ok hr (hC.below aj) lE;have Kl:=hC.lt;have MI:W0.cell? (O w.heap.size 0)=some (U a r.Vv.length ca):=by rw[<- j6];simp[go_sem]
 have MJ:W0.cell? (O w.heap.size 1)=some (U b r.YU.length cb):=by rw[<- j6];simp[go_sem]
 have MK:W0.cell? (O w.heap.size 2)=some (U c r.YW.length cc):=by rw[<- j6];simp[go_sem]
 have ML:W0.cell? (O w.heap.size 3)=some (.map (some mb)):=by rw[<- j6];simp[go_sem]
 have GZ:W0.cell? (O (w.heap.size+1) 2)=some (I YZ):=by rw[<- j6];simp[go_sem]
 have H8:W0.cell? (O (w.heap.size+1) 3)=some (J YV):=by rw[<- j6];simp[go_sem]
 have H9:W0.cell? (O (w.heap.size+1) 4)=some (J Zz):=by rw[<- j6];simp[go_sem]
 have DD:W0.cell? (O (w.heap.size+1) 5)=some (J Zu):=by rw[<- j6];simp[go_sem]
 have yv:W0.cell? (O (w.heap.size+1+1) 0)=some (J 0):=by rw[<- j6];simp[go_sem]
 have DH:W0.cell? (O (w.heap.size+1+1) 1)=some (.bool false):=by rw[<- j6];simp[go_sem]
 have f0:W0.frozen? (O (w.heap.size+1+1) 0)=false:=by rw[<- j6];simp[go_sem]
 have f1:W0.frozen? (O (w.heap.size+1+1) 1)=false:=by rw[<- j6];simp[go_sem]
 have hh:W0.heap[w.heap.size+1+1]? =some (Obj.cells #[J 0,.bool false] 183):=by
  rw[<- j6];have h:=heap_alloc_new ((w.alloc (G #[U a r.Vv.length ca,U b r.YU.length cb,U c r.YW.length cc,.map (some mb)] 68)).alloc (G #[J id,I name,I YZ,J YV,J Zz,J Zu] 33)) (G #[J 0,.bool false] 183);have e:((w.alloc (G #[U a r.Vv.length ca,U b r.YU.length cb,U c r.YW.length cc,.map (some mb)] 68)).alloc (G #[J id,I name,I YZ,J YV,J Zz,J Zu] 33)).heap.size=w.heap.size+1+1:=M;rw[e]at h;exact h
 have cQ:w.grownBy W0 (some mb):=(jap aj).but _;have HC:=hid hC;clear hv hE ok hr hC lE;unfold C;go_in;go_wp2_with fail;refine hT.mono ?_;rintro q W2 hP;obtain⟨⟨ta,tn,tc,tk⟩,rfl,Fz⟩:=hP.ex;have iq:=hid hP.cache;have bR:=hP.grown;clear hP hT;simp only[MW.v];have HT:=hid Fz;clear Fz;have y12:=bR.cell GZ RO;have y13:=bR.cell H8 RO;have y14:=bR.cell H9 RO;have y15:=bR.cell DD RO;have y20:=bR.cell yv RO;have y21:=bR.cell DH RO;have h0:some (w.heap.size+1+1)≠some mb:=RO;have g0:=(bR.frozen_far (O (w.heap.size+1+1) 0) (ZI yv) h0).trans f0;have g1:=(bR.frozen_far (O (w.heap.size+1+1) 1) (ZI DH) h0).trans f1;have oA:=(bR.block _ (ZI yv) h0).trans hh;have HG:Hid (w.grownBy W2 (some mb)):=cQ.andThen bR (λ_ h=>.inr h);have hlt:=ZI y20;dsimp only at hlt;clear MI MJ MK ML GZ H8 H9 DD yv DH f0 f1 hh cQ bR aj;have b3:=ZA W2 (G #[U ta tn tc,J tk] 160);by_cases hk:tk=0
 .subst hk
  have hd:(uC r (xP r YZ).name).1=0:=HT.out.code.symm;have hs:=jsw hd;have HM:Hid (vbe (uC r (xP r YZ).name) ⟨id,name,YZ,YV,Zz,Zu⟩=((vaI (uC r (xP r YZ).name).2 YV Zz Zu).1,decide ((vaI (uC r (xP r YZ).name).2 YV Zz Zu).2=0))):=jrp hd;have hn:=HT.out.n;have hq:=HT.out.seq.below b3;dsimp only at hn hq;have⟨l,hl⟩:=ZL ((uC r (xP r YZ).name).2);rw[hl]at hs hn hq;have HL:=hid hl;clear hl hd;have hR:=jos l (.agg #[U ta tn tc]) YV Zz Zu _ ⟨ta,tc,by rw[hn],hq⟩ hs.1 hs.2;have HQ:Hid (vbe (uC r (xP r YZ).name) ⟨id,name,YZ,YV,Zz,Zu⟩=((vaI l YV Zz Zu).1,decide ((vaI l YV Zz Zu).2=0))):=by simp only[Hid];rw[HM.out,HL.out]
  clear HM hn hq hs;have⟨⟨N,vCC⟩,sG⟩:=ZL (vaI l YV Zz Zu);rw[sG]at hR HQ;clear sG;simp only[xW]at hR;have z13:=YR b3 y13;have z14:=YR b3 y14;have z15:=YR b3 y15;have z20:=YR b3 y20;have Sg:=YR b3 y21;have k0:=AZ b3 y20 g0;have k1:=AZ b3 y21 g1;go_wp2_with fail;refine hR.mono ?_;rintro q W4 ⟨rfl,aD⟩;have b4:Bw W2 W4:=Zp b3 aD;have v20:=YR b4 y20;have JD:=YR b4 y21;have m0:=AZ b4 y20 g0;have m1:=AZ b4 y21 g1;have FW:=(b4.block _ (ZI y20)).trans oA;have hlt4:=ZI v20;dsimp only at hlt4;have Eh:Hid (w.grownBy W4 (some mb)):=HG.out.andThen (jap b4) (λ_ h=>by cases h);have Ec:Hid (Zi W4 mb (mn+1) r):=iq.out.below b4;clear z13 z14 z15 z20 Sg k0 k1 aD hR;by_cases hc:vCC=0
  .subst hc
   have HE:Hid (vbe (uC r (xP r YZ).name) ⟨id,name,YZ,YV,Zz,Zu⟩=(N,true)):=by simp only[Hid];rw[HQ.out];rfl
   have G7:=jbz W4 (w.heap.size+1+1) (J N) (.bool true);have G8:W4.grownBy (((W4.setCell (O (w.heap.size+1+1) 0) (J N)).setCell (O (w.heap.size+1+1) 1) (.bool true)).alloc (G #[J N,J 0] 163)) (some (w.heap.size+1+1)):=G7.andThen (World.grownBy_alloc _ _ none) (λ_ h=>by cases h);have HP:Hid (vct r ⟨id,name,YZ,YV,Zz,Zu⟩ mb mn w (V (.agg #[J N,.bool true])) (((W4.setCell (O (w.heap.size+1+1) 0) (J N)).setCell (O (w.heap.size+1+1) 1) (.bool true)).alloc (G #[J N,J 0] 163))):=⟨by rw[HE.out],Ec.out.grown G8 Q (λcs h=>by rw[FW]at h;injection h with h;injection h with _ h _;exact absurd h RN),Eh.out.andThen G8 (λj h=>by injection h with h;omega)⟩;have⟨t0,t1⟩:=jav (v0:=J N) (v1:=.bool true) v20 JD;have b5:=(ZU _ ((W4.setCell (O (w.heap.size+1+1) 0) (J N)).setCell (O (w.heap.size+1+1) 1) (.bool true))).alloc (ZD _) (G #[J N,J 0] 163);have rE:=YR b5 t0;have jp:=YR b5 t1;clear G7 G8;go_wp2;exact ZM (v:=.agg #[J N,.bool true]) (by simp[results,Tryz.results136,go_sem,rE,jp]) rfl HP.out
  .have cU:(vCC==0)=false:=by simp[hc]
   have HE:Hid (vbe (uC r (xP r YZ).name) ⟨id,name,YZ,YV,Zz,Zu⟩=(N,false)):=by simp only[Hid];rw[HQ.out];rw[dfe hc]
   have G7:=jbz W4 (w.heap.size+1+1) (J N) (.bool false);have G8:W4.grownBy (((W4.setCell (O (w.heap.size+1+1) 0) (J N)).setCell (O (w.heap.size+1+1) 1) (.bool false)).alloc (G #[J N,J vCC] 163)) (some (w.heap.size+1+1)):=G7.andThen (World.grownBy_alloc _ _ none) (λ_ h=>by cases h);have HP:Hid (vct r ⟨id,name,YZ,YV,Zz,Zu⟩ mb mn w (V (.agg #[J N,.bool false])) (((W4.setCell (O (w.heap.size+1+1) 0) (J N)).setCell (O (w.heap.size+1+1) 1) (.bool false)).alloc (G #[J N,J vCC] 163))):=⟨by rw[HE.out],Ec.out.grown G8 Q (λcs h=>by rw[FW]at h;injection h with h;injection h with _ h _;exact absurd h RN),Eh.out.andThen G8 (λj h=>by injection h with h;omega)⟩;have⟨t0,t1⟩:=jav (v0:=J N) (v1:=.bool false) v20 JD;have b5:=(ZU _ ((W4.setCell (O (w.heap.size+1+1) 0) (J N)).setCell (O (w.heap.size+1+1) 1) (.bool false))).alloc (ZD _) (G #[J N,J vCC] 163);have rE:=YR b5 t0;have jp:=YR b5 t1;clear G7 G8;go_wp2;exact ZM (v:=.agg #[J N,.bool false]) (by simp[results,Tryz.results136,go_sem,rE,jp]) rfl HP.out
 .have HM:Hid (vbe (uC r (xP r YZ).name) ⟨id,name,YZ,YV,Zz,Zu⟩=(0,false)):=jv3 (by rw[<- HT.out.code];exact hk)
  have fy:(tk==0)=false:=by simp[hk]
  have G7:=jbz W2 (w.heap.size+1+1) (J 0) (.bool false);have G8:W2.grownBy (((W2.setCell (O (w.heap.size+1+1) 0) (J 0)).setCell (O (w.heap.size+1+1) 1) (.bool false)).alloc (G #[U ta tn tc,J tk] 160)) (some (w.heap.size+1+1)):=G7.andThen (World.grownBy_alloc _ _ none) (λ_ h=>by cases h);have HP:Hid (vct r ⟨id,name,YZ,YV,Zz,Zu⟩ mb mn w (V (.agg #[J 0,.bool false])) (((W2.setCell (O (w.heap.size+1+1) 0) (J 0)).setCell (O (w.heap.size+1+1) 1) (.bool false)).alloc (G #[U ta tn tc,J tk] 160))):=⟨by rw[HM.out],iq.out.grown G8 Q (λcs h=>by rw[oA]at h;injection h with h;injection h with _ h _;exact absurd h RN),HG.out.andThen G8 (λj h=>by injection h with h;omega)⟩;have⟨t0,t1⟩:=jav (v0:=J 0) (v1:=.bool false) y20 y21;have b5:=(ZU _ ((W2.setCell (O (w.heap.size+1+1) 0) (J 0)).setCell (O (w.heap.size+1+1) 1) (.bool false))).alloc (ZD _) (G #[U ta tn tc,J tk] 160);have rE:=YR b5 t0;have jp:=YR b5 t1;clear G7 G8;go_wp2;exact ZM (v:=.agg #[J 0,.bool false]) (by simp[results,Tryz.results136,go_sem,rE,jp]) rfl HP.out
