import Derived.Test.YtmkjofknhdikpaaGreatDoorSDd
import Derived.Test.YtmkjofknhdikpaaGreatDoorSEd
set_option maxHeartbeats 0
set_option linter.unusedSimpArgs false
open Go.RowKit
namespace Go.Proofs.YtmkjofknhdikpaaGreatDoor
variable{l:List TD}{E:List TX}{x:TZ}{H:List Ur}{b:Int}{e:TD}{L:List TZ}{r:Un}{nm:ByteArray}
theorem j0i(a l:List UInt8)(s:Int):(Xv (XW a s) l).length<=a.length+l.length:=by
 have h1:=jlz a s;unfold Xv;split
 .simp only[Vq,List.length_take,List.length_drop];omega
 .omega
theorem j0r{f l:ByteArray}{s:Int}(hf:f.size<=12)(hl:l.size<=6):(jki f l s).size<=20:=by
 rw[jjv ⟨Q,Q⟩];have h:=j0i f.data.toList l.data.toList s;simp only[Array.length_toList]at h
 show(List.toArray _).size<=20
 rw[List.size_toArray];have h1:f.data.size=f.size:=rfl;have h2:l.data.size=l.size:=rfl;omega
structure vaJ(E:List TX)(T:List Ub):Prop where
 up:T.Pairwise λx y=>x.at_<y.at_
 hd:∀a,T[0]? =some a->a.at_= -62135596800
 ok:∀t∈T,Wv t=true/\∃e∈E,e.TI+t.TF=t.TI
 nl:∀(i:Nat) x y,T[i]? =some x->T[i+1]? =some y->Ye x y=false
theorem vaJ.add{T:List Ub}{x:Ub}(h:vaJ E T)(hx:∀t∈T,t.at_<x.at_)(h0:T=[]->x.at_= -62135596800)(hok:Wv x=true/\∃e∈E,e.TI+x.TF=x.TI):vaJ E (Vu T x)/\(∀u∈Vu T x,u∈T\/u=x)/\Vu T x≠[]:=by
 have SW:(∀y,T.getLast? =some y->Ye y x=false)->vaJ E (T++[x])/\(∀u∈T++[x],u∈T\/u=x)/\T++[x]≠[]:=λhl=>by
  refine⟨⟨?_,?_,?_,?_⟩,λu hu=>by simpa using hu,M⟩
  .refine List.pairwise_append.mpr ⟨h.up,M,λa ha b hb=>?_⟩
   simp at hb;subst hb;exact hx a ha
  .intro a ha
   by_cases hT:T=[]
   .subst hT
    simp at ha;subst ha;exact h0 rfl
   .have hp:0<T.length:=List.length_pos_iff.mpr hT
    rw[VS hp]at ha;exact h.hd a ha
  .intro t ht
   rcases List.mem_append.mp ht with ht|ht
   .exact h.ok t ht
   .simp at ht
    subst ht;exact hok
  .intro i a b ha hb
   by_cases hi:i+1<T.length
   .rw[VS Q]at ha
    rw[VS hi]at hb;exact h.nl i a b ha hb
   .have fG:=(Ux hb).1
    simp at fG;have e:i+1=T.length:=Q;rw[VS Q]at ha;rw[e,List.getElem?_append_right Q]at hb;simp at hb;subst hb;exact hl a (by rw[List.getLast?_eq_getElem?,show T.length-1=i by omega];exact ha)
 unfold Vu;split
 .rename_i y hy
  split
  .exact⟨h,λu hu=>.inl hu,λe=>by subst e;simp at hy⟩
  .rename_i hn
   exact SW λz hz=>by
    rw[hy]at hz;obtain rfl:=Uw hz
    simpa using hn
 .rename_i hn
  exact SW λz hz=>by rw[hn]at hz;cases hz
theorem vaJ.TL{f:Int->Ub}:∀{L:List Int} {T:List Ub},vaJ E T->L.Pairwise (· < ·)->(∀t∈T,∀l∈L,t.at_<l)->(T=[]->∀l L',L=l::L'->l= -62135596800)->(∀l,(f l).at_=l/\Wv (f l)=true/\∃e∈E,e.TI+(f l).TF=(f l).TI)->
  vaJ E (Vm f L T)/\(∀u∈Vm f L T,u∈T\/u.at_∈L)/\(Vm f L T=[]->T=[]/\L=[]):=by
 intro L
 induction L with
 |nil=>intro T h _ _ _ _;exact⟨h,λu hu=>.inl hu,λe=>⟨e,rfl⟩⟩
 |cons l L ih=>
  intro T h hL hT h0 hf;rw[vbG];have km:=List.pairwise_cons.mp hL;have⟨f1,f2,f3⟩:=hf l;have⟨i1,i2,i3⟩:=h.add (x:=f l) (λt ht=>by rw[f1];exact hT t ht l M) (λe=>by rw[f1];exact h0 e l L rfl) ⟨f2,f3⟩
  have⟨j1,j2,j3⟩:=ih i1 km.2 (λt ht m hm=>by
   rcases i2 t ht with e|e
   .exact hT t e m (VW _ hm)
   .subst e
    rw[f1]
    exact km.1 m hm) (λe=>absurd e i3) hf
  refine⟨j1,λu hu=>?_,λe=>absurd (j3 e).1 i3⟩;rcases j2 u hu with e|e
  .rcases i2 u e with e|e
   .exact .inl e
   .subst e
    right;rw[f1];simp
  .exact .inr (VW _ e)
theorem jq8{e:Int}:(Xn b (UX H b e)).Pairwise (· < ·)/\(∀t∈Xn b (UX H b e),b<=t/\(t=b\/t<e))/\b∈Xn b (UX H b e):=by
 have h:=jsk (X:=UX H b e) (A:=[b]) M;refine⟨h.1,λt ht=>?_,(h.2 b).mpr (.inl M)⟩;rcases(h.2 t).mp ht with e1|e1
 .simp at e1;omega
 .unfold UX at e1
  rw[List.mem_filter]at e1;simp at e1;omega
theorem jpd{e l:Int}{L:List Int}(h:Xn b (UX H b e)=l::L):l=b:=by
 have⟨h1,h2,h3⟩:=jq8 (H:=H) (b:=b) (e:=e);rw[h]at h1 h2 h3;have h4:=(h2 l M).1;rcases List.mem_cons.mp h3 with e1|e1
 .exact e1.symm
 .have:=(List.pairwise_cons.mp h1).1 b e1
  omega
theorem jrc{e:TX}(he:e∈E)(hE:vau e)(hH:∀h∈H,vcA h)(l:Int):(UZ e H l).at_=l/\Wv (UZ e H l)=true/\∃x∈E,x.TI+(UZ e H l).TF=(UZ e H l).TI:=by
 have⟨⟨s1,s2⟩,s3⟩:=jmk hE hH l;have⟨o1,o2⟩:=hE.off;refine⟨rfl,veH ?_ ?_ ?_,e,he,rfl⟩
 .show Uk (e.TI+(Vz e H l).TF) (-100000) 100000=true
  unfold Uk;simp;omega
 .show Uk (Vz e H l).TF (-7200) 7200=true
  unfold Uk;simp;omega
 .exact j0r hE.fmt s3
theorem j1r(hr:∀x∈r.Tw,U5 x=true)(hE:∀e∈E,vau e):∀k,k<E.length->vaJ E (UI r E k).1/\((UI r E k).1=[]->(UI r E k).2= -62135596800)/\∀t∈(UI r E k).1,t.at_<(UI r E k).2:=by
 intro k
 induction k with
 |zero=>intro _;exact⟨⟨by simp[UI],by simp[UI],by simp[UI],by simp[UI]⟩,λ_=>rfl,by simp[UI]⟩
 |succ k ih=>
  intro hk;have⟨i1,i2,i3⟩:=ih Q;obtain⟨e,he⟩:∃e,E[k]? =some e:=⟨_,Ug Q⟩;have hm:=UH he;have hH:=jmi (r:=r) (nm:=e.Tw) (off:=e.TI) hr (hE e hm).off.1 (hE e hm).off.2;rw[jlm he Q (show UI r E k=((UI r E k).1,(UI r E k).2)from rfl)];generalize (Vg r e.Tw e.TI).1=H at *;generalize (UI r E k).1=T at *;generalize (UI r E k).2=b at *;simp only;have hbe:b<=VT e H b:=by unfold VT;omega
  split
  .rename_i hlt
   have⟨a1,a2,a3⟩:=jq8 (H:=H) (b:=b) (e:=VT e H b);have⟨j1,j2,j3⟩:=i1.TL (f:=UZ e H) a1 (λt ht l hl=>by have:=i3 t ht;have:=(a2 l hl).1;omega) (λe0 l L' hl=>by rw[jpd hl];exact i2 e0) (jrc hm (hE e hm) hH);refine⟨j1,λe0=>?_,λt ht=>?_⟩
   .rw[(j3 e0).2]at a3;simp at a3
   .rcases j2 t ht with h|h
    .have:=i3 t h;omega
    .have:=a2 _ h;omega
  .rename_i hn
   refine⟨i1,λe0=>by have:=i2 e0;omega,λt ht=>by have:=i3 t ht;omega⟩
structure vdl(E:List TX)(T:List Ub):Prop where
 right:WT T=true
 era:∀t∈T,∃e∈E,e.TI+t.TF=t.TI
 nl:∀(i:Nat) x y,T[i]? =some x->T[i+1]? =some y->Ye x y=false
theorem ju3(hr:∀x∈r.Tw,U5 x=true)(hE:∀e∈E,vau e)(h1:E≠[]){T:List Ub}(hT:Xf r E=(T,true)):vdl E T:=by
 unfold Xf at hT;split at hT
 case isFalse=>cases hT
 injection hT with t1 t2
 have hl:T.length<=600:=by rw[<- t1];exact VH t2
 have hp:0<E.length:=List.length_pos_iff.mpr h1;obtain⟨k,hk⟩:∃k,E.length=k+1:=⟨E.length-1,Q⟩;obtain⟨e,he⟩:∃e,E[k]? =some e:=⟨_,Ug Q⟩;have hm:=UH he;have hH:=jmi (r:=r) (nm:=e.Tw) (off:=e.TI) hr (hE e hm).off.1 (hE e hm).off.2;have⟨i1,i2,i3⟩:=j1r hr hE k Q;have hb:=(j1s (r:=r) (E:=E) k).1;rw[hk,jln he Q (show UI r E k=((UI r E k).1,(UI r E k).2)from rfl)]at t1;clear t2;generalize (Vg r e.Tw e.TI).1=H at *;generalize (UI r E k).1=S at *;generalize (UI r E k).2=b at *;simp only at t1;have⟨a1,a2,a3⟩:=jq8 (H:=H) (b:=b) (e:=253402300799);have⟨j1,j2,j3⟩:=i1.TL (f:=UZ e H) a1 (λt ht l hl=>by have:=i3 t ht;have:=(a2 l hl).1;omega) (λe0 l L' hl=>by rw[jpd hl];exact i2 e0) (jrc hm (hE e hm) hH);rw[t1]at j1 j2 j3;have az:T≠[]:=λe0=>by rw[(j3 e0).2]at a3;simp at a3
 have Ks:0<T.length:=List.length_pos_iff.mpr az;refine⟨?_,λt ht=>(j1.ok t ht).2,j1.nl⟩;have hu:Yj T=true:=jut λi x y hx hy=>by
  obtain⟨p1,rfl⟩:=Ux hx;obtain⟨p2,rfl⟩:=Ux hy;exact List.pairwise_iff_getElem.mp j1.up i (i+1) p1 p2 Q
 rw[jre ⟨Ks,hl⟩ (List.all_eq_true.mpr λt ht=>(j1.ok t ht).1) hu];obtain⟨n,hn⟩:∃n,T.length=n+1:=⟨T.length-1,Q⟩;obtain⟨x,hx⟩:∃x,T[0]? =some x:=⟨_,Ug Q⟩;obtain⟨y,hy⟩:∃y,T[n]? =some y:=⟨_,Ug Q⟩;rw[jxi hn hx hy,j1.hd x hx];have L0:y.at_<=253402300799:=by
  rcases j2 y (UH hy)with h|h
  .have:=i3 y h;omega
  .have:=a2 _ h;omega
 simp[L0]
theorem j0m{a b:ByteArray}(h:a.data.toList=b.data.toList):a=b:=by
 cases a with|mk a=>cases b with|mk b=>exact congrArg ByteArray.mk (Array.toList_inj.mp h)
theorem jx4(h:Um r=true)(az:(UU r nm).TR≠[]):UU r (UU r nm).name=UU r nm:=by
 have⟨_,i,hi,hz⟩:=je7 h az;generalize mS:UU r nm=z at *;have hn:(ZP (jgx r)).Nodup:=by
  have h':=h;unfold Um at h';simp only[UM]at h';exact VH h'.2.2.2.2.1
 unfold ZP jgx at hn;rw[Vr,List.nodup_append]at hn;have⟨n1,_,n3⟩:=hn;have hl:Wk r.TG z.name=z.name:=jiq λj hj y hy=>by
  cases he:(y.name.toList==z.name.toList)
  .rfl
  .exfalso
   have e1:y.name.data.toList=z.name.data.toList:=by have:=eq_of_beq he;rwa [YE,YE]at this
   exact n3 z.name.data.toList (List.mem_map.mpr ⟨z.name,List.mem_map.mpr ⟨z,UH hz,rfl⟩,rfl⟩) y.name.data.toList (List.mem_map.mpr ⟨y.name,List.mem_map.mpr ⟨y,UH hy,rfl⟩,rfl⟩) e1.symm
 have hx:WG r.TC z.name=some i:=jfh hz M λj hj y hy=>by
  cases he:(y.name.toList==z.name.toList)
  .rfl
  .exfalso
   have e1:y.name.data.toList=z.name.data.toList:=by have:=eq_of_beq he;rwa [YE,YE]at this
   have⟨p1,q1⟩:=Ux hy;have⟨p2,q2⟩:=Ux hz;have:=List.pairwise_iff_getElem.mp n1 j i (by simpa using p1) (by simpa using p2) hj;simp only[List.getElem_map]at this;rw[q1,q2]at this;exact this e1
 unfold UU;rw[if_pos h,hl,hx];simp only;rw[hz]
theorem j1n(hs:nm.size<=8000)(h:Um r=true)(az:(UU r nm).TR≠[])(dR:(UU r nm).name.size<=8000):UJ r (UU r nm).name=UJ r nm:=by
 unfold UJ;rw[if_pos hs,if_pos dR,jx4 h az]
theorem jm1(h:(UJ r nm).1=0):nm.size<=8000/\Um r=true/\(UU r nm).TR≠[]/\vdl (UU r nm).TR (UJ r nm).2:=by
 by_cases h1:nm.size<=8000
 case neg=>rw[j0y h1]at h;cases h
 cases h2:Um r
 case false=>rw[j0z h1 h2]at h;cases h
 by_cases h3:(UU r nm).TR=[]
 case pos=>rw[ju5 h1 h2 h3]at h;cases h
 cases h4:Xf r (UU r nm).TR with
 |mk T b=>
  cases b
  case false=>rw[ju4 h1 h2 h3 h4]at h;cases h
  have⟨z1,_⟩:=je7 h2 h3;refine⟨h1,rfl,h3,?_⟩;rw[ju6 h1 h2 h3 h4];exact ju3 (jid h2).2 (jhv z1).2 h3 h4
section
open Go.RowKit Go.ChangeMaps Go.MapKept Go.WideMaps
def YC(t:Int × List Ub)(e:TD):Int × Bool:=if t.1=0 then((Xy t.2 e.Ty e.TM e.TL).1,decide ((Xy t.2 e.Ty e.TM e.TL).2=0))else(0,false)
theorem jv3{t:Int × List Ub}(h:t.1≠0):YC t e=(0,false):=by unfold YC;rw[if_neg h]
theorem jrp{t:Int × List Ub}(h:t.1=0):YC t e=((Xy t.2 e.Ty e.TM e.TL).1,decide ((Xy t.2 e.Ty e.TM e.TL).2=0)):=by unfold YC;rw[if_pos h]
theorem jsw(h:(UJ r nm).1=0):(∀t∈(UJ r nm).2,t.ok)/\(UJ r nm).2.length<=1048576:=by
 have hb:=(jm1 h).2.2.2.right;unfold WT at hb;simp only[UM,decide_eq_true_eq,List.all_eq_true]at hb;have⟨h1,h2,_⟩:=hb;refine⟨λt ht=>?_,Q⟩;have h3:=h2 t ht;unfold Wv at h3;simp only[UM,decide_eq_true_eq]at h3;have:=h3.2.2;unfold Ub.ok maxLen;omega
structure va8(r:Un)(e:TD)(mb mn:Nat)(w:World)(q:Ending)(w':World):Prop where
 ex:q=V (.agg #[J (YC (UJ r (UU r e.TH).name) e).1,Z (YC (UJ r (UU r e.TH).name) e).2])
 cache:Zi w' mb (mn+1) r
 grown:w.grownBy w' (some mb)
end
theorem jzv(h:Um r=true)(hi:WE r nm=true):(UU r nm).TR≠[]:=by
 unfold WE at hi;cases hx:WG r.TC (Wk r.TG nm)with
 |none=>rw[hx]at hi;cases hi
 |some i=>
  have hl:i<r.TC.length:=by unfold WG at hx;exact(List.findIdx?_eq_some_iff_getElem.mp hx).1
  rw[jcr h hx (Ug hl)];intro he;have:=(jc9 h (List.getElem_mem hl)).1;rw[he]at this;simp at this
theorem jlk(h:Um r=true)(hi:WE r nm=true)(hz:nm.size<=8000):UJ r (UU r nm).name=UJ r nm:=j1n hz h (jzv h hi) (by have:=jkk (nm:=nm) h;omega)
def Vf(r:Un)(e:TD):Int × Bool:=YC (UJ r e.TH) e
def VA(s:Uo)(e:TD):Int × Bool:=if s.cur=0\/e.id<s.cur then Vf s.Tz e else Vf s.TE e
def W9(g:TD->Int × Bool)(L:List TZ)(e:TD):List TZ:=if (g e).2=true then Xr L ⟨(g e).1,e.id⟩else L
def UK(g:TD->Int × Bool)(l:List TD):List TZ:=l.foldl (W9 g) []
theorem jo5{g:TD->Int × Bool}{i:Nat}(h:l[i]? =some e):UK g (l.take (i+1))=W9 g (UK g (l.take i)) e:=by
 unfold UK;rw[List.take_add_one,h,List.foldl_append];rfl
theorem vdx{g:TD->Int × Bool}:x∈W9 g L e↔x∈L\/((g e).2=true/\x=⟨(g e).1,e.id⟩):=by
 unfold W9;split
 .rename_i h
  rw[vdN];constructor
  .rintro(h1|h1)
   .exact .inr ⟨h,h1⟩
   .exact .inl h1
  .rintro(h1|h1)
   .exact .inr h1
   .exact .inl h1.2
 .rename_i h
  exact⟨.inl,λh1=>h1.elim id λh2=>absurd h2.1 h⟩
theorem jz9{g:TD->Int × Bool}:x∈l.foldl (W9 g) L↔x∈L\/∃e∈l,(g e).2=true/\x=⟨(g e).1,e.id⟩:=by
 induction l generalizing L with
 |nil=>simp
 |cons a l ih=>
  rw[List.foldl_cons,ih,vdx];constructor
  .rintro((h|h)|⟨e,he,h⟩)
   .exact .inl h
   .exact .inr ⟨a,M,h⟩
   .exact .inr ⟨e,VW _ he,h⟩
  .rintro(h|⟨e,he,h⟩)
   .exact .inl (.inl h)
   .rcases List.mem_cons.mp he with rfl|he
    .exact .inl (.inr h)
    .exact .inr ⟨e,he,h⟩
theorem vb8{g:TD->Int × Bool}:x∈UK g l↔∃e∈l,(g e).2=true/\x=⟨(g e).1,e.id⟩:=by
 unfold UK;rw[jz9];simp
theorem j2o{g:TD->Int × Bool}(hl:l.Pairwise λx y=>x.id<y.id)(hL:ZR L)(hd:∀x∈L,∀e∈l,x.id≠e.id):ZR (l.foldl (W9 g) L):=by
 induction l generalizing L with
 |nil=>exact hL
 |cons a l ih=>
  have h2:=List.pairwise_cons.mp hl;rw[List.foldl_cons];refine ih h2.2 ?_ λx hx e he=>?_
  .unfold W9
   split
   .exact j2d hL λhm=>hd _ hm a M rfl
   .exact hL
  .rcases vdx.mp hx with h|h
   .exact hd x h e (VW _ he)
   .rw[h.2]
    have:=h2.1 e he;simp only;omega
theorem jq2{g:TD->Int × Bool}(hl:l.Pairwise λx y=>x.id<y.id):ZR (UK g l):=j2o hl (by unfold ZR;exact List.Pairwise.nil) (λx hx=>by simp at hx)
theorem j0a{g:TD->Int × Bool}:(l.foldl (W9 g) L).length<=L.length+l.length:=by
 induction l generalizing L with
 |nil=>simp
 | cons a l ih=>
  rw[List.foldl_cons,List.length_cons];have h1:(W9 g L a).length<=L.length+1:=by
   unfold W9;split
   .rw[ja9];omega
   .omega
  have:=ih (L:=W9 g L a);omega
theorem jep(g:TD->Int × Bool)(l:List TD):(UK g l).length<=l.length:=by
 have:=j0a (g:=g) (l:=l) (L:=[])
 simpa [UK]using this
theorem jo6{g h:TD->Int × Bool}(hs:∀e∈l,g e=h e):UK g l=UK h l:=by
 unfold UK
 suffices H:∀L,l.foldl (W9 g) L=l.foldl (W9 h) L from H []
 induction l with
 |nil=>exact λL=>rfl
 |cons a l ih=>
  intro L;rw[List.foldl_cons,List.foldl_cons,show W9 g L a=W9 h L a by unfold W9;rw[hs a M]];exact ih (λe he=>hs e (VW _ he)) _
theorem j0f{f:Int->Option TD}{g:TD->Int × Bool}{L:List TD}{P:List TZ}(hT:YI f L)(hL:L.Pairwise λx y=>x.id<y.id)(hP:P.Nodup)(hm:∀x,x∈P↔∃e,f e.id=some e/\(g e).2=true/\x=⟨(g e).1,e.id⟩):ZN P=UK g L:=
 jus (jyp hP) (jq2 hL) λx=>by
  rw[jvg,hm,vb8];constructor
  .rintro⟨e,h1,h2⟩
   exact⟨e,(hT.mem e).mpr h1,h2⟩
  .rintro⟨e,h1,h2⟩
   exact⟨e,(hT.mem e).mp h1,h2⟩
section
open Go.RowKit Go.ChangeMaps Go.MapKept Go.WideMaps
set_option maxRecDepth 20000 in
theorem jfd(r:Un)(a b c:Option Addr)(ca cb cc mb mn:Nat)(ev:TD)(w:World)(hE:Zx w)(hv:Zd w (.agg #[U a r.Tw.length ca,U b r.TC.length cb,U c r.TG.length cc]) r)(ok:Jk r)(hr:Um r=true)(hC:Zi w mb mn r)(lE:mn<=1048576):
  C 50 #[.agg #[U a r.Tw.length ca,U b r.TC.length cb,U c r.TG.length cc,.map (some mb)],ev.v] w (va8 r ev mb mn w):=by
 obtain⟨id,name,TH,Ty,TM,TL⟩:=ev;simp only[TD.v];have⟨W0,j6⟩:=TY ((((w.alloc (G #[U a r.Tw.length ca,U b r.TC.length cb,U c r.TG.length cc,.map (some mb)] 76)).alloc (G #[J id,I name,I TH,J Ty,J TM,J TL] 43)).alloc (G #[J 0,Z false] 148)));have aj:Bw w W0:=by rw[<- j6];exact((TK _ _).alloc M _).alloc Z6 _
 have hT:=jtq r a b c ca cb cc mb mn TH W0 (hE.of_below aj) (hv.below aj) ok hr (hC.below aj) lE;have Kl:=hC.lt;have MI:W0.cell? (O w.heap.size 0)=some (U a r.Tw.length ca):=by rw[<- j6];simp[go_sem]
 have MJ:W0.cell? (O w.heap.size 1)=some (U b r.TC.length cb):=by rw[<- j6];simp[go_sem]
 have MK:W0.cell? (O w.heap.size 2)=some (U c r.TG.length cc):=by rw[<- j6];simp[go_sem]
 have ML:W0.cell? (O w.heap.size 3)=some (.map (some mb)):=by rw[<- j6];simp[go_sem]
 have GZ:W0.cell? (O (w.heap.size+1) 2)=some (I TH):=by rw[<- j6];simp[go_sem]
 have H8:W0.cell? (O (w.heap.size+1) 3)=some (J Ty):=by rw[<- j6];simp[go_sem]
 have H9:W0.cell? (O (w.heap.size+1) 4)=some (J TM):=by rw[<- j6];simp[go_sem]
 have DD:W0.cell? (O (w.heap.size+1) 5)=some (J TL):=by rw[<- j6];simp[go_sem]
 have yv:W0.cell? (O (w.heap.size+1+1) 0)=some (J 0):=by rw[<- j6];simp[go_sem]
 have DH:W0.cell? (O (w.heap.size+1+1) 1)=some (Z false):=by rw[<- j6];simp[go_sem]
 have f0:W0.frozen? (O (w.heap.size+1+1) 0)=false:=by rw[<- j6];simp[go_sem]
 have f1:W0.frozen? (O (w.heap.size+1+1) 1)=false:=by rw[<- j6];simp[go_sem]
 have hh:W0.heap[w.heap.size+1+1]? =some (Obj.cells #[J 0,Z false] 148):=by
  rw[<- j6];have h:=heap_alloc_new ((w.alloc (G #[U a r.Tw.length ca,U b r.TC.length cb,U c r.TG.length cc,.map (some mb)] 76)).alloc (G #[J id,I name,I TH,J Ty,J TM,J TL] 43)) (G #[J 0,Z false] 148);have e:((w.alloc (G #[U a r.Tw.length ca,U b r.TC.length cb,U c r.TG.length cc,.map (some mb)] 76)).alloc (G #[J id,I name,I TH,J Ty,J TM,J TL] 43)).heap.size=w.heap.size+1+1:=M;rw[e]at h;exact h
 have cQ:w.grownBy W0 (some mb):=(YP aj).but _;have HC:=hid hC;clear hv hE ok hr hC lE;delta C;go_in;go_wp2_with fail;refine hT.mono ?_;rintro q W2 hP;obtain⟨⟨ta,tn,tc,tk⟩,rfl,Fz⟩:=hP.ex;have iq:=hid hP.cache;have bR:=hP.grown;clear hP hT;simp only[VD.v];have HT:=hid Fz;clear Fz;have y12:=bR.cell GZ Z6;have y13:=bR.cell H8 Z6;have y14:=bR.cell H9 Z6;have y15:=bR.cell DD Z6;have y20:=bR.cell yv Z6;have y21:=bR.cell DH Z6;have h0:some (w.heap.size+1+1)≠some mb:=Z6;have g0:=(bR.frozen_far (O (w.heap.size+1+1) 0) (TV yv) h0).trans f0;have g1:=(bR.frozen_far (O (w.heap.size+1+1) 1) (TV DH) h0).trans f1;have oA:=(bR.block _ (TV yv) h0).trans hh;have HG:Hid (w.grownBy W2 (some mb)):=cQ.andThen bR (λ_ h=>.inr h);have hlt:=TV y20;dsimp only at hlt;clear MI MJ MK ML GZ H8 H9 DD yv DH f0 f1 hh cQ bR aj;have b3:=TK W2 (G #[U ta tn tc,J tk] 110);by_cases hk:tk=0
 .subst hk
  have hd:(UJ r (UU r TH).name).1=0:=HT.out.code.symm;have hs:=jsw hd;have HM:Hid (YC (UJ r (UU r TH).name) ⟨id,name,TH,Ty,TM,TL⟩=((Xy (UJ r (UU r TH).name).2 Ty TM TL).1,decide ((Xy (UJ r (UU r TH).name).2 Ty TM TL).2=0))):=jrp hd;have hn:=HT.out.n;have hq:=HT.out.seq.below b3;dsimp only at hn hq;have⟨l,hl⟩:=TY ((UJ r (UU r TH).name).2);rw[hl]at hs hn hq;have HL:=hid hl;clear hl hd;have hR:=jos l (.agg #[U ta tn tc]) Ty TM TL _ ⟨ta,tc,by rw[hn],hq⟩ hs.1 hs.2;have HQ:Hid (YC (UJ r (UU r TH).name) ⟨id,name,TH,Ty,TM,TL⟩=((Xy l Ty TM TL).1,decide ((Xy l Ty TM TL).2=0))):=by simp only[Hid];rw[HM.out,HL.out]
  clear HM hn hq hs;have⟨⟨N,Tv⟩,sG⟩:=TY (Xy l Ty TM TL);rw[sG]at hR HQ;clear sG;simp only[UW]at hR;have z13:=Tx b3 y13;have z14:=Tx b3 y14;have z15:=Tx b3 y15;have z20:=Tx b3 y20;have Sg:=Tx b3 y21;have k0:=U2 b3 y20 g0;have k1:=U2 b3 y21 g1;go_wp2_with fail;refine hR.mono ?_;rintro q W4 ⟨rfl,aD⟩;have b4:Bw W2 W4:=TJ b3 aD;have v20:=Tx b4 y20;have JD:=Tx b4 y21;have m0:=U2 b4 y20 g0;have m1:=U2 b4 y21 g1;have FW:=(b4.block _ (TV y20)).trans oA;have hlt4:=TV v20;dsimp only at hlt4;have Eh:Hid (w.grownBy W4 (some mb)):=HG.out.andThen (YP b4) (λ_ h=>by cases h);have Ec:Hid (Zi W4 mb (mn+1) r):=iq.out.below b4;clear z13 z14 z15 z20 Sg k0 k1 aD hR;by_cases hc:Tv=0
  .subst hc
   have HE:Hid (YC (UJ r (UU r TH).name) ⟨id,name,TH,Ty,TM,TL⟩=(N,true)):=by simp only[Hid];rw[HQ.out];rfl
   have G7:=jbz W4 (w.heap.size+1+1) (J N) (Z true);have G8:W4.grownBy (((W4.setCell (O (w.heap.size+1+1) 0) (J N)).setCell (O (w.heap.size+1+1) 1) (Z true)).alloc (G #[J N,J 0] 113)) (some (w.heap.size+1+1)):=G7.andThen (World.grownBy_alloc _ _ none) (λ_ h=>by cases h);have HP:Hid (va8 r ⟨id,name,TH,Ty,TM,TL⟩ mb mn w (V (.agg #[J N,Z true])) (((W4.setCell (O (w.heap.size+1+1) 0) (J N)).setCell (O (w.heap.size+1+1) 1) (Z true)).alloc (G #[J N,J 0] 113))):=⟨by rw[HE.out],Ec.out.grown G8 Q (λcs h=>by rw[FW]at h;injection h with h;injection h with _ h _;exact absurd h Z5),Eh.out.andThen G8 (λj h=>by injection h with h;omega)⟩;have⟨t0,t1⟩:=XC (v0:=J N) (v1:=Z true) v20 JD;have b5:=(Ui _ ((W4.setCell (O (w.heap.size+1+1) 0) (J N)).setCell (O (w.heap.size+1+1) 1) (Z true))).alloc (TP _) (G #[J N,J 0] 113);have rE:=Tx b5 t0;have jp:=Tx b5 t1;clear G7 G8;go_wp2;exact Ue (v:=.agg #[J N,Z true]) (by simp[results,Tryz.results50,go_sem,rE,jp]) rfl HP.out
  .have cU:(Tv==0)=false:=by simp[hc]
   have HE:Hid (YC (UJ r (UU r TH).name) ⟨id,name,TH,Ty,TM,TL⟩=(N,false)):=by simp only[Hid];rw[HQ.out];rw[dfe hc]
   have G7:=jbz W4 (w.heap.size+1+1) (J N) (Z false);have G8:W4.grownBy (((W4.setCell (O (w.heap.size+1+1) 0) (J N)).setCell (O (w.heap.size+1+1) 1) (Z false)).alloc (G #[J N,J Tv] 113)) (some (w.heap.size+1+1)):=G7.andThen (World.grownBy_alloc _ _ none) (λ_ h=>by cases h);have HP:Hid (va8 r ⟨id,name,TH,Ty,TM,TL⟩ mb mn w (V (.agg #[J N,Z false])) (((W4.setCell (O (w.heap.size+1+1) 0) (J N)).setCell (O (w.heap.size+1+1) 1) (Z false)).alloc (G #[J N,J Tv] 113))):=⟨by rw[HE.out],Ec.out.grown G8 Q (λcs h=>by rw[FW]at h;injection h with h;injection h with _ h _;exact absurd h Z5),Eh.out.andThen G8 (λj h=>by injection h with h;omega)⟩;have⟨t0,t1⟩:=XC (v0:=J N) (v1:=Z false) v20 JD;have b5:=(Ui _ ((W4.setCell (O (w.heap.size+1+1) 0) (J N)).setCell (O (w.heap.size+1+1) 1) (Z false))).alloc (TP _) (G #[J N,J Tv] 113);have rE:=Tx b5 t0;have jp:=Tx b5 t1;clear G7 G8;go_wp2;exact Ue (v:=.agg #[J N,Z false]) (by simp[results,Tryz.results50,go_sem,rE,jp]) rfl HP.out
 .have HM:Hid (YC (UJ r (UU r TH).name) ⟨id,name,TH,Ty,TM,TL⟩=(0,false)):=jv3 (by rw[<- HT.out.code];exact hk)
  have fy:(tk==0)=false:=by simp[hk]
  have G7:=jbz W2 (w.heap.size+1+1) (J 0) (Z false);have G8:W2.grownBy (((W2.setCell (O (w.heap.size+1+1) 0) (J 0)).setCell (O (w.heap.size+1+1) 1) (Z false)).alloc (G #[U ta tn tc,J tk] 110)) (some (w.heap.size+1+1)):=G7.andThen (World.grownBy_alloc _ _ none) (λ_ h=>by cases h);have HP:Hid (va8 r ⟨id,name,TH,Ty,TM,TL⟩ mb mn w (V (.agg #[J 0,Z false])) (((W2.setCell (O (w.heap.size+1+1) 0) (J 0)).setCell (O (w.heap.size+1+1) 1) (Z false)).alloc (G #[U ta tn tc,J tk] 110))):=⟨by rw[HM.out],iq.out.grown G8 Q (λcs h=>by rw[oA]at h;injection h with h;injection h with _ h _;exact absurd h Z5),HG.out.andThen G8 (λj h=>by injection h with h;omega)⟩;have⟨t0,t1⟩:=XC (v0:=J 0) (v1:=Z false) y20 y21;have b5:=(Ui _ ((W2.setCell (O (w.heap.size+1+1) 0) (J 0)).setCell (O (w.heap.size+1+1) 1) (Z false))).alloc (TP _) (G #[U ta tn tc,J tk] 110);have rE:=Tx b5 t0;have jp:=Tx b5 t1;clear G7 G8;go_wp2;exact Ue (v:=.agg #[J 0,Z false]) (by simp[results,Tryz.results50,go_sem,rE,jp]) rfl HP.out
