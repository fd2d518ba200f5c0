import Derived.Test.YtpejeokacilebaaGreatDoorSDd
import Derived.Test.YtpejeokacilebaaGreatDoorSEd
set_option maxHeartbeats 0
set_option linter.unusedSimpArgs false
open Go.RowKit
namespace Go.Proofs.YtpejeokacilebaaGreatDoor
theorem j0i(a l:List UInt8)(s:Int):(jdf (jdw a s) l).length<=a.length+l.length:=by
 have h1:=jlz a s
 unfold jdf
 split
 ·simp only[lla,List.length_take,List.length_drop];omega
 ·omega
theorem j0r{f l:ByteArray}{s:Int}(hf:f.size<=12)(hl:l.size<=6):(jki f l s).size<=20:=by
 rw[jjv ⟨by omega,by omega⟩]
 have h:=j0i f.data.toList l.data.toList s
 simp only[Array.length_toList]at h
 show(List.toArray _).size<=20
 rw[List.size_toArray]
 have h1:f.data.size=f.size:=rfl
 have h2:l.data.size=l.size:=rfl
 omega
structure TInv(E:List EraD)(T:List TurnD):Prop where
 up:T.Pairwise fun x y=>x.at_<y.at_
 hd:∀a,T[0]? =some a->a.at_= -62135596800
 ok:∀t∈T,jb8 t=true/\∃e∈E,e.offset+t.save=t.offset
 nl:∀(i:Nat) x y,T[i]? =some x->T[i+1]? =some y->jd6 x y=false
theorem TInv.add{E:List EraD}{T:List TurnD}{x:TurnD}(h:TInv E T)(hx:∀t∈T,t.at_<x.at_)(h0:T=[]->x.at_= -62135596800)(gW:jb8 x=true/\∃e∈E,e.offset+x.save=x.offset):TInv E (addT T x)/\(∀u∈addT T x,u∈T\/u=x)/\addT T x≠[]:=by
 have mU:(∀y,T.getLast? =some y->jd6 y x=false)->TInv E (T++[x])/\(∀u∈T++[x],u∈T\/u=x)/\T++[x]≠[]:=fun hl=>by
  refine⟨⟨?_,?_,?_,?_⟩,fun u hu=>by simpa using hu,by simp⟩
  ·refine List.pairwise_append.mpr ⟨h.up,by simp,fun a ha b hb=>?_⟩
   simp at hb
   subst hb
   exact hx a ha
  ·intro a ha
   by_cases hT:T=[]
   ·subst hT
    simp at ha
    subst ha
    exact h0 rfl
   ·have hp:0<T.length:=List.length_pos_iff.mpr hT
    rw[lgl hp]at ha
    exact h.hd a ha
  ·intro t ht
   rcases List.mem_append.mp ht with ht|ht
   ·exact h.ok t ht
   ·simp at ht
    subst ht
    exact gW
  ·intro i a b ha hb
   by_cases hi:i+1<T.length
   ·rw[lgl (by omega)]at ha
    rw[lgl hi]at hb
    exact h.nl i a b ha hb
   ·have fG:=(lgs hb).1
    simp at fG
    have e:i+1=T.length:=by omega
    rw[lgl (by omega)]at ha
    rw[e,List.getElem?_append_right (by omega)]at hb
    simp at hb
    subst hb
    exact hl a (by rw[List.getLast?_eq_getElem?,show T.length-1=i by omega];exact ha)
 unfold addT
 split
 ·rename_i y hy
  split
  ·exact⟨h,fun u hu=>.inl hu,fun e=>by subst e;simp at hy⟩
  ·rename_i hn
   exact mU fun z hz=>by
    rw[hy]at hz
    obtain rfl:=osi hz
    simpa using hn
 ·rename_i hn
  exact mU fun z hz=>by rw[hn]at hz;cases hz
theorem TInv.fold{E:List EraD}{f:Int->TurnD}:∀{L:List Int} {T:List TurnD},TInv E T->L.Pairwise (· < ·)->(∀t∈T,∀l∈L,t.at_<l)->(T=[]->∀l L',L=l::L'->l= -62135596800)->(∀l,(f l).at_=l/\jb8 (f l)=true/\∃e∈E,e.offset+(f l).save=(f l).offset)->
  TInv E (ja8 f L T)/\(∀u∈ja8 f L T,u∈T\/u.at_∈L)/\(ja8 f L T=[]->T=[]/\L=[]):=by
 intro L
 induction L with
 |nil=>intro T h _ _ _ _;exact⟨h,fun u hu=>.inl hu,fun e=>⟨e,rfl⟩⟩
 |cons l L ih=>
  intro T h hL hT h0 hf
  rw[foldT_cons]
  have km:=List.pairwise_cons.mp hL
  obtain⟨f1,f2,f3⟩:=hf l
  obtain⟨i1,i2,i3⟩:=h.add (x:=f l) (fun t ht=>by rw[f1];exact hT t ht l (by simp)) (fun e=>by rw[f1];exact h0 e l L rfl) ⟨f2,f3⟩
  obtain⟨j1,j2,j3⟩:=ih i1 km.2 (fun t ht m hm=>by
   rcases i2 t ht with e|e
   ·exact hT t e m (lmc _ hm)
   ·subst e
    rw[f1]
    exact km.1 m hm) (fun e=>absurd e i3) hf
  refine⟨j1,fun u hu=>?_,fun e=>absurd (j3 e).1 i3⟩
  rcases j2 u hu with e|e
  ·rcases i2 u e with e|e
   ·exact .inl e
   ·subst e
    right
    rw[f1]
    simp
  ·exact .inr (lmc _ e)
theorem jq8{H:List HapD}{b e:Int}:(atsF b (inX H b e)).Pairwise (· < ·)/\(∀t∈atsF b (inX H b e),b<=t/\(t=b\/t<e))/\b∈atsF b (inX H b e):=by
 have h:=jsk (X:=inX H b e) (A:=[b]) (by simp)
 refine⟨h.1,fun t ht=>?_,(h.2 b).mpr (.inl (by simp))⟩
 rcases(h.2 t).mp ht with e1|e1
 ·simp at e1;omega
 ·unfold inX at e1
  rw[List.mem_filter]at e1
  simp at e1
  omega
theorem jpd{H:List HapD}{b e l:Int}{L:List Int}(h:atsF b (inX H b e)=l::L):l=b:=by
 obtain⟨h1,h2,h3⟩:=jq8 (H:=H) (b:=b) (e:=e)
 rw[h]at h1 h2 h3
 have h4:=(h2 l (by simp)).1
 rcases List.mem_cons.mp h3 with e1|e1
 ·exact e1.symm
 ·have:=(List.pairwise_cons.mp h1).1 b e1
  omega
theorem jrc{E:List EraD}{e:EraD}{H:List HapD}(he:e∈E)(hE:EraR e)(hH:∀h∈H,HapB h)(l:Int):(turnE e H l).at_=l/\jb8 (turnE e H l)=true/\∃x∈E,x.offset+(turnE e H l).save=(turnE e H l).offset:=by
 obtain⟨⟨s1,s2⟩,s3⟩:=jmk hE hH l
 obtain⟨o1,o2⟩:=hE.off
 refine⟨rfl,turn_yes ?_ ?_ ?_,e,he,rfl⟩
 ·show isB (e.offset+(jas e H l).save) (-100000) 100000=true
  unfold isB;simp;omega
 ·show isB (jas e H l).save (-7200) 7200=true
  unfold isB;simp;omega
 ·exact j0r hE.fmt s3
theorem j1r{r:RelD}{E:List EraD}(hr:∀x∈r.rules,jaw x=true)(hE:∀e∈E,EraR e):∀k,k<E.length->TInv E (stK r E k).1/\((stK r E k).1=[]->(stK r E k).2= -62135596800)/\∀t∈(stK r E k).1,t.at_<(stK r E k).2:=by
 intro k
 induction k with
 |zero=>intro _;exact⟨⟨by simp[stK],by simp[stK],by simp[stK],by simp[stK]⟩,fun _=>rfl,by simp[stK]⟩
 |succ k ih=>
  intro hk
  obtain⟨i1,i2,i3⟩:=ih (by omega)
  obtain⟨e,he⟩:∃e,E[k]? =some e:=⟨_,lgg (by omega)⟩
  have hm:=lmg he
  have hH:=jmi (r:=r) (nm:=e.rules) (off:=e.offset) hr (hE e hm).off.1 (hE e hm).off.2
  rw[jlm he (by omega) (show stK r E k=((stK r E k).1,(stK r E k).2)from rfl)]
  generalize (ja2 r e.rules e.offset).1=H at *
  generalize (stK r E k).1=T at *
  generalize (stK r E k).2=b at *
  simp only
  have hbe:b<=endE e H b:=by unfold endE;omega
  split
  ·rename_i hlt
   obtain⟨a1,a2,a3⟩:=jq8 (H:=H) (b:=b) (e:=endE e H b)
   obtain⟨j1,j2,j3⟩:=i1.fold (f:=turnE e H) a1 (fun t ht l hl=>by have:=i3 t ht;have:=(a2 l hl).1;omega) (fun e0 l L' hl=>by rw[jpd hl];exact i2 e0) (jrc hm (hE e hm) hH)
   refine⟨j1,fun e0=>?_,fun t ht=>?_⟩
   ·rw[(j3 e0).2]at a3;simp at a3
   ·rcases j2 t ht with h|h
    ·have:=i3 t h;omega
    ·have:=a2 _ h;omega
  ·rename_i hn
   refine⟨i1,fun e0=>by have:=i2 e0;omega,fun t ht=>by have:=i3 t ht;omega⟩
structure TabG(E:List EraD)(T:List TurnD):Prop where
 right:tabB T=true
 era:∀t∈T,∃e∈E,e.offset+t.save=t.offset
 nl:∀(i:Nat) x y,T[i]? =some x->T[i+1]? =some y->jd6 x y=false
theorem ju3{r:RelD}{E:List EraD}(hr:∀x∈r.rules,jaw x=true)(hE:∀e∈E,EraR e)(h1:E≠[]){T:List TurnD}(hT:tabE r E=(T,true)):TabG E T:=by
 unfold tabE at hT
 split at hT
 case isFalse=>cases hT
 injection hT with t1 t2
 have hl:T.length<=600:=by rw[<- t1];exact odt t2
 have hp:0<E.length:=List.length_pos_iff.mpr h1
 obtain⟨k,hk⟩:∃k,E.length=k+1:=⟨E.length-1,by omega⟩
 obtain⟨e,he⟩:∃e,E[k]? =some e:=⟨_,lgg (by omega)⟩
 have hm:=lmg he
 have hH:=jmi (r:=r) (nm:=e.rules) (off:=e.offset) hr (hE e hm).off.1 (hE e hm).off.2
 obtain⟨i1,i2,i3⟩:=j1r hr hE k (by omega)
 have hb:=(j1s (r:=r) (E:=E) k).1
 rw[hk,jln he (by omega) (show stK r E k=((stK r E k).1,(stK r E k).2)from rfl)]at t1
 clear t2
 generalize (ja2 r e.rules e.offset).1=H at *
 generalize (stK r E k).1=S at *
 generalize (stK r E k).2=b at *
 simp only at t1
 obtain⟨a1,a2,a3⟩:=jq8 (H:=H) (b:=b) (e:=253402300799)
 obtain⟨j1,j2,j3⟩:=i1.fold (f:=turnE e H) a1 (fun t ht l hl=>by have:=i3 t ht;have:=(a2 l hl).1;omega) (fun e0 l L' hl=>by rw[jpd hl];exact i2 e0) (jrc hm (hE e hm) hH)
 rw[t1]at j1 j2 j3
 have az:T≠[]:=fun e0=>by rw[(j3 e0).2]at a3;simp at a3
 have Ks:0<T.length:=List.length_pos_iff.mpr az
 refine⟨?_,fun t ht=>(j1.ok t ht).2,j1.nl⟩
 have hu:upT T=true:=jut fun i x y hx hy=>by
  obtain⟨p1,rfl⟩:=lgs hx
  obtain⟨p2,rfl⟩:=lgs hy
  exact List.pairwise_iff_getElem.mp j1.up i (i+1) p1 p2 (by omega)
 rw[jre ⟨Ks,hl⟩ (List.all_eq_true.mpr fun t ht=>(j1.ok t ht).1) hu]
 obtain⟨n,hn⟩:∃n,T.length=n+1:=⟨T.length-1,by omega⟩
 obtain⟨x,hx⟩:∃x,T[0]? =some x:=⟨_,lgg (by omega)⟩
 obtain⟨y,hy⟩:∃y,T[n]? =some y:=⟨_,lgg (by omega)⟩
 rw[jxi hn hx hy,j1.hd x hx]
 have L0:y.at_<=253402300799:=by
  rcases j2 y (lmg hy)with h|h
  ·have:=i3 y h;omega
  ·have:=a2 _ h;omega
 simp[L0]
theorem j0m{a b:ByteArray}(h:a.data.toList=b.data.toList):a=b:=by
 cases a with|mk a=>cases b with|mk b=>exact congrArg ByteArray.mk (Array.toList_inj.mp h)
theorem jx4{r:RelD}{nm:ByteArray}(h:relB r=true)(az:(jao r nm).eras≠[]):jao r (jao r nm).name=jao r nm:=by
 obtain⟨_,i,hi,hz⟩:=je7 h az
 generalize mS:jao r nm=z at *
 have hn:(jha (jgx r)).Nodup:=by
  have h':=h
  unfold relB at h'
  simp only[bat]at h'
  exact odt h'.2.2.2.2.1
 unfold jha jgx at hn
 rw[lma,List.nodup_append]at hn
 obtain⟨n1,_,n3⟩:=hn
 have hl:jba r.links z.name=z.name:=jiq fun j hj y hy=>by
  cases he:(y.name.toList==z.name.toList)
  ·rfl
  ·exfalso
   have e1:y.name.data.toList=z.name.data.toList:=by have:=eq_of_beq he;rwa [toList_dataA,toList_dataA]at this
   exact n3 z.name.data.toList (List.mem_map.mpr ⟨z.name,List.mem_map.mpr ⟨z,lmg hz,rfl⟩,rfl⟩) y.name.data.toList (List.mem_map.mpr ⟨y.name,List.mem_map.mpr ⟨y,lmg hy,rfl⟩,rfl⟩) e1.symm
 have hx:jbg r.zones z.name=some i:=jfh hz (by simp) fun j hj y hy=>by
  cases he:(y.name.toList==z.name.toList)
  ·rfl
  ·exfalso
   have e1:y.name.data.toList=z.name.data.toList:=by have:=eq_of_beq he;rwa [toList_dataA,toList_dataA]at this
   obtain⟨p1,q1⟩:=lgs hy
   obtain⟨p2,q2⟩:=lgs hz
   have:=List.pairwise_iff_getElem.mp n1 j i (by simpa using p1) (by simpa using p2) hj
   simp only[List.getElem_map]at this
   rw[q1,q2]at this
   exact this e1
 unfold jao
 rw[if_pos h,hl,hx]
 simp only
 rw[hz]
theorem j1n{r:RelD}{nm:ByteArray}(hs:nm.size<=8000)(h:relB r=true)(az:(jao r nm).eras≠[])(dR:(jao r nm).name.size<=8000):tabD r (jao r nm).name=tabD r nm:=by
 unfold tabD
 rw[if_pos hs,if_pos dR,jx4 h az]
theorem jm1{r:RelD}{nm:ByteArray}(h:(tabD r nm).1=0):nm.size<=8000/\relB r=true/\(jao r nm).eras≠[]/\TabG (jao r nm).eras (tabD r nm).2:=by
 by_cases h1:nm.size<=8000
 case neg=>rw[j0y h1]at h;cases h
 cases h2:relB r
 case false=>rw[j0z h1 h2]at h;cases h
 by_cases h3:(jao r nm).eras=[]
 case pos=>rw[ju5 h1 h2 h3]at h;cases h
 cases h4:tabE r (jao r nm).eras with
 |mk T b=>
  cases b
  case false=>rw[ju4 h1 h2 h3 h4]at h;cases h
  obtain⟨z1,_⟩:=je7 h2 h3
  refine⟨h1,rfl,h3,?_⟩
  rw[ju6 h1 h2 h3 h4]
  exact ju3 (jid h2).2 (jhv z1).2 h3 h4
section
open Go.RowKit Go.ChangeMaps Go.MapKept Go.WideMaps
def momT(t:Int × List TurnD)(e:EventD):Int × Bool:=if t.1=0 then((resD t.2 e.wall e.gap e.fold).1,decide ((resD t.2 e.wall e.gap e.fold).2=0))else(0,false)
theorem jv3{t:Int × List TurnD}{e:EventD}(h:t.1≠0):momT t e=(0,false):=by unfold momT;rw[if_neg h]
theorem jrp{t:Int × List TurnD}{e:EventD}(h:t.1=0):momT t e=((resD t.2 e.wall e.gap e.fold).1,decide ((resD t.2 e.wall e.gap e.fold).2=0)):=by unfold momT;rw[if_pos h]
theorem jsw{r:RelD}{nm:ByteArray}(h:(tabD r nm).1=0):(∀t∈(tabD r nm).2,t.ok)/\(tabD r nm).2.length<=1048576:=by
 have hb:=(jm1 h).2.2.2.right
 unfold tabB at hb
 simp only[bat,decide_eq_true_eq,List.all_eq_true]at hb
 obtain⟨h1,h2,_⟩:=hb
 refine⟨fun t ht=>?_,by omega⟩
 have h3:=h2 t ht
 unfold jb8 at h3
 simp only[bat,decide_eq_true_eq]at h3
 have:=h3.2.2
 unfold TurnD.ok maxLen
 omega
structure MomP(r:RelD)(e:EventD)(mb mn:Nat)(w:World)(q:Ending)(w':World):Prop where
 ex:q=.returned (.agg #[iv (momT (tabD r (jao r e.zone).name) e).1,.bool (momT (tabD r (jao r e.zone).name) e).2])
 cache:Zi w' mb (mn+1) r
 grown:w.grownBy w' (some mb)
end
theorem jzv{r:RelD}{nm:ByteArray}(h:relB r=true)(hi:inR r nm=true):(jao r nm).eras≠[]:=by
 unfold inR at hi
 cases hx:jbg r.zones (jba r.links nm)with
 |none=>rw[hx]at hi;cases hi
 |some i=>
  have hl:i<r.zones.length:=by unfold jbg at hx;exact(List.findIdx?_eq_some_iff_getElem.mp hx).1
  rw[jcr h hx (lgg hl)]
  intro he
  have:=(jc9 h (List.getElem_mem hl)).1
  rw[he]at this
  simp at this
theorem jlk{r:RelD}{nm:ByteArray}(h:relB r=true)(hi:inR r nm=true)(hz:nm.size<=8000):tabD r (jao r nm).name=tabD r nm:=j1n hz h (jzv h hi) (by have:=jkk (nm:=nm) h;omega)
def momR(r:RelD)(e:EventD):Int × Bool:=momT (tabD r e.zone) e
def momS(s:StoreD)(e:EventD):Int × Bool:=if s.cur=0\/e.id<s.cur then momR s.now e else momR s.was e
def entAdd(g:EventD->Int × Bool)(L:List EntryD)(e:EventD):List EntryD:=if (g e).2=true then insX L ⟨(g e).1,e.id⟩else L
def entF(g:EventD->Int × Bool)(l:List EventD):List EntryD:=l.foldl (entAdd g) []
theorem jo5{g:EventD->Int × Bool}{l:List EventD}{i:Nat}{e:EventD}(h:l[i]? =some e):entF g (l.take (i+1))=entAdd g (entF g (l.take i)) e:=by
 unfold entF
 rw[List.take_add_one,h,List.foldl_append]
 rfl
theorem entAdd_mem{g:EventD->Int × Bool}{L:List EntryD}{e:EventD}{x:EntryD}:x∈entAdd g L e↔x∈L\/((g e).2=true/\x=⟨(g e).1,e.id⟩):=by
 unfold entAdd
 split
 ·rename_i h
  rw[insX_mem]
  constructor
  ·rintro(h1|h1)
   ·exact .inr ⟨h,h1⟩
   ·exact .inl h1
  ·rintro(h1|h1)
   ·exact .inr h1
   ·exact .inl h1.2
 ·rename_i h
  exact⟨.inl,fun h1=>h1.elim id fun h2=>absurd h2.1 h⟩
theorem jz9{g:EventD->Int × Bool}{l:List EventD}{L:List EntryD}{x:EntryD}:x∈l.foldl (entAdd g) L↔x∈L\/∃e∈l,(g e).2=true/\x=⟨(g e).1,e.id⟩:=by
 induction l generalizing L with
 |nil=>simp
 |cons a l ih=>
  rw[List.foldl_cons,ih,entAdd_mem]
  constructor
  ·rintro((h|h)|⟨e,he,h⟩)
   ·exact .inl h
   ·exact .inr ⟨a,by simp,h⟩
   ·exact .inr ⟨e,lmc _ he,h⟩
  ·rintro(h|⟨e,he,h⟩)
   ·exact .inl (.inl h)
   ·rcases List.mem_cons.mp he with rfl|he
    ·exact .inl (.inr h)
    ·exact .inr ⟨e,he,h⟩
theorem entF_mem{g:EventD->Int × Bool}{l:List EventD}{x:EntryD}:x∈entF g l↔∃e∈l,(g e).2=true/\x=⟨(g e).1,e.id⟩:=by
 unfold entF
 rw[jz9]
 simp
theorem j2o{g:EventD->Int × Bool}{l:List EventD}{L:List EntryD}(hl:l.Pairwise fun x y=>x.id<y.id)(hL:jhm L)(hd:∀x∈L,∀e∈l,x.id≠e.id):jhm (l.foldl (entAdd g) L):=by
 induction l generalizing L with
 |nil=>exact hL
 |cons a l ih=>
  have h2:=List.pairwise_cons.mp hl
  rw[List.foldl_cons]
  refine ih h2.2 ?_ fun x hx e he=>?_
  ·unfold entAdd
   split
   ·exact j2d hL fun hm=>hd _ hm a (by simp) rfl
   ·exact hL
  ·rcases entAdd_mem.mp hx with h|h
   ·exact hd x h e (lmc _ he)
   ·rw[h.2]
    have:=h2.1 e he
    simp only
    omega
theorem jq2{g:EventD->Int × Bool}{l:List EventD}(hl:l.Pairwise fun x y=>x.id<y.id):jhm (entF g l):=j2o hl (by unfold jhm;exact List.Pairwise.nil) (fun x hx=>by simp at hx)
theorem j0a{g:EventD->Int × Bool}{l:List EventD}{L:List EntryD}:(l.foldl (entAdd g) L).length<=L.length+l.length:=by
 induction l generalizing L with
 |nil=>simp
 | cons a l ih=>
  rw[List.foldl_cons,List.length_cons]
  have h1:(entAdd g L a).length<=L.length+1:=by
   unfold entAdd
   split
   ·rw[ja9];omega
   ·omega
  have:=ih (L:=entAdd g L a)
  omega
theorem jep(g:EventD->Int × Bool)(l:List EventD):(entF g l).length<=l.length:=by
 have:=j0a (g:=g) (l:=l) (L:=[])
 simpa [entF]using this
theorem jo6{g h:EventD->Int × Bool}{l:List EventD}(hs:∀e∈l,g e=h e):entF g l=entF h l:=by
 unfold entF
 suffices H:∀L,l.foldl (entAdd g) L=l.foldl (entAdd h) L from H []
 induction l with
 |nil=>exact fun L=>rfl
 |cons a l ih=>
  intro L
  rw[List.foldl_cons,List.foldl_cons,show entAdd g L a=entAdd h L a by unfold entAdd;rw[hs a (by simp)]]
  exact ih (fun e he=>hs e (lmc _ he)) _
theorem j0f{f:Int->Option EventD}{g:EventD->Int × Bool}{L:List EventD}{P:List EntryD}(hT:Tells f L)(hL:L.Pairwise fun x y=>x.id<y.id)(hP:P.Nodup)(hm:∀x,x∈P↔∃e,f e.id=some e/\(g e).2=true/\x=⟨(g e).1,e.id⟩):jg9 P=entF g L:=
 jus (jyp hP) (jq2 hL) fun x=>by
  rw[jvg,hm,entF_mem]
  constructor
  ·rintro⟨e,h1,h2⟩
   exact⟨e,(hT.mem e).mpr h1,h2⟩
  ·rintro⟨e,h1,h2⟩
   exact⟨e,(hT.mem e).mp h1,h2⟩
section
open Go.RowKit Go.ChangeMaps Go.MapKept Go.WideMaps
set_option maxRecDepth 20000 in
theorem jfd(r:RelD)(a b c:Option Addr)(ca cb cc mb mn:Nat)(ev:EventD)(w:World)(hE:Zx w)(hv:Zd w (.agg #[.slice a r.rules.length ca,.slice b r.zones.length cb,.slice c r.links.length cc]) r)(ok:Jk r)(hr:relB r=true)(hC:Zi w mb mn r)(lE:mn<=1048576):
  Cl 117 #[.agg #[.slice a r.rules.length ca,.slice b r.zones.length cb,.slice c r.links.length cc,.map (some mb)],ev.v] w (MomP r ev mb mn w):=by
 obtain⟨id,name,zone,wall,gap,fold⟩:=ev
 simp only[EventD.v]
 obtain⟨W0,j6⟩:=qeb ((((w.alloc (.cells #[.slice a r.rules.length ca,.slice b r.zones.length cb,.slice c r.links.length cc,.map (some mb)] 112)).alloc (.cells #[iv id,.string name,.string zone,iv wall,iv gap,iv fold] 54)).alloc (.cells #[iv 0,.bool false] 180)))
 have aj:Bw w W0:=by rw[<- j6];exact((qal _ _).alloc (by simp) _).alloc (by simp;omega) _
 have hT:=jtq r a b c ca cb cc mb mn zone W0 (hE.of_below aj) (hv.below aj) ok hr (hC.below aj) lE
 have Kl:=hC.lt
 have MI:W0.cell? (ad w.heap.size 0)=some (.slice a r.rules.length ca):=by rw[<- j6];simp[go_sem]
 have MJ:W0.cell? (ad w.heap.size 1)=some (.slice b r.zones.length cb):=by rw[<- j6];simp[go_sem]
 have MK:W0.cell? (ad w.heap.size 2)=some (.slice c r.links.length cc):=by rw[<- j6];simp[go_sem]
 have ML:W0.cell? (ad w.heap.size 3)=some (.map (some mb)):=by rw[<- j6];simp[go_sem]
 have GZ:W0.cell? (ad (w.heap.size+1) 2)=some (.string zone):=by rw[<- j6];simp[go_sem]
 have H8:W0.cell? (ad (w.heap.size+1) 3)=some (iv wall):=by rw[<- j6];simp[go_sem]
 have H9:W0.cell? (ad (w.heap.size+1) 4)=some (iv gap):=by rw[<- j6];simp[go_sem]
 have DD:W0.cell? (ad (w.heap.size+1) 5)=some (iv fold):=by rw[<- j6];simp[go_sem]
 have yv:W0.cell? (ad (w.heap.size+1+1) 0)=some (iv 0):=by rw[<- j6];simp[go_sem]
 have DH:W0.cell? (ad (w.heap.size+1+1) 1)=some (.bool false):=by rw[<- j6];simp[go_sem]
 have f0:W0.frozen? (ad (w.heap.size+1+1) 0)=false:=by rw[<- j6];simp[go_sem]
 have f1:W0.frozen? (ad (w.heap.size+1+1) 1)=false:=by rw[<- j6];simp[go_sem]
 have hh:W0.heap[w.heap.size+1+1]? =some (Obj.cells #[iv 0,.bool false] 180):=by
  rw[<- j6]
  have h:=heap_alloc_new ((w.alloc (.cells #[.slice a r.rules.length ca,.slice b r.zones.length cb,.slice c r.links.length cc,.map (some mb)] 112)).alloc (.cells #[iv id,.string name,.string zone,iv wall,iv gap,iv fold] 54)) (.cells #[iv 0,.bool false] 180)
  have e:((w.alloc (.cells #[.slice a r.rules.length ca,.slice b r.zones.length cb,.slice c r.links.length cc,.map (some mb)] 112)).alloc (.cells #[iv id,.string name,.string zone,iv wall,iv gap,iv fold] 54)).heap.size=w.heap.size+1+1:=by simp
  rw[e]at h
  exact h
 have cQ:w.grownBy W0 (some mb):=(jap aj).but _
 have HC:=hid hC
 clear hv hE ok hr hC lE
 unfold Cl;go_in
 go_wp2_with fail
 refine hT.mono ?_
 rintro q W2 hP
 obtain⟨⟨ta,tn,tc,tk⟩,rfl,Fz⟩:=hP.ex
 have iq:=hid hP.cache
 have bR:=hP.grown
 clear hP hT
 simp only[TOut.v]
 have HT:=hid Fz
 clear Fz
 have Th:=bR.cell GZ (by simp;omega)
 have Ls:=bR.cell H8 (by simp;omega)
 have O8:=bR.cell H9 (by simp;omega)
 have PV:=bR.cell DD (by simp;omega)
 have qc:=bR.cell yv (by simp;omega)
 have y21:=bR.cell DH (by simp;omega)
 have h0:some (w.heap.size+1+1)≠some mb:=by simp;omega
 have g0:=(bR.frozen_far (ad (w.heap.size+1+1) 0) (qbl yv) h0).trans f0
 have g1:=(bR.frozen_far (ad (w.heap.size+1+1) 1) (qbl DH) h0).trans f1
 have oA:=(bR.block _ (qbl yv) h0).trans hh
 have HG:Hid (w.grownBy W2 (some mb)):=cQ.andThen bR (fun _ h=>.inr h)
 have hlt:=qbl qc
 dsimp only at hlt
 clear MI MJ MK ML GZ H8 H9 DD yv DH f0 f1 hh cQ bR aj
 have b3:=qal W2 (.cells #[.slice ta tn tc,iv tk] 140)
 by_cases hk:tk=0
 ·subst hk
  have hd:(tabD r (jao r zone).name).1=0:=HT.out.code.symm
  have hs:=jsw hd
  have HM:Hid (momT (tabD r (jao r zone).name) ⟨id,name,zone,wall,gap,fold⟩=((resD (tabD r (jao r zone).name).2 wall gap fold).1,decide ((resD (tabD r (jao r zone).name).2 wall gap fold).2=0))):=jrp hd
  have hn:=HT.out.n
  have hq:=HT.out.seq.below b3
  dsimp only at hn hq
  obtain⟨l,hl⟩:=qeb ((tabD r (jao r zone).name).2)
  rw[hl]at hs hn hq
  have HL:=hid hl
  clear hl hd
  have hR:=jos l (.agg #[.slice ta tn tc]) wall gap fold _ ⟨ta,tc,by rw[hn],hq⟩ hs.1 hs.2
  have HQ:Hid (momT (tabD r (jao r zone).name) ⟨id,name,zone,wall,gap,fold⟩=((resD l wall gap fold).1,decide ((resD l wall gap fold).2=0))):=by simp only[Hid];rw[HM.out,HL.out]
  clear HM hn hq hs
  obtain⟨⟨N,C⟩,sG⟩:=qeb (resD l wall gap fold)
  rw[sG]at hR HQ
  clear sG
  simp only[outV]at hR
  have Ti:=jaa b3 Ls
  have Tj:=jaa b3 O8
  have Tk:=jaa b3 PV
  have Uz:=jaa b3 qc
  have Sg:=jaa b3 y21
  have k0:=qfz b3 qc g0
  have k1:=qfz b3 y21 g1
  go_wp2_with fail
  refine hR.mono ?_
  rintro q W4 ⟨rfl,aD⟩
  have b4:Bw W2 W4:=qtr b3 aD
  have Kx:=jaa b4 qc
  have JD:=jaa b4 y21
  have m0:=qfz b4 qc g0
  have m1:=qfz b4 y21 g1
  have FW:=(b4.block _ (qbl qc)).trans oA
  have hlt4:=qbl Kx
  dsimp only at hlt4
  have Eh:Hid (w.grownBy W4 (some mb)):=HG.out.andThen (jap b4) (fun _ h=>by cases h)
  have Ec:Hid (Zi W4 mb (mn+1) r):=iq.out.below b4
  clear Ti Tj Tk Uz Sg k0 k1 aD hR
  by_cases hc:C=0
  ·subst hc
   have HE:Hid (momT (tabD r (jao r zone).name) ⟨id,name,zone,wall,gap,fold⟩=(N,true)):=by simp only[Hid];rw[HQ.out];rfl
   have G7:=jbz W4 (w.heap.size+1+1) (iv N) (.bool true)
   have G8:W4.grownBy (((W4.setCell (ad (w.heap.size+1+1) 0) (iv N)).setCell (ad (w.heap.size+1+1) 1) (.bool true)).alloc (.cells #[iv N,iv 0] 143)) (some (w.heap.size+1+1)):=G7.andThen (World.grownBy_alloc _ _ none) (fun _ h=>by cases h)
   have HP:Hid (MomP r ⟨id,name,zone,wall,gap,fold⟩ mb mn w (.returned (.agg #[iv N,.bool true])) (((W4.setCell (ad (w.heap.size+1+1) 0) (iv N)).setCell (ad (w.heap.size+1+1) 1) (.bool true)).alloc (.cells #[iv N,iv 0] 143))):=⟨by rw[HE.out],Ec.out.grown G8 (by omega) (fun cs h=>by rw[FW]at h;injection h with h;injection h with _ h _;exact absurd h (by decide)),Eh.out.andThen G8 (fun j h=>by injection h with h;omega)⟩
   obtain⟨t0,t1⟩:=jav (v0:=iv N) (v1:=.bool true) Kx JD
   have b5:=(brf _ ((W4.setCell (ad (w.heap.size+1+1) 0) (iv N)).setCell (ad (w.heap.size+1+1) 1) (.bool true))).alloc (nlr _) (.cells #[iv N,iv 0] 143)
   have rE:=jaa b5 t0
   have jp:=jaa b5 t1
   clear G7 G8
   go_wp2
   exact bpr (v:=.agg #[iv N,.bool true]) (by simp[results,Tryz.results117,go_sem,rE,jp]) rfl HP.out
  ·have cU:(C==0)=false:=by simp[hc]
   have HE:Hid (momT (tabD r (jao r zone).name) ⟨id,name,zone,wall,gap,fold⟩=(N,false)):=by simp only[Hid];rw[HQ.out];rw[dfe hc]
   have G7:=jbz W4 (w.heap.size+1+1) (iv N) (.bool false)
   have G8:W4.grownBy (((W4.setCell (ad (w.heap.size+1+1) 0) (iv N)).setCell (ad (w.heap.size+1+1) 1) (.bool false)).alloc (.cells #[iv N,iv C] 143)) (some (w.heap.size+1+1)):=G7.andThen (World.grownBy_alloc _ _ none) (fun _ h=>by cases h)
   have HP:Hid (MomP r ⟨id,name,zone,wall,gap,fold⟩ mb mn w (.returned (.agg #[iv N,.bool false])) (((W4.setCell (ad (w.heap.size+1+1) 0) (iv N)).setCell (ad (w.heap.size+1+1) 1) (.bool false)).alloc (.cells #[iv N,iv C] 143))):=⟨by rw[HE.out],Ec.out.grown G8 (by omega) (fun cs h=>by rw[FW]at h;injection h with h;injection h with _ h _;exact absurd h (by decide)),Eh.out.andThen G8 (fun j h=>by injection h with h;omega)⟩
   obtain⟨t0,t1⟩:=jav (v0:=iv N) (v1:=.bool false) Kx JD
   have b5:=(brf _ ((W4.setCell (ad (w.heap.size+1+1) 0) (iv N)).setCell (ad (w.heap.size+1+1) 1) (.bool false))).alloc (nlr _) (.cells #[iv N,iv C] 143)
   have rE:=jaa b5 t0
   have jp:=jaa b5 t1
   clear G7 G8
   go_wp2
   exact bpr (v:=.agg #[iv N,.bool false]) (by simp[results,Tryz.results117,go_sem,rE,jp]) rfl HP.out
 ·have HM:Hid (momT (tabD r (jao r zone).name) ⟨id,name,zone,wall,gap,fold⟩=(0,false)):=jv3 (by rw[<- HT.out.code];exact hk)
  have fy:(tk==0)=false:=by simp[hk]
  have G7:=jbz W2 (w.heap.size+1+1) (iv 0) (.bool false)
  have G8:W2.grownBy (((W2.setCell (ad (w.heap.size+1+1) 0) (iv 0)).setCell (ad (w.heap.size+1+1) 1) (.bool false)).alloc (.cells #[.slice ta tn tc,iv tk] 140)) (some (w.heap.size+1+1)):=G7.andThen (World.grownBy_alloc _ _ none) (fun _ h=>by cases h)
  have HP:Hid (MomP r ⟨id,name,zone,wall,gap,fold⟩ mb mn w (.returned (.agg #[iv 0,.bool false])) (((W2.setCell (ad (w.heap.size+1+1) 0) (iv 0)).setCell (ad (w.heap.size+1+1) 1) (.bool false)).alloc (.cells #[.slice ta tn tc,iv tk] 140))):=⟨by rw[HM.out],iq.out.grown G8 (by omega) (fun cs h=>by rw[oA]at h;injection h with h;injection h with _ h _;exact absurd h (by decide)),HG.out.andThen G8 (fun j h=>by injection h with h;omega)⟩
  obtain⟨t0,t1⟩:=jav (v0:=iv 0) (v1:=.bool false) qc y21
  have b5:=(brf _ ((W2.setCell (ad (w.heap.size+1+1) 0) (iv 0)).setCell (ad (w.heap.size+1+1) 1) (.bool false))).alloc (nlr _) (.cells #[.slice ta tn tc,iv tk] 140)
  have rE:=jaa b5 t0
  have jp:=jaa b5 t1
  clear G7 G8
  go_wp2
  exact bpr (v:=.agg #[iv 0,.bool false]) (by simp[results,Tryz.results117,go_sem,rE,jp]) rfl HP.out
