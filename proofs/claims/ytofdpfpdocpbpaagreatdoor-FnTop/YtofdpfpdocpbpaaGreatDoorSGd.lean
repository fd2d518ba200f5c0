/- Packed. -/
import Derived.Test.YtofdpfpdocpbpaaGreatDoorTbSd
import Derived.Test.YtofdpfpdocpbpaaGreatDoorTabPd
import Derived.Test.YtofdpfpdocpbpaaGreatDoorSDd
import Derived.Test.YtofdpfpdocpbpaaGreatDoorStrQd
import Derived.Test.YtofdpfpdocpbpaaGreatDoorLVd
set_option maxHeartbeats 20000000
set_option linter.unusedSimpArgs false
namespace Go.Proofs.YtofdpfpdocpbpaaGreatDoor
section
open Go.RowKit
theorem j22(a l:List UInt8)(s:Int):(jg4 (jiq a s) l).length<=a.length+l.length:=by
 have h1:=jrm a s
 unfold jg4
 split
 ·simp only[List.length_append,List.length_take,List.length_drop];omega
 ·omega
theorem j3h{f l:ByteArray}{s:Int}(hf:f.size<=12)(hl:l.size<=6):(jq8 f l s).size<=20:=by
 rw[jpc ⟨by omega,by omega⟩]
 have h:=j22 f.data.toList l.data.toList s
 simp only[Array.length_toList]at h
 show(List.toArray _).size<=20
 rw[List.size_toArray]
 have h1:f.data.size=f.size:=rfl
 have h2:l.data.size=l.size:=rfl
 omega
structure TInv(E:List EraD)(T:List TurnD):Prop where
 up:T.Pairwise fun x y=>x.at_<y.at_
 hd:∀a,T[0]? =some a->a.at_= -62135596800
 ok:∀t∈T,jcd t=true/\∃e∈E,e.offset+t.save=t.offset
 nl:∀(i:Nat) x y,T[i]? =some x->T[i+1]? =some y->jft x y=false
theorem TInv.add{E:List EraD}{T:List TurnD}{x:TurnD}(h:TInv E T)(hx:∀t∈T,t.at_<x.at_)(h0:T=[]->x.at_= -62135596800)(hok:jcd x=true/\∃e∈E,e.offset+x.save=x.offset):TInv E (addT T x)/\(∀u∈addT T x,u∈T\/u=x)/\addT T x≠[]:=by
 have hnew:(∀y,T.getLast? =some y->jft y x=false)->TInv E (T++[x])/\(∀u∈T++[x],u∈T\/u=x)/\T++[x]≠[]:=fun hl=>by
  refine⟨⟨?_,?_,?_,?_⟩,fun u hu=>by simpa using hu,by simp⟩
  ·refine List.pairwise_append.mpr ⟨h.up,by simp,fun a ha b hb=>?_⟩
   simp at hb
   subst hb
   exact hx a ha
  ·intro a ha
   by_cases hT:T=[]
   ·subst hT
    simp at ha
    subst ha
    exact h0 rfl
   ·have hp:0<T.length:=List.length_pos_iff.mpr hT
    rw[List.getElem?_append_left hp]at ha
    exact h.hd a ha
  ·intro t ht
   rcases List.mem_append.mp ht with ht|ht
   ·exact h.ok t ht
   ·simp at ht
    subst ht
    exact hok
  ·intro i a b ha hb
   by_cases hi:i+1<T.length
   ·rw[List.getElem?_append_left (by omega)]at ha
    rw[List.getElem?_append_left hi]at hb
    exact h.nl i a b ha hb
   ·have hl2:=(List.getElem?_eq_some_iff.mp hb).1
    simp at hl2
    have e:i+1=T.length:=by omega
    rw[List.getElem?_append_left (by omega)]at ha
    rw[e,List.getElem?_append_right (by omega)]at hb
    simp at hb
    subst hb
    exact hl a (by rw[List.getLast?_eq_getElem?,show T.length-1=i by omega];exact ha)
 unfold addT
 split
 ·rename_i y hy
  split
  ·exact⟨h,fun u hu=>.inl hu,fun e=>by subst e;simp at hy⟩
  ·rename_i hn
   exact hnew fun z hz=>by
    rw[hy]at hz
    obtain rfl:=Option.some.inj hz
    simpa using hn
 ·rename_i hn
  exact hnew fun z hz=>by rw[hn]at hz;cases hz
theorem TInv.fold{E:List EraD}{f:Int->TurnD}:∀{L:List Int} {T:List TurnD},TInv E T->L.Pairwise (· < ·)->(∀t∈T,∀l∈L,t.at_<l)->(T=[]->∀l L',L=l::L'->l= -62135596800)->(∀l,(f l).at_=l/\jcd (f l)=true/\∃e∈E,e.offset+(f l).save=(f l).offset)->
  TInv E (jbi f L T)/\(∀u∈jbi f L T,u∈T\/u.at_∈L)/\(jbi f L T=[]->T=[]/\L=[]):=by
 intro L
 induction L with
 |nil=>intro T h _ _ _ _;exact⟨h,fun u hu=>.inl hu,fun e=>⟨e,rfl⟩⟩
 |cons l L ih=>
  intro T h hL hT h0 hf
  rw[foldT_cons]
  have hL':=List.pairwise_cons.mp hL
  obtain⟨f1,f2,f3⟩:=hf l
  obtain⟨i1,i2,i3⟩:=h.add (x:=f l) (fun t ht=>by rw[f1];exact hT t ht l (by simp)) (fun e=>by rw[f1];exact h0 e l L rfl) ⟨f2,f3⟩
  obtain⟨j1,j2,j3⟩:=ih i1 hL'.2 (fun t ht m hm=>by
   rcases i2 t ht with e|e
   ·exact hT t e m (List.mem_cons_of_mem _ hm)
   ·subst e
    rw[f1]
    exact hL'.1 m hm) (fun e=>absurd e i3) hf
  refine⟨j1,fun u hu=>?_,fun e=>absurd (j3 e).1 i3⟩
  rcases j2 u hu with e|e
  ·rcases i2 u e with e|e
   ·exact .inl e
   ·subst e
    right
    rw[f1]
    simp
  ·exact .inr (List.mem_cons_of_mem _ e)
theorem jq7{H:List HapD}{b e:Int}:(atsF b (inX H b e)).Pairwise (· < ·)/\(∀t∈atsF b (inX H b e),b<=t/\(t=b\/t<e))/\b∈atsF b (inX H b e):=by
 have h:=j4b (X:=inX H b e) (A:=[b]) (by simp)
 refine⟨h.1,fun t ht=>?_,(h.2 b).mpr (.inl (by simp))⟩
 rcases(h.2 t).mp ht with e1|e1
 ·simp at e1;omega
 ·unfold inX at e1
  rw[List.mem_filter]at e1
  simp at e1
  omega
theorem jo8{H:List HapD}{b e l:Int}{L:List Int}(h:atsF b (inX H b e)=l::L):l=b:=by
 obtain⟨h1,h2,h3⟩:=jq7 (H:=H) (b:=b) (e:=e)
 rw[h]at h1 h2 h3
 have h4:=(h2 l (by simp)).1
 rcases List.mem_cons.mp h3 with e1|e1
 ·exact e1.symm
 ·have:=(List.pairwise_cons.mp h1).1 b e1
  omega
theorem jrd{E:List EraD}{e:EraD}{H:List HapD}(he:e∈E)(hE:EraR e)(hH:∀h∈H,HapB h)(l:Int):(jbg e H l).at_=l/\jcd (jbg e H l)=true/\∃x∈E,x.offset+(jbg e H l).save=(jbg e H l).offset:=by
 obtain⟨⟨s1,s2⟩,s3⟩:=jsi hE hH l
 obtain⟨o1,o2⟩:=hE.off
 refine⟨rfl,turn_yes ?_ ?_ ?_,e,he,rfl⟩
 ·show isB (e.offset+(jbd e H l).save) (-100000) 100000=true
  unfold isB;simp;omega
 ·show isB (jbd e H l).save (-7200) 7200=true
  unfold isB;simp;omega
 ·exact j3h hE.fmt s3
theorem j47{r:RelD}{E:List EraD}(hr:∀x∈r.rules,jbm x=true)(hE:∀e∈E,EraR e):∀k,k<E.length->TInv E (stK r E k).1/\((stK r E k).1=[]->(stK r E k).2= -62135596800)/\∀t∈(stK r E k).1,t.at_<(stK r E k).2:=by
 intro k
 induction k with
 |zero=>intro _;exact⟨⟨by simp[stK],by simp[stK],by simp[stK],by simp[stK]⟩,fun _=>rfl,by simp[stK]⟩
 |succ k ih=>
  intro hk
  obtain⟨i1,i2,i3⟩:=ih (by omega)
  obtain⟨e,he⟩:∃e,E[k]? =some e:=⟨_,List.getElem?_eq_getElem (by omega)⟩
  have hm:=List.mem_of_getElem? he
  have hH:=jqk (r:=r) (nm:=e.rules) (off:=e.offset) hr (hE e hm).off.1 (hE e hm).off.2
  rw[jri he (by omega) (show stK r E k=((stK r E k).1,(stK r E k).2)from rfl)]
  generalize (ja9 r e.rules e.offset).1=H at *
  generalize (stK r E k).1=T at *
  generalize (stK r E k).2=b at *
  simp only
  have hbe:b<=endE e H b:=by unfold endE;omega
  split
  ·rename_i hlt
   obtain⟨a1,a2,a3⟩:=jq7 (H:=H) (b:=b) (e:=endE e H b)
   obtain⟨j1,j2,j3⟩:=i1.fold (f:=jbg e H) a1 (fun t ht l hl=>by have:=i3 t ht;have:=(a2 l hl).1;omega) (fun e0 l L' hl=>by rw[jo8 hl];exact i2 e0) (jrd hm (hE e hm) hH)
   refine⟨j1,fun e0=>?_,fun t ht=>?_⟩
   ·rw[(j3 e0).2]at a3;simp at a3
   ·rcases j2 t ht with h|h
    ·have:=i3 t h;omega
    ·have:=a2 _ h;omega
  ·rename_i hn
   refine⟨i1,fun e0=>by have:=i2 e0;omega,fun t ht=>by have:=i3 t ht;omega⟩
structure TabG(E:List EraD)(T:List TurnD):Prop where
 right:tabB T=true
 era:∀t∈T,∃e∈E,e.offset+t.save=t.offset
 nl:∀(i:Nat) x y,T[i]? =some x->T[i+1]? =some y->jft x y=false
theorem jv6{r:RelD}{E:List EraD}(hr:∀x∈r.rules,jbm x=true)(hE:∀e∈E,EraR e)(h1:E≠[]){T:List TurnD}(hT:tabE r E=(T,true)):TabG E T:=by
 unfold tabE at hT
 split at hT
 case isFalse=>cases hT
 injection hT with t1 t2
 have hl:T.length<=600:=by rw[<- t1];exact of_decide_eq_true t2
 have hp:0<E.length:=List.length_pos_iff.mpr h1
 obtain⟨k,hk⟩:∃k,E.length=k+1:=⟨E.length-1,by omega⟩
 obtain⟨e,he⟩:∃e,E[k]? =some e:=⟨_,List.getElem?_eq_getElem (by omega)⟩
 have hm:=List.mem_of_getElem? he
 have hH:=jqk (r:=r) (nm:=e.rules) (off:=e.offset) hr (hE e hm).off.1 (hE e hm).off.2
 obtain⟨i1,i2,i3⟩:=j47 hr hE k (by omega)
 have hb:=(j70 (r:=r) (E:=E) k).1
 rw[hk,jrj he (by omega) (show stK r E k=((stK r E k).1,(stK r E k).2)from rfl)]at t1
 clear t2
 generalize (ja9 r e.rules e.offset).1=H at *
 generalize (stK r E k).1=S at *
 generalize (stK r E k).2=b at *
 simp only at t1
 obtain⟨a1,a2,a3⟩:=jq7 (H:=H) (b:=b) (e:=253402300799)
 obtain⟨j1,j2,j3⟩:=i1.fold (f:=jbg e H) a1 (fun t ht l hl=>by have:=i3 t ht;have:=(a2 l hl).1;omega) (fun e0 l L' hl=>by rw[jo8 hl];exact i2 e0) (jrd hm (hE e hm) hH)
 rw[t1]at j1 j2 j3
 have hne:T≠[]:=fun e0=>by rw[(j3 e0).2]at a3;simp at a3
 have hpT:0<T.length:=List.length_pos_iff.mpr hne
 refine⟨?_,fun t ht=>(j1.ok t ht).2,j1.nl⟩
 have hu:upT T=true:=jvo fun i x y hx hy=>by
  obtain⟨p1,rfl⟩:=List.getElem?_eq_some_iff.mp hx
  obtain⟨p2,rfl⟩:=List.getElem?_eq_some_iff.mp hy
  exact List.pairwise_iff_getElem.mp j1.up i (i+1) p1 p2 (by omega)
 rw[jrg ⟨hpT,hl⟩ (List.all_eq_true.mpr fun t ht=>(j1.ok t ht).1) hu]
 obtain⟨n,hn⟩:∃n,T.length=n+1:=⟨T.length-1,by omega⟩
 obtain⟨x,hx⟩:∃x,T[0]? =some x:=⟨_,List.getElem?_eq_getElem (by omega)⟩
 obtain⟨y,hy⟩:∃y,T[n]? =some y:=⟨_,List.getElem?_eq_getElem (by omega)⟩
 rw[jyw hn hx hy,j1.hd x hx]
 have hy2:y.at_<=253402300799:=by
  rcases j2 y (List.mem_of_getElem? hy)with h|h
  ·have:=i3 y h;omega
  ·have:=a2 _ h;omega
 simp[hy2]
theorem jv7{r:RelD}{nm:ByteArray}(h:(tabD r nm).1=0):nm.size<=8000/\relB r=true/\(jat r nm).eras≠[]/\TabG (jat r nm).eras (tabD r nm).2:=by
 by_cases h1:nm.size<=8000
 case neg=>rw[j3r h1]at h;cases h
 cases h2:relB r
 case false=>rw[j3s h1 h2]at h;cases h
 by_cases h3:(jat r nm).eras=[]
 case pos=>rw[j3q h1 h2 h3]at h;cases h
 cases h4:tabE r (jat r nm).eras with
 |mk T b=>
  cases b
  case false=>rw[j3p h1 h2 h3 h4]at h;cases h
  obtain⟨z1,_⟩:=jie h2 h3
  refine⟨h1,rfl,h3,?_⟩
  rw[j3t h1 h2 h3 h4]
  exact jv6 (jnc h2).2 (jmw z1).2 h3 h4
end
section
open Go.RowKit Go.ChangeMaps Go.MapKept Go.WideMaps
def momT(t:Int × List TurnD)(e:EventD):Int × Bool:=if t.1=0 then((resD t.2 e.wall e.gap e.fold).1,decide ((resD t.2 e.wall e.gap e.fold).2=0))else(0,false)
theorem j5n{t:Int × List TurnD}{e:EventD}(h:t.1≠0):momT t e=(0,false):=by unfold momT;rw[if_neg h]
theorem j08{t:Int × List TurnD}{e:EventD}(h:t.1=0):momT t e=((resD t.2 e.wall e.gap e.fold).1,decide ((resD t.2 e.wall e.gap e.fold).2=0)):=by unfold momT;rw[if_pos h]
theorem jte{r:RelD}{nm:ByteArray}(h:(tabD r nm).1=0):(∀t∈(tabD r nm).2,t.ok)/\(tabD r nm).2.length<=1048576:=by
 have hb:=(jv7 h).2.2.2.right
 unfold tabB at hb
 simp only[Bool.and_eq_true,decide_eq_true_eq,List.all_eq_true]at hb
 obtain⟨h1,h2,_⟩:=hb
 refine⟨fun t ht=>?_,by omega⟩
 have h3:=h2 t ht
 unfold jcd at h3
 simp only[Bool.and_eq_true,decide_eq_true_eq]at h3
 have:=h3.2.2
 unfold TurnD.ok maxLen
 omega
structure MomP(r:RelD)(e:EventD)(mb mn:Nat)(w:World)(q:Ending)(w':World):Prop where
 ex:q=.returned (.agg #[.int .i64 (momT (tabD r (jat r e.zone).name) e).1,.bool (momT (tabD r (jat r e.zone).name) e).2])
 cache:Ze w' mb (mn+1) r
 grown:w.grownBy w' (some mb)
end
section
open Go.RowKit Go.ChangeMaps Go.MapKept Go.WideMaps
set_option maxRecDepth 20000 in
theorem jby(r:RelD)(a b c:Option Addr)(ca cb cc mb mn:Nat)(ev:EventD)(w:World)(hE:Zm w)(hv:Zi w (.agg #[.slice a r.rules.length ca,.slice b r.zones.length cb,.slice c r.links.length cc]) r)(ok:Zr r)(hr:relB r=true)(hC:Ze w mb mn r)(hmn:mn<=1048576):
  Calls Tryz.prog 92 #[.agg #[.slice a r.rules.length ca,.slice b r.zones.length cb,.slice c r.links.length cc,.map (some mb)],ev.v] w (MomP r ev mb mn w):=by
 obtain⟨id,name,zone,wall,gap,fold⟩:=ev
 simp only[EventD.v]
 obtain⟨W0,hW0⟩:∃x,(((w.alloc (.cells #[.slice a r.rules.length ca,.slice b r.zones.length cb,.slice c r.links.length cc,.map (some mb)] 82)).alloc (.cells #[.int .i64 id,.string name,.string zone,.int .i64 wall,.int .i64 gap,.int .i64 fold] 99)).alloc (.cells #[.int .i64 0,.bool false] 152))=x:=⟨_,rfl⟩
 have hB1:Below w.heap.size w W0:=by rw[<- hW0];exact((qal _ _).alloc (by simp) _).alloc (by simp;omega) _
 have hT:=jtz r a b c ca cb cc mb mn zone W0 (hE.of_below hB1) (hv.below hB1) ok hr (hC.below hB1) hmn
 have hmb:=hC.lt
 have x00:W0.cell? ⟨w.heap.size,0,none⟩=some (.slice a r.rules.length ca):=by rw[<- hW0];simp[go_sem]
 have x01:W0.cell? ⟨w.heap.size,1,none⟩=some (.slice b r.zones.length cb):=by rw[<- hW0];simp[go_sem]
 have x02:W0.cell? ⟨w.heap.size,2,none⟩=some (.slice c r.links.length cc):=by rw[<- hW0];simp[go_sem]
 have x03:W0.cell? ⟨w.heap.size,3,none⟩=some (.map (some mb)):=by rw[<- hW0];simp[go_sem]
 have x12:W0.cell? ⟨w.heap.size+1,2,none⟩=some (.string zone):=by rw[<- hW0];simp[go_sem]
 have x13:W0.cell? ⟨w.heap.size+1,3,none⟩=some (.int .i64 wall):=by rw[<- hW0];simp[go_sem]
 have x14:W0.cell? ⟨w.heap.size+1,4,none⟩=some (.int .i64 gap):=by rw[<- hW0];simp[go_sem]
 have x15:W0.cell? ⟨w.heap.size+1,5,none⟩=some (.int .i64 fold):=by rw[<- hW0];simp[go_sem]
 have x20:W0.cell? ⟨w.heap.size+1+1,0,none⟩=some (.int .i64 0):=by rw[<- hW0];simp[go_sem]
 have x21:W0.cell? ⟨w.heap.size+1+1,1,none⟩=some (.bool false):=by rw[<- hW0];simp[go_sem]
 have f0:W0.frozen? ⟨w.heap.size+1+1,0,none⟩=false:=by rw[<- hW0];simp[go_sem]
 have f1:W0.frozen? ⟨w.heap.size+1+1,1,none⟩=false:=by rw[<- hW0];simp[go_sem]
 have hh:W0.heap[w.heap.size+1+1]? =some (Obj.cells #[.int .i64 0,.bool false] 152):=by
  rw[<- hW0]
  have h:=heap_alloc_new ((w.alloc (.cells #[.slice a r.rules.length ca,.slice b r.zones.length cb,.slice c r.links.length cc,.map (some mb)] 82)).alloc (.cells #[.int .i64 id,.string name,.string zone,.int .i64 wall,.int .i64 gap,.int .i64 fold] 99)) (.cells #[.int .i64 0,.bool false] 152)
  have e:((w.alloc (.cells #[.slice a r.rules.length ca,.slice b r.zones.length cb,.slice c r.links.length cc,.map (some mb)] 82)).alloc (.cells #[.int .i64 id,.string name,.string zone,.int .i64 wall,.int .i64 gap,.int .i64 fold] 99)).heap.size=w.heap.size+1+1:=by simp
  rw[e]at h
  exact h
 have hg1:w.grownBy W0 (some mb):=(jag hB1).but _
 have HC:=hid hC
 clear hv hE ok hr hC hmn
 go_enter Tryz.func92,Tryz.ntmps92
 go_wp2_with fail
 refine hT.mono ?_
 rintro q W2 hP
 obtain⟨⟨ta,tn,tc,tk⟩,rfl,hTE⟩:=hP.ex
 have HC2:=hid hP.cache
 have hg2:=hP.grown
 clear hP hT
 simp only[TOut.v]
 have HT:=hid hTE
 clear hTE
 have y12:=hg2.cell x12 (by simp;omega)
 have y13:=hg2.cell x13 (by simp;omega)
 have y14:=hg2.cell x14 (by simp;omega)
 have y15:=hg2.cell x15 (by simp;omega)
 have y20:=hg2.cell x20 (by simp;omega)
 have y21:=hg2.cell x21 (by simp;omega)
 have h0:some (w.heap.size+1+1)≠some mb:=by simp;omega
 have g0:=(hg2.frozen_far ⟨w.heap.size+1+1,0,none⟩ (qbl x20) h0).trans f0
 have g1:=(hg2.frozen_far ⟨w.heap.size+1+1,1,none⟩ (qbl x21) h0).trans f1
 have hh2:=(hg2.block _ (qbl x20) h0).trans hh
 have HG:Hid (w.grownBy W2 (some mb)):=hg1.andThen hg2 (fun _ h=>.inr h)
 have hlt:=qbl y20
 dsimp only at hlt
 clear x00 x01 x02 x03 x12 x13 x14 x15 x20 x21 f0 f1 hh hg1 hg2 hB1
 have b3:=qal W2 (.cells #[.slice ta tn tc,.int .i64 tk] 216)
 by_cases hk:tk=0
 ·subst hk
  have hd:(tabD r (jat r zone).name).1=0:=HT.out.code.symm
  have hs:=jte hd
  have HM:Hid (momT (tabD r (jat r zone).name) ⟨id,name,zone,wall,gap,fold⟩=((resD (tabD r (jat r zone).name).2 wall gap fold).1,decide ((resD (tabD r (jat r zone).name).2 wall gap fold).2=0))):=j08 hd
  have hn:=HT.out.n
  have hq:=HT.out.seq.below b3
  dsimp only at hn hq
  obtain⟨l,hl⟩:∃x,(tabD r (jat r zone).name).2=x:=⟨_,rfl⟩
  rw[hl]at hs hn hq
  have HL:=hid hl
  clear hl hd
  have hR:=joo l (.agg #[.slice ta tn tc]) wall gap fold _ ⟨ta,tc,by rw[hn],hq⟩ hs.1 hs.2
  have HQ:Hid (momT (tabD r (jat r zone).name) ⟨id,name,zone,wall,gap,fold⟩=((resD l wall gap fold).1,decide ((resD l wall gap fold).2=0))):=by simp only[Hid];rw[HM.out,HL.out]
  clear HM hn hq hs
  obtain⟨⟨N,C⟩,hnc⟩:∃x,resD l wall gap fold=x:=⟨_,rfl⟩
  rw[hnc]at hR HQ
  clear hnc
  simp only[outV]at hR
  have z13:=jab b3 y13
  have z14:=jab b3 y14
  have z15:=jab b3 y15
  have z20:=jab b3 y20
  have z21:=jab b3 y21
  have k0:=qfz b3 y20 g0
  have k1:=qfz b3 y21 g1
  go_wp2_with fail
  refine hR.mono ?_
  rintro q W4 ⟨rfl,hb4⟩
  have b4:Below W2.heap.size W2 W4:=qtr b3 hb4
  have v20:=jab b4 y20
  have v21:=jab b4 y21
  have m0:=qfz b4 y20 g0
  have m1:=qfz b4 y21 g1
  have hh4:=(b4.block _ (qbl y20)).trans hh2
  have hlt4:=qbl v20
  dsimp only at hlt4
  have HG4:Hid (w.grownBy W4 (some mb)):=HG.out.andThen (jag b4) (fun _ h=>by cases h)
  have HC4:Hid (Ze W4 mb (mn+1) r):=HC2.out.below b4
  clear z13 z14 z15 z20 z21 k0 k1 hb4 hR
  by_cases hc:C=0
  ·subst hc
   have HE:Hid (momT (tabD r (jat r zone).name) ⟨id,name,zone,wall,gap,fold⟩=(N,true)):=by simp only[Hid];rw[HQ.out];rfl
   have G7:=ja2 W4 (w.heap.size+1+1) (.int .i64 N) (.bool true)
   have G8:W4.grownBy (((W4.setCell ⟨w.heap.size+1+1,0,none⟩ (.int .i64 N)).setCell ⟨w.heap.size+1+1,1,none⟩ (.bool true)).alloc (.cells #[.int .i64 N,.int .i64 0] 219)) (some (w.heap.size+1+1)):=G7.andThen (World.grownBy_alloc _ _ none) (fun _ h=>by cases h)
   have HP:Hid (MomP r ⟨id,name,zone,wall,gap,fold⟩ mb mn w (.returned (.agg #[.int .i64 N,.bool true])) (((W4.setCell ⟨w.heap.size+1+1,0,none⟩ (.int .i64 N)).setCell ⟨w.heap.size+1+1,1,none⟩ (.bool true)).alloc (.cells #[.int .i64 N,.int .i64 0] 219))):=⟨by rw[HE.out],HC4.out.grown G8 (by omega) (fun cs h=>by rw[hh4]at h;injection h with h;injection h with _ h _;exact absurd h (by decide)),HG4.out.andThen G8 (fun j h=>by injection h with h;omega)⟩
   obtain⟨t0,t1⟩:=ja5 (v0:=.int .i64 N) (v1:=.bool true) v20 v21
   have b5:=(Below.refl _ ((W4.setCell ⟨w.heap.size+1+1,0,none⟩ (.int .i64 N)).setCell ⟨w.heap.size+1+1,1,none⟩ (.bool true))).alloc (Nat.le_refl _) (.cells #[.int .i64 N,.int .i64 0] 219)
   have t0':=jab b5 t0
   have t1':=jab b5 t1
   clear G7 G8
   go_wp2
   exact bodyPost_ret (v:=.agg #[.int .i64 N,.bool true]) (by simp[results,Tryz.results92,go_sem,t0',t1']) rfl HP.out
  ·have hc2:(C==0)=false:=by simp[hc]
   have HE:Hid (momT (tabD r (jat r zone).name) ⟨id,name,zone,wall,gap,fold⟩=(N,false)):=by simp only[Hid];rw[HQ.out];rw[decide_eq_false hc]
   have G7:=ja2 W4 (w.heap.size+1+1) (.int .i64 N) (.bool false)
   have G8:W4.grownBy (((W4.setCell ⟨w.heap.size+1+1,0,none⟩ (.int .i64 N)).setCell ⟨w.heap.size+1+1,1,none⟩ (.bool false)).alloc (.cells #[.int .i64 N,.int .i64 C] 219)) (some (w.heap.size+1+1)):=G7.andThen (World.grownBy_alloc _ _ none) (fun _ h=>by cases h)
   have HP:Hid (MomP r ⟨id,name,zone,wall,gap,fold⟩ mb mn w (.returned (.agg #[.int .i64 N,.bool false])) (((W4.setCell ⟨w.heap.size+1+1,0,none⟩ (.int .i64 N)).setCell ⟨w.heap.size+1+1,1,none⟩ (.bool false)).alloc (.cells #[.int .i64 N,.int .i64 C] 219))):=⟨by rw[HE.out],HC4.out.grown G8 (by omega) (fun cs h=>by rw[hh4]at h;injection h with h;injection h with _ h _;exact absurd h (by decide)),HG4.out.andThen G8 (fun j h=>by injection h with h;omega)⟩
   obtain⟨t0,t1⟩:=ja5 (v0:=.int .i64 N) (v1:=.bool false) v20 v21
   have b5:=(Below.refl _ ((W4.setCell ⟨w.heap.size+1+1,0,none⟩ (.int .i64 N)).setCell ⟨w.heap.size+1+1,1,none⟩ (.bool false))).alloc (Nat.le_refl _) (.cells #[.int .i64 N,.int .i64 C] 219)
   have t0':=jab b5 t0
   have t1':=jab b5 t1
   clear G7 G8
   go_wp2
   exact bodyPost_ret (v:=.agg #[.int .i64 N,.bool false]) (by simp[results,Tryz.results92,go_sem,t0',t1']) rfl HP.out
 ·have HM:Hid (momT (tabD r (jat r zone).name) ⟨id,name,zone,wall,gap,fold⟩=(0,false)):=j5n (by rw[<- HT.out.code];exact hk)
  have hk2:(tk==0)=false:=by simp[hk]
  have G7:=ja2 W2 (w.heap.size+1+1) (.int .i64 0) (.bool false)
  have G8:W2.grownBy (((W2.setCell ⟨w.heap.size+1+1,0,none⟩ (.int .i64 0)).setCell ⟨w.heap.size+1+1,1,none⟩ (.bool false)).alloc (.cells #[.slice ta tn tc,.int .i64 tk] 216)) (some (w.heap.size+1+1)):=G7.andThen (World.grownBy_alloc _ _ none) (fun _ h=>by cases h)
  have HP:Hid (MomP r ⟨id,name,zone,wall,gap,fold⟩ mb mn w (.returned (.agg #[.int .i64 0,.bool false])) (((W2.setCell ⟨w.heap.size+1+1,0,none⟩ (.int .i64 0)).setCell ⟨w.heap.size+1+1,1,none⟩ (.bool false)).alloc (.cells #[.slice ta tn tc,.int .i64 tk] 216))):=⟨by rw[HM.out],HC2.out.grown G8 (by omega) (fun cs h=>by rw[hh2]at h;injection h with h;injection h with _ h _;exact absurd h (by decide)),HG.out.andThen G8 (fun j h=>by injection h with h;omega)⟩
  obtain⟨t0,t1⟩:=ja5 (v0:=.int .i64 0) (v1:=.bool false) y20 y21
  have b5:=(Below.refl _ ((W2.setCell ⟨w.heap.size+1+1,0,none⟩ (.int .i64 0)).setCell ⟨w.heap.size+1+1,1,none⟩ (.bool false))).alloc (Nat.le_refl _) (.cells #[.slice ta tn tc,.int .i64 tk] 216)
  have t0':=jab b5 t0
  have t1':=jab b5 t1
  clear G7 G8
  go_wp2
  exact bodyPost_ret (v:=.agg #[.int .i64 0,.bool false]) (by simp[results,Tryz.results92,go_sem,t0',t1']) rfl HP.out
end
section
open Go.RowKit
def jc7(g:EventD->Int × Bool)(L:List EntryD)(e:EventD):List EntryD:=if (g e).2=true then insX L ⟨(g e).1,e.id⟩else L
def entF(g:EventD->Int × Bool)(l:List EventD):List EntryD:=l.foldl (jc7 g) []
theorem entAdd_mem{g:EventD->Int × Bool}{L:List EntryD}{e:EventD}{x:EntryD}:x∈jc7 g L e↔x∈L\/((g e).2=true/\x=⟨(g e).1,e.id⟩):=by
 unfold jc7
 split
 ·rename_i h
  rw[insX_mem]
  constructor
  ·rintro(h1|h1)
   ·exact .inr ⟨h,h1⟩
   ·exact .inl h1
  ·rintro(h1|h1)
   ·exact .inr h1
   ·exact .inl h1.2
 ·rename_i h
  exact⟨.inl,fun h1=>h1.elim id fun h2=>absurd h2.1 h⟩
theorem j2c{g:EventD->Int × Bool}{l:List EventD}{L:List EntryD}{x:EntryD}:x∈l.foldl (jc7 g) L↔x∈L\/∃e∈l,(g e).2=true/\x=⟨(g e).1,e.id⟩:=by
 induction l generalizing L with
 |nil=>simp
 |cons a l ih=>
  rw[List.foldl_cons,ih,entAdd_mem]
  constructor
  ·rintro((h|h)|⟨e,he,h⟩)
   ·exact .inl h
   ·exact .inr ⟨a,by simp,h⟩
   ·exact .inr ⟨e,List.mem_cons_of_mem _ he,h⟩
  ·rintro(h|⟨e,he,h⟩)
   ·exact .inl (.inl h)
   ·rcases List.mem_cons.mp he with rfl|he
    ·exact .inl (.inr h)
    ·exact .inr ⟨e,he,h⟩
theorem entF_mem{g:EventD->Int × Bool}{l:List EventD}{x:EntryD}:x∈entF g l↔∃e∈l,(g e).2=true/\x=⟨(g e).1,e.id⟩:=by
 unfold entF
 rw[j2c]
 simp
theorem j6m{g:EventD->Int × Bool}{l:List EventD}{L:List EntryD}(hl:l.Pairwise fun x y=>x.id<y.id)(hL:jh6 L)(hd:∀x∈L,∀e∈l,x.id≠e.id):jh6 (l.foldl (jc7 g) L):=by
 induction l generalizing L with
 |nil=>exact hL
 |cons a l ih=>
  have h2:=List.pairwise_cons.mp hl
  rw[List.foldl_cons]
  refine ih h2.2 ?_ fun x hx e he=>?_
  ·unfold jc7
   split
   ·exact j58 hL fun hm=>hd _ hm a (by simp) rfl
   ·exact hL
  ·rcases entAdd_mem.mp hx with h|h
   ·exact hd x h e (List.mem_cons_of_mem _ he)
   ·rw[h.2]
    have:=h2.1 e he
    simp only
    omega
theorem jqy{g:EventD->Int × Bool}{l:List EventD}(hl:l.Pairwise fun x y=>x.id<y.id):jh6 (entF g l):=j6m hl (by unfold jh6;exact List.Pairwise.nil) (fun x hx=>by simp at hx)
theorem j2d{g:EventD->Int × Bool}{l:List EventD}{L:List EntryD}:(l.foldl (jc7 g) L).length<=L.length+l.length:=by
 induction l generalizing L with
 |nil=>simp
 | cons a l ih=>
  rw[List.foldl_cons,List.length_cons]
  have h1:(jc7 g L a).length<=L.length+1:=by
   unfold jc7
   split
   ·rw[j1n];omega
   ·omega
  have:=ih (L:=jc7 g L a)
  omega
theorem jmo(g:EventD->Int × Bool)(l:List EventD):(entF g l).length<=l.length:=by
 have:=j2d (g:=g) (l:=l) (L:=[])
 simpa [entF]using this
theorem j2l{f:Int->Option EventD}{g:EventD->Int × Bool}{L:List EventD}{P:List EntryD}(hT:Jc f L)(hL:L.Pairwise fun x y=>x.id<y.id)(hP:P.Nodup)(hm:∀x,x∈P↔∃e,f e.id=some e/\(g e).2=true/\x=⟨(g e).1,e.id⟩):jhk P=entF g L:=
 jvn (j0b hP) (jqy hL) fun x=>by
  rw[jwf,hm,entF_mem]
  constructor
  ·rintro⟨e,h1,h2⟩
   exact⟨e,(hT.mem e).mpr h1,h2⟩
  ·rintro⟨e,h1,h2⟩
   exact⟨e,(hT.mem e).mp h1,h2⟩
end
end Go.Proofs.YtofdpfpdocpbpaaGreatDoor
