import Derived.Test.YtpejeokacilebaaGreatDoorSBd
import Derived.Shelf.GgSortFunc.InsertionK
set_option maxHeartbeats 0
set_option linter.unusedSimpArgs false
open Go.RowKit Go.Sort
namespace Go.Proofs.YtpejeokacilebaaGreatDoor
def jbc(a b:EntryD):Bool:=decide (a.at_<b.at_) || (decide (a.at_=b.at_)&&decide (a.id<b.id))
theorem jp3{a b:EntryD}(h:a.at_<b.at_):jbc a b=true:=by unfold jbc;rw[dte h];rfl
theorem jp2{a b:EntryD}(h:b.at_<a.at_):jbc a b=false:=by unfold jbc;rw[dfe (by omega),dfe (by omega)];rfl
theorem jp1{a b:EntryD}(h:a.at_=b.at_)(h2:a.id<b.id):jbc a b=true:=by unfold jbc;rw[dte h,dte h2];simp
theorem jp0{a b:EntryD}(h:a.at_=b.at_)(h2:¬a.id<b.id):jbc a b=false:=by unfold jbc;rw[dfe (by omega),dfe h2];simp
def insX:List EntryD->EntryD->List EntryD
 |[],e=>[e]
 |x::l,e=>if jbc x e=true then x::insX l e else e::x::l
def jg6(l:List EntryD)(e:EntryD):Nat:=(l.takeWhile fun x=>jbc x e).length
theorem jqi(l:List EntryD)(e:EntryD):insX l e=l.take (jg6 l e)++[e]++l.drop (jg6 l e):=by
 induction l with
 |nil=>rfl
 | cons a l ih=>
  unfold jg6 at *
  rw[insX]
  by_cases h:jbc a e=true
  ·rw[if_pos h,ih]
   simp[h]
  ·rw[if_neg h]
   simp[h]
theorem jjt{L:List EntryD}{e:EntryD}{k:Nat}(h1:∀(j:Nat) x,j<k->L[j]? =some x->jbc x e=true)(h2:∀x,L[k]? =some x->jbc x e=false)(hk:k<=L.length):jg6 L e=k:=by
 induction L generalizing k with
 |nil=>simp at hk;subst hk;rfl
 | cons a L ih=>
  unfold jg6 at *
  cases k with
  |zero=>have:=h2 a rfl;simp[this]
  |succ k=>
   have h0:=h1 0 a (by omega) rfl
   have:=ih (k:=k) (fun j x hj hx=>h1 (j+1) x (by omega) (by simpa using hx)) (fun x hx=>h2 x (by simpa using hx)) (by simp at hk;omega)
   simp[h0,this]
theorem ja9(L:List EntryD)(e:EntryD):(insX L e).length=L.length+1:=by
 induction L with
 |nil=>rfl
 |cons a L ih=>rw[insX];split<;>simp[ih]
theorem jak{L:List EntryD}:∀r∈L.map EntryD.cs,r.length=2:=fun r hr=>by
 obtain⟨x,_,rfl⟩:=List.mem_map.1 hr
 rfl
theorem jbn{L:List EntryD}:∀u∈(L.map EntryD.cs).flatten,u.oneCell'=true:=fun u hu=>by
 simp only[List.mem_flatten,List.mem_map]at hu
 obtain⟨r,⟨t,_,rfl⟩,hr⟩:=hu
 simp[EntryD.cs]at hr
 rcases hr with rfl|rfl<;>rfl
def Zb(w:World)(base:Nat)(v:Value)(L:List EntryD):Prop:=w.ownsRow base 57 2 v L.length (L.map EntryD.cs).flatten
theorem Zb.cell{w:World}{base g n cap:Nat}{L:List EntryD}(h:Zb w base (so g n cap) L){j:Nat}{u:Value}(hu:(L.map EntryD.cs).flatten[j]? =some u):w.cell? (ad g j)=some u:=by
 have h':w.ownsRow base 57 2 (so g n cap) L.length (L.map EntryD.cs).flatten:=h
 have hl:=(List.getElem?_eq_some_iff.1 hu).1
 rcases h'.2 with⟨hv,_⟩|⟨g2,c2,cur,hv,_⟩
 ·cases hv
 ·injection hv with e1 e2 e3
  subst e2
  rw[h'.cellAt j (by rw[ja6 jak,llm]at hl;omega)]
  exact hu
theorem Zb.shape{w:World}{base:Nat}{v:Value}{L:List EntryD}(h:Zb w base v L)(hn:0<L.length):∃g cap,v=so g L.length cap/\L.length<=cap:=by
 rcases h.2 with⟨_,h0⟩|⟨g,cap,cur,hv,hb,hg,hc,_⟩
 ·omega
 ·exact⟨g,cap,hv,hc⟩
set_option maxRecDepth 20000 in
theorem je8(L:List EntryD)(x:EntryD)(g m c base:Nat)(w:World)(hO:Zb w base (so g m c) L)(hm:L.length=m)(vi:m<=c)(hl:m<=1000):
  Cl 38 #[so g m c,.agg #[iv x.at_,iv x.id]] w fun e w'=>∃g' c',e=.returned (so g' (m+1) c')/\m+1<=c'/\Zb w' w.heap.size (so g' (m+1) c') (insX L x)/\Bw w w':=by
 obtain⟨i0,hi,aG,aH,aF⟩:=jft
 have HM:=hid hm
 clear hm
 have ag:Bw w (w.alloc (.cells #[iv x.at_,iv x.id] 57)):=qal _ _
 obtain⟨y0,y1⟩:(fun z:World=>z.cell? (ad w.heap.size 0)=some (iv x.at_)/\z.cell? (ad w.heap.size 1)=some (iv x.id)) (w.alloc (.cells #[iv x.at_,iv x.id] 57)):=by simp[go_sem]
 have nZ:Zb (w.alloc (.cells #[iv x.at_,iv x.id] 57)) base (so g m c) L:=jac hO ag
 clear hO
 unfold Cl;go_in
 go_wp2
 generalize (w.alloc (.cells #[iv x.at_,iv x.id] 57))=w0 at *
 go_loopw [5] (fun s wr=>∃k:Nat,k<=m/\s=iv k/\Hid (∀(j:Nat) y,j<k->L[j]? =some y->jbc y x=true)/\Bw w0 wr) (fun s _=>m+1-(intOf s).toNat)
 case atStart=>exact⟨0,by omega,rfl,fun j x hj=>by omega,brf _ _⟩
 case round=>
  obtain⟨wb,mQ⟩:=qea wr
  subst mQ
  obtain⟨k,hk,rfl,HS,ck⟩:=hrel
  have fW:Zb wb base (so g m c) L:=jac nZ ck
  have d0:=jaa ck y0
  have d1:=jaa ck y1
  have k0:(0:Int)<=(k:Int):=by omega
  clear nZ y0 y1
  go_upto_region 2 with fail
  go_cut [40]from 7 to 42 (fun Mb wx=>∃bb:Bool,Mb=.bool bb/\Hid (Bw wb wx)/\Hid (if bb=true then k<m/\∀(j:Nat) z,j<k+1->L[j]? =some z->jbc z x=true else jg6 L x=k))
  case first=>
   by_cases je:k<m
   ·have k1:(k:Int)<(m:Int):=by omega
    obtain⟨y,hy⟩:∃y,L[k]? =some y:=⟨_,lgg (by have:=HM.out;omega)⟩
    have CM:(L.map EntryD.cs)[k]? =some y.cs:=by rw[lgm,hy];rfl
    have cy:wb.cell? (ad g (k*2))=some (iv y.at_):=fW.cell (ja3 (q:=2) jak (j:=0) CM rfl)
    have cz:wb.cell? (ad g (k*2+1))=some (iv y.id):=fW.cell (ja3 (q:=2) jak (j:=1) CM rfl)
    clear CM
    by_cases h1:y.at_<x.at_
    ·skip
     have jM:Hid (∀(j:Nat) z,j<k+1->L[j]? =some z->jbc z x=true):=fun j z hj hz=>by
      by_cases e1:j=k
      ·subst e1;rw[hy]at hz;obtain rfl:=osi hz;exact jp3 h1
      ·exact HS.out j z (by omega) hz
     clear hy HS fW
     have q1:decide (y.at_<x.at_)=true:=dte h1
     have q0:decide ((k:Int)<(m:Int))=true:=dte k1
     go_wp2_with fail
     go_quiet (fail)
     go_wp2
     go_meet
     exact⟨true,rfl,blN wb nq,(by simp only[Hid];exact⟨je,jM.out⟩)⟩
    by_cases h2:x.at_<y.at_
    ·have h3:(y.at_==x.at_)=false:=by simp;omega
     have HA:Hid (jg6 L x=k):=jjt HS.out (fun z hz=>by rw[hy]at hz;obtain rfl:=osi hz;exact jp2 h2) (by have:=HM.out;omega)
     clear hy
     have q1:decide (y.at_<x.at_)=false:=dfe h1
     have q0:decide ((k:Int)<(m:Int))=true:=dte k1
     go_wp2_with fail
     go_quiet (fail)
     go_wp2
     go_meet
     exact⟨false,rfl,blN wb nq,(by simp only[Hid];exact HA.out)⟩
    have h3:y.at_=x.at_:=by omega
    have h4:(y.at_==x.at_)=true:=by simp[h3]
    by_cases h5:y.id<x.id
    ·skip
     have jM:Hid (∀(j:Nat) z,j<k+1->L[j]? =some z->jbc z x=true):=fun j z hj hz=>by
      by_cases e1:j=k
      ·subst e1;rw[hy]at hz;obtain rfl:=osi hz;exact jp1 h3 h5
      ·exact HS.out j z (by omega) hz
     clear hy HS fW
     clear h3
     have q1:decide (y.at_<x.at_)=false:=dfe h1
     have q2:decide (y.id<x.id)=true:=dte h5
     have q0:decide ((k:Int)<(m:Int))=true:=dte k1
     go_wp2_with fail
     go_quiet (fail)
     go_wp2
     go_meet
     exact⟨true,rfl,blN wb nq,(by simp only[Hid];exact⟨je,jM.out⟩)⟩
    ·skip
     have HA:Hid (jg6 L x=k):=jjt HS.out (fun z hz=>by rw[hy]at hz;obtain rfl:=osi hz;exact jp0 h3 h5) (by have:=HM.out;omega)
     clear hy
     clear h3
     have q1:decide (y.at_<x.at_)=false:=dfe h1
     have q2:decide (y.id<x.id)=false:=dfe h5
     have q0:decide ((k:Int)<(m:Int))=true:=dte k1
     go_wp2_with fail
     go_quiet (fail)
     go_wp2
     go_meet
     exact⟨false,rfl,blN wb nq,(by simp only[Hid];exact HA.out)⟩
   ·have k1:¬(k:Int)<(m:Int):=by omega
    have HA:Hid (jg6 L x=k):=jjt HS.out (fun z hz=>by have:=(lgs hz).1;have:=HM.out;omega) (by have:=HM.out;omega)
    have q0:decide ((k:Int)<(m:Int))=false:=dfe k1
    go_wp2_with fail
    go_quiet (fail)
    go_wp2
    go_meet
    exact⟨false,rfl,blN wb nq,(by simp only[Hid];exact HA.out)⟩
  obtain⟨bb,rfl,hW,HB⟩:=hcut
  obtain⟨wq,qQ⟩:=qea wc
  subst qQ
  have hW:=hW.out
  cases bb
  case true=>
   obtain⟨je,jM⟩:k<m/\Hid (∀(j:Nat) z,j<k+1->L[j]? =some z->jbc z x=true):=by simpa [Hid]using HB
   clear HB HS fW
   go_wp2
   go_roundw
   case rel=>exact⟨k+1,by omega,by go_num,jM,(qtr ck hW)⟩
   case measure=>simp[intOf];omega
  case false=>
   have HA:Hid (jg6 L x=k):=by simpa [Hid]using HB
   clear HB
   have bI:Zb wq base (so g m c) L:=jac fW hW
   have dt:Bw w wq:=(qtr ag ck).trans (hW.mono (qtr ag ck).size)
   have e0:=jaa hW d0
   have e1:=jaa hW d1
   clear fW ag ck d0 d1 HS hW
   have lk:(L.take k).length=k:=by rw[List.length_take,HM.out];omega
   have ld:(L.drop k).length=m-k:=by rw[List.length_drop,HM.out]
   have iN:(L.map EntryD.cs).take k=(L.take k).map EntryD.cs:=List.map_take.symm
   have iM:(L.map EntryD.cs).drop k=(L.drop k).map EntryD.cs:=List.map_drop.symm
   have t1:((L.take k).map EntryD.cs).flatten.length=k*2:=by rw[ja6 jak,llm,lk]
   have t2:((L.drop k).map EntryD.cs).flatten.length=(m-k)*2:=by rw[ja6 jak,llm,ld]
   have n1:∀j u,((L.take k).map EntryD.cs).flatten[j]? =some u->(wq.alloc (.cells #[] 57)).cell? (((ad g 0):Addr).add j)=some u:=fun j u hj=>by
    rw[addP,Nat.zero_add]
    exact jaa (qal wq _) (bI.cell (jfy (k:=k) (by rw[iN];exact hj)))
   have HD:Hid (∀w2,Bw wq w2->∀j u,((L.drop k).map EntryD.cs).flatten[j]? =some u->w2.cell? (ad g (k*2+j))=some u):=fun w2 hb j u hj=>jaa hb (bI.cell (jfx jak (by rw[llm,HM.out];omega) (by rw[iM];exact hj)))
   have HE:Hid (insX L x=(L.take k++[x])++L.drop k):=by simp only[Hid];rw[jqi,HA.out]
   have hE:=ja5 wq 57 2
   have k2:(k:Int)<=(c:Int):=by omega
   have k3:(k:Int)<=(m:Int):=by omega
   clear bI iN iM
   go_wp2_with (first|(at_builtin;refine wpList_append_own _ rfl _ _ 39 rfl wq.heap.size 57 i0 (.agg #[iv 0,iv 0]) 2 16 Tryz.underlying39 hi aG aH aF rfl (by decide) _ _ _ rfl hE (ad g 0) k c ((L.take k).map EntryD.cs).flatten rfl t1 n1 jbn ?a3 ?a4 ?a5 ?_)|fail)
   case a3=>unfold maxLen;omega
   case a4=>omega
   case a5=>simp
   intro v1 w1 av aP _
   have aj:Bw wq w1:=(qal wq _).grown aP (by simp) (fun j hj=>(hE.lt j hj).1)
   obtain⟨a1,m1,x1,rfl⟩:=jad av
   have bU:=aj.size
   have f0:=jaa aj e0
   have f1:=jaa aj e1
   clear aP hE n1 t1 e0 e1
   go_wp2_with (first|(at_builtin;refine wpList_append_own _ rfl _ _ 39 rfl wq.heap.size 57 i0 (.agg #[iv 0,iv 0]) 2 16 Tryz.underlying39 hi aG aH aF rfl (by decide) _ _ _ rfl (woa av _) (ad w1.heap.size 0) 1 1 [iv x.at_,iv x.id] rfl rfl ?b1 ?b2 ?b3 ?b4 ?b5 ?_)|fail)
   case b1=>exact jah _ [iv x.at_,iv x.id] _
   case b2=>intro u hu;simp at hu;rcases hu with rfl|rfl<;>rfl
   case b3=>unfold maxLen;omega
   case b4=>omega
   case b5=>simp;omega
   intro v2 w2 aw aU _
   have an:Bw wq w2:=(aj.alloc aj.size _).grown aU (by simp;omega) (fun j hj=>(av.lt j hj).1)
   obtain⟨a2,m2,x2,rfl⟩:=jad aw
   have dR:=an.size
   have n2:=HD.out w2 an
   clear aU av aj f0 f1
   by_cases iH:c=k
   ·have qF:k=m:=by omega
    have qv:k=c:=iH.symm
    clear iH
    subst qv
    subst qF
    have t2:((L.drop k).map EntryD.cs).flatten.length=0*2:=by rw[t2];simp
    have n3:∀j u,((L.drop k).map EntryD.cs).flatten[j]? =some u->w2.cell? (((ad g 0):Addr).add j)=some u:=fun j u hj=>by have h1:=(List.getElem?_eq_some_iff.1 hj).1;rw[t2]at h1;omega
    go_wp2_with (first|(at_builtin;refine wpList_append_own _ rfl _ _ 39 rfl wq.heap.size 57 i0 (.agg #[iv 0,iv 0]) 2 16 Tryz.underlying39 hi aG aH aF rfl (by decide) _ _ _ rfl aw (ad g 0) 0 0 ((L.drop k).map EntryD.cs).flatten rfl t2 n3 jbn ?g3 ?g4 ?g5 ?_)|fail)
    case g3=>unfold maxLen;omega
    case g4=>omega
    case g5=>omega
    intro v3 w3 aI aJ _
    have ax:Bw wq w3:=an.grown aJ (by omega) (fun j hj=>(aw.lt j hj).1)
    have HO:Hid (Zb w3 w.heap.size v3 (insX L x)):=by
     simp only[Hid]
     have h9:w3.ownsRow wq.heap.size 57 2 v3 (insX L x).length ((insX L x).map EntryD.cs).flatten:=by
      rw[ja9,HM.out,HE.out,lma,lma,List.flatten_append,List.flatten_append]
      have hx:k+1+0=k+1:=by omega
      rw[hx]at aI
      simpa [EntryD.cs]using aI
     exact jaj h9 dt.size
    obtain⟨g3,x3,eS,eI⟩:=HO.out.shape (by rw[ja9];omega)
    rw[ja9,HM.out]at eS eI
    subst eS
    have cR:Bw w w3:=qtr dt ax
    clear aJ aI aw an ax n2 n3 t2 HD
    go_wp2
    go_ret
    exact⟨g3,x3,rfl,eI,HO.out,cR⟩
   ·skip
    have n3:∀j u,((L.drop k).map EntryD.cs).flatten[j]? =some u->w2.cell? (((ad g (k*2)):Addr).add j)=some u:=fun j u hj=>by rw[addP];exact n2 j u hj
    go_wp2_with (first|(at_builtin;refine wpList_append_own _ rfl _ _ 39 rfl wq.heap.size 57 i0 (.agg #[iv 0,iv 0]) 2 16 Tryz.underlying39 hi aG aH aF rfl (by decide) _ _ _ rfl aw (ad g (k*2)) (m-k) (c-k) ((L.drop k).map EntryD.cs).flatten rfl t2 n3 jbn ?g3 ?g4 ?g5 ?_)|fail)
    case g3=>unfold maxLen;omega
    case g4=>omega
    case g5=>omega
    intro v3 w3 aI aJ _
    have ax:Bw wq w3:=an.grown aJ (by omega) (fun j hj=>(aw.lt j hj).1)
    have HO:Hid (Zb w3 w.heap.size v3 (insX L x)):=by
     simp only[Hid]
     have h9:w3.ownsRow wq.heap.size 57 2 v3 (insX L x).length ((insX L x).map EntryD.cs).flatten:=by
      rw[ja9,HM.out,HE.out,lma,lma,List.flatten_append,List.flatten_append]
      have hx:k+1+(m-k)=m+1:=by omega
      rw[hx]at aI
      simpa [EntryD.cs]using aI
     exact jaj h9 dt.size
    obtain⟨g3,x3,eS,eI⟩:=HO.out.shape (by rw[ja9];omega)
    rw[ja9,HM.out]at eS eI
    subst eS
    have cR:Bw w w3:=qtr dt ax
    clear aJ aI aw an ax n2 n3 t2 HD
    go_wp2
    go_ret
    exact⟨g3,x3,rfl,eI,HO.out,cR⟩
theorem j0j(x y:EntryD):decide (orI (cmpI x.at_ y.at_) (cmpI x.id y.id)<0)=jbc x y:=by
 unfold orI cmpI
 by_cases h1:x.at_<y.at_
 ·rw[jp3 h1,if_pos h1,if_neg (by decide)];rfl
 ·by_cases h2:y.at_<x.at_
  ·rw[jp2 h2,if_neg h1,if_pos h2,if_neg (by decide)];rfl
  ·have e:x.at_=y.at_:=by omega
   rw[if_neg h1,if_neg h2,if_pos rfl]
   by_cases h3:x.id<y.id
   ·rw[jp1 e h3,if_pos h3];rfl
   ·rw[jp0 e h3,if_neg h3]
    by_cases h4:y.id<x.id
    ·rw[if_pos h4];rfl
    ·rw[if_neg h4];rfl
theorem lessX_iff{x y:EntryD}:jbc x y=true↔x.at_<y.at_\/(x.at_=y.at_/\x.id<y.id):=by
 by_cases h1:x.at_<y.at_
 ·rw[jp3 h1];exact⟨fun _=>.inl h1,fun _=>rfl⟩
 ·by_cases h2:y.at_<x.at_
  ·rw[jp2 h2];exact⟨fun h=>by(cases h),fun h=>by(exfalso;omega)⟩
  ·have e:x.at_=y.at_:=by omega
   by_cases h3:x.id<y.id
   ·rw[jp1 e h3];exact⟨fun _=>.inr ⟨e,h3⟩,fun _=>rfl⟩
   ·rw[jp0 e h3];exact⟨fun h=>by(cases h),fun h=>by(exfalso;omega)⟩
theorem jis{x y:EntryD}(h1:jbc x y=false)(h2:jbc y x=false):x=y:=by
 have a:¬(x.at_<y.at_\/(x.at_=y.at_/\x.id<y.id)):=fun h=>by rw[lessX_iff.mpr h]at h1;cases h1
 have b:¬(y.at_<x.at_\/(y.at_=x.at_/\y.id<x.id)):=fun h=>by rw[lessX_iff.mpr h]at h2;cases h2
 cases x;cases y
 simp only at a b
 congr 1<;>omega
def jhm(L:List EntryD):Prop:=L.Pairwise fun x y=>jbc x y=true
theorem jfr{x y:EntryD}(h1:jbc x y=true)(h2:jbc y x=true):False:=by
 have a:=lessX_iff.mp h1
 have b:=lessX_iff.mp h2
 omega
theorem jir{x y z:EntryD}(h1:jbc x y=true)(h2:jbc y z=true):jbc x z=true:=by
 have a:=lessX_iff.mp h1
 have b:=lessX_iff.mp h2
 exact lessX_iff.mpr (by omega)
theorem insX_mem{l:List EntryD}{e x:EntryD}:x∈insX l e↔x=e\/x∈l:=by
 induction l with
 |nil=>simp[insX]
 |cons a l ih=>
  rw[insX]
  split
  ·simp only[List.mem_cons,ih]
   constructor
   ·rintro(h|h|h)
    ·exact .inr (.inl h)
    ·exact .inl h
    ·exact .inr (.inr h)
   ·rintro(h|h|h)
    ·exact .inr (.inl h)
    ·exact .inl h
    ·exact .inr (.inr h)
  ·simp only[List.mem_cons]
theorem j2d{l:List EntryD}{e:EntryD}(h:jhm l)(hn:e∉l):jhm (insX l e):=by
 unfold jhm at *
 induction l with
 |nil=>simp[insX]
 |cons a l ih=>
  have h':=List.pairwise_cons.mp h
  rw[insX]
  split
  ·rename_i ha
   refine List.pairwise_cons.mpr ⟨fun x hx=>?_,ih h'.2 fun hx=>hn (lmc _ hx)⟩
   rcases insX_mem.mp hx with rfl|hx
   ·exact ha
   ·exact h'.1 x hx
  ·rename_i ha
   have su:jbc e a=true:=by
    cases hb:jbc e a
    ·exact absurd (jis (by simpa using ha) hb) (fun h=>hn (by rw[h];simp))
    ·rfl
   refine List.pairwise_cons.mpr ⟨fun x hx=>?_,h⟩
   rcases List.mem_cons.mp hx with rfl|hx
   ·exact su
   ·exact jir su (h'.1 x hx)
theorem jus{L M:List EntryD}(hL:jhm L)(hM:jhm M)(h:∀e,e∈L↔e∈M):L=M:=by
 unfold jhm at *
 induction L generalizing M with
 |nil=>
  cases M with
  |nil=>rfl
  |cons y M=>exact absurd ((h y).mpr (by simp)) (by simp)
 |cons x L ih=>
  cases M with
  |nil=>exact absurd ((h x).mp (by simp)) (by simp)
  |cons y M=>
   have km:=List.pairwise_cons.mp hL
   have cP:=List.pairwise_cons.mp hM
   have gI:x=y:=by
    rcases List.mem_cons.mp ((h x).mp (by simp))with e|e
    ·exact e
    ·rcases List.mem_cons.mp ((h y).mpr (by simp))with e2|e2
     ·exact e2.symm
     ·exact(jfr (cP.1 x e) (km.1 y e2)).elim
   subst gI
   rw[ih km.2 cP.2 fun e=>?_]
   constructor
   ·intro he
    rcases List.mem_cons.mp ((h e).mp (lmc _ he))with e2|e2
    ·subst e2;exact(jfr (km.1 _ he) (km.1 _ he)).elim
    ·exact e2
   ·intro he
    rcases List.mem_cons.mp ((h e).mpr (lmc _ he))with e2|e2
    ·subst e2;exact(jfr (cP.1 _ he) (cP.1 _ he)).elim
    ·exact e2
theorem jml{α:Type}{enc:α->List Value}{k:Nat}(hk:∀x,(enc x).length=k){P:List α}:∀r∈P.map enc,r.length=k:=fun r hr=>by
 obtain⟨x,_,rfl⟩:=List.mem_map.1 hr
 exact hk x
theorem jjn{k:Nat}:∀{rows:List (List Value)},(∀r∈rows,r.length=k)->rows.flatten.length=rows.length*k
 |[],_=>by simp
 |r::rows,h=>by
  rw[List.flatten_cons,lla,jjn fun x hx=>h x (lmc _ hx),h r (List.mem_cons_self ..),List.length_cons,Nat.add_mul]
  omega
theorem jo1{α:Type}[Inhabited α]{enc:α->List Value}{k:Nat}(hk:∀x,(enc x).length=k)(h0:0<k)(P:List α){t:Nat}(h:t<P.length*k):(P.map enc).flatten[t]? =some (enc P.toArray[t / k]!)[t%k]! :=by
 have h1:t / k<P.length:=(Nat.div_lt_iff_lt_mul h0).mpr h
 have h2:P[t / k]? =some P.toArray[t / k]! :=by rw[lgg h1];simp[getElem!_pos,h1]
 have h4:t%k<(enc P.toArray[t / k]!).length:=by rw[hk];exact Nat.mod_lt _ h0
 have h3:=ja3 (jml hk (P:=P)) (i:=t / k) (j:=t%k) (by rw[lgm,h2];rfl) (c:=(enc P.toArray[t / k]!)[t%k]!) (by rw[lgg h4,getElem!_pos (enc P.toArray[t / k]!) (t%k) h4])
 rw[show t / k*k+t%k=t by rw[Nat.mul_comm];exact Nat.div_add_mod t k]at h3
 exact h3
theorem j3p{α:Type}[Inhabited α]{enc:α->List Value}{k:Nat}(hk:∀x,(enc x).length=k)(h0:0<k){e:TypeId}{w:World}{base g n cap:Nat}{P:List α}(h:w.ownsRow base e k (so g n cap) P.length (P.map enc).flatten):HoldsK enc k w g 0 P.toArray/\g<w.heap.size/\base<=g/\n=P.length/\n<=cap:=by
 have hl:(P.map enc).flatten.length=P.length*k:=by rw[jjn (jml hk),llm]
 rcases h.2 with⟨e0,_⟩|⟨g',fK,cur,e0,hb,hg,hn,hm,hs,ht⟩
 ·cases e0
 injection e0 with e1 e2 e3
 injection e1 with e1
 injection e1 with e1
 subst e1 e2 e3
 refine⟨fun j hj=>?_,(Array.getElem?_eq_some_iff.1 hg).1,hb,rfl,hn⟩
 have Ca:j<P.length*k:=by simpa using hj
 refine⟨?_,by simp[World.frozen?,hg]⟩
 rw[get_flatK _ _ _ j (by simpa using Ca),Nat.zero_add]
 have hq:=jo1 hk h0 P Ca
 rw[<- ht,List.getElem?_take,if_pos Ca,Array.getElem?_toList]at hq
 simp[World.cell?,hg,hq]
theorem putG{α:Type}[Inhabited α]{enc:α->List Value}{k:Nat}(hk:∀x,(enc x).length=k)(h0:0<k){e:TypeId}{w:World}{base g n cap q:Nat}{P Q:List α}{os:Array Obj}(h:w.ownsRow base e k (so g n cap) P.length (P.map enc).flatten)(hQ:Q.length=P.length):(sortWorldK enc k w g 0 q Q.toArray os).ownsRow base e k (so g n cap) Q.length (Q.map enc).flatten/\w.grownBy (sortWorldK enc k w g 0 q Q.toArray os) (some g):=by
 have hl:(Q.map enc).flatten.length=Q.length*k:=by rw[jjn (jml hk),llm]
 rcases h.2 with⟨e0,_⟩|⟨g',fK,cur,e0,hb,hg,hn,hm,hs,ht⟩
 ·cases e0
 injection e0 with e1 e2 e3
 injection e1 with e1
 injection e1 with e1
 subst e1 e2 e3
 have hlt:g<w.heap.size:=(Array.getElem?_eq_some_iff.1 hg).1
 have cr:Q.length*k<=cap*k:=Nat.mul_le_mul_right _ (by omega)
 constructor
 ·refine⟨hl,.inr ⟨g,cap,putCells id 0 (flatK enc k Q.toArray) cur,by rw[hQ],hb,?_,by omega,hm,by simpa [putCells]using hs,?_⟩⟩
  ·unfold sortWorldK putRowK
   rw[heap_grow_old _ _ (by simpa using hlt)]
   simp[putRow,mapBlock,Sort.ahead,Array.getElem?_modify,hg,onCells]
  ·apply List.ext_getElem?
   intro j
   rw[List.getElem?_take,Array.getElem?_toList]
   by_cases hj:j<Q.length*k
   ·have Ke:j<cur.size:=by omega
    rw[if_pos hj,jo1 hk h0 Q hj]
    simp only[putCells,Array.getElem?_mapIdx,Array.getElem?_eq_getElem Ke,Option.map_some]
    rw[if_pos (by simp;omega),Nat.sub_zero,get_flatK _ _ _ j (by simpa using hj)]
    rfl
   ·rw[if_neg hj,List.getElem?_eq_none (by omega)]
 ·refine⟨rfl,rfl,rfl,by simp[sortWorldK,putRowK],fun i hi az=>?_⟩
  unfold sortWorldK putRowK
  rw[heap_grow_old _ _ (by simpa using hi)]
  have:g≠i:=fun e=>az (by rw[e])
  simp[putRow,mapBlock,Sort.ahead,Array.getElem?_modify,this]
def jg9(P:List EntryD):List EntryD:=P.mergeSort fun x y=> !jbc y x
theorem jvg{P:List EntryD}{e:EntryD}:e∈jg9 P↔e∈P:=(List.mergeSort_perm P _).mem_iff
theorem jvh(P:List EntryD):(jg9 P).length=P.length:=List.length_mergeSort P
theorem jtk(x:EntryD):jbc x x=false:=by
 cases h:jbc x x
 ·rfl
 ·exact(jfr h h).elim
theorem jns{x y z:EntryD}(h1:jbc x y=false)(h2:jbc y z=false):jbc x z=false:=by
 cases h:jbc x z
 ·rfl
 ·have a:¬(x.at_<y.at_\/(x.at_=y.at_/\x.id<y.id)):=fun h=>by rw[lessX_iff.mpr h]at h1;cases h1
  have b:¬(y.at_<z.at_\/(y.at_=z.at_/\y.id<z.id)):=fun h=>by rw[lessX_iff.mpr h]at h2;cases h2
  have c:=lessX_iff.mp h
  exfalso
  omega
theorem jyp{P:List EntryD}(h:P.Nodup):jhm (jg9 P):=by
 have hs:=List.pairwise_mergeSort (le:=fun(x y:EntryD)=> !jbc y x) (fun a b c h1 h2=>by
  simp only[Bool.not_eq_eq_eq_not,Bool.not_true]at *
  exact jns h2 h1) (fun a b=>by
  cases h1:jbc b a
  ·rfl
  ·cases h2:jbc a b
   ·rfl
   ·exact(jfr h1 h2).elim) P
 have hn:(jg9 P).Nodup:=(List.mergeSort_perm P _).nodup_iff.mpr h
 unfold jhm
 refine(List.pairwise_and_iff.mpr ⟨hs,hn⟩).imp fun {x y} gI=>?_
 obtain⟨h1,h2⟩:=gI
 cases h3:jbc x y
 ·exact absurd (jis h3 (by simpa using h1)) h2
 ·rfl
