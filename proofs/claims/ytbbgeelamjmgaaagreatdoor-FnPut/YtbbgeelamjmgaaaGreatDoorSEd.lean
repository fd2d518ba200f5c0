import Derived.Test.YtbbgeelamjmgaaaGreatDoorSBd
import Derived.Shelf.GgSortFunc.InsertionK
set_option maxHeartbeats 0
set_option linter.unusedSimpArgs false
open Go.RowKit Go.Sort
namespace Go.Proofs.YtbbgeelamjmgaaaGreatDoor
variable{a b e x y z:ZY}{L P l:List ZY}{base k:Nat}{w:World}
def Ib(a b:ZY):Bool:=decide (a.at_<b.at_) || (decide (a.at_=b.at_)&&decide (a.id<b.id))
theorem jp3(h:a.at_<b.at_):Ib a b=true:=by unfold Ib;rw[rT h];rfl
theorem jp2(h:b.at_<a.at_):Ib a b=false:=by unfold Ib;rw[dfe Q,dfe Q];rfl
theorem jp1(h:a.at_=b.at_)(h2:a.id<b.id):Ib a b=true:=by unfold Ib;rw[rT h,rT h2];simp
theorem jp0(h:a.at_=b.at_)(h2:¬a.id<b.id):Ib a b=false:=by unfold Ib;rw[dfe Q,dfe h2];simp
def vaH:List ZY->ZY->List ZY
 |[],e=>[e]
 |x::l,e=>if Ib x e=true then x::vaH l e else e::x::l
def jg6(l:List ZY)(e:ZY):Nat:=(l.takeWhile λx=>Ib x e).length
theorem jqi(l:List ZY)(e:ZY):vaH l e=l.take (jg6 l e)++[e]++l.drop (jg6 l e):=by
 induction l with
 |nil=>rfl
 | cons a l ih=>
  unfold jg6 at *;rw[vaH];by_cases h:Ib a e=true
  .rw[if_pos h,ih]
   simp[h]
  .rw[if_neg h]
   simp[h]
theorem jjt(h1:∀(j:Nat) x,j<k->L[j]? =some x->Ib x e=true)(h2:∀x,L[k]? =some x->Ib x e=false)(hk:k<=L.length):jg6 L e=k:=by
 induction L generalizing k with
 |nil=>simp at hk;subst hk;rfl
 | cons a L ih=>
  unfold jg6 at *;cases k with
  |zero=>have:=h2 a rfl;simp[this]
  |succ k=>
   have h0:=h1 0 a Q rfl;have:=ih (k:=k) (λj x hj hx=>h1 (j+1) x Q (by simpa using hx)) (λx hx=>h2 x (by simpa using hx)) (by simp at hk;omega);simp[h0,this]
theorem ja9(L:List ZY)(e:ZY):(vaH L e).length=L.length+1:=by
 induction L with
 |nil=>rfl
 |cons a L ih=>rw[vaH];split<;>simp[ih]
theorem jak:∀r∈L.map ZY.cs,r.length=2:=λr hr=>by
 obtain⟨x,_,rfl⟩:=List.mem_map.1 hr;rfl
theorem jbn:∀u∈(L.map ZY.cs).flatten,u.oneCell'=true:=λu hu=>by
 simp only[List.mem_flatten,List.mem_map]at hu;obtain⟨r,⟨t,_,rfl⟩,hr⟩:=hu;simp[ZY.cs]at hr;rcases hr with rfl|rfl<;>rfl
def Zb(w:World)(base:Nat)(v:Value)(L:List ZY):Prop:=w.ownsRow base 76 2 v L.length (L.map ZY.cs).flatten
theorem Zb.cell{g n cap:Nat}(h:Zb w base (so g n cap) L){j:Nat}{u:Value}(hu:(L.map ZY.cs).flatten[j]? =some u):w.cell? (O g j)=some u:=by
 have h':w.ownsRow base 76 2 (so g n cap) L.length (L.map ZY.cs).flatten:=h;have hl:=(List.getElem?_eq_some_iff.1 hu).1;rcases h'.2 with⟨hv,_⟩|⟨g2,c2,cur,hv,_⟩
 .cases hv
 .injection hv with e1 e2 e3
  subst e2;rw[h'.cellAt j (by rw[ja6 jak,BX]at hl;omega)];exact hu
theorem Zb.shape{v:Value}(h:Zb w base v L)(hn:0<L.length):∃g cap,v=so g L.length cap/\L.length<=cap:=by
 rcases h.2 with⟨_,h0⟩|⟨g,cap,cur,hv,hb,hg,hc,_⟩
 .omega
 .exact⟨g,cap,hv,hc⟩
set_option maxRecDepth 20000 in
theorem je8(L:List ZY)(x:ZY)(g m c base:Nat)(w:World)(hO:Zb w base (so g m c) L)(hm:L.length=m)(vi:m<=c)(hl:m<=1000):
  C 73 #[so g m c,.agg #[J x.at_,J x.id]] w λe w'=>∃g' c',e=V (so g' (m+1) c')/\m+1<=c'/\Zb w' w.heap.size (so g' (m+1) c') (vaH L x)/\Bw w w':=by
 have⟨i0,hi,aG,aH,aF⟩:=jft;have HM:=hid hm;clear hm;have ag:Bw w (w.alloc (G #[J x.at_,J x.id] 76)):=ZA _ _;obtain⟨y0,y1⟩:(λz:World=>z.cell? (O w.heap.size 0)=some (J x.at_)/\z.cell? (O w.heap.size 1)=some (J x.id)) (w.alloc (G #[J x.at_,J x.id] 76)):=RQ;have nZ:Zb (w.alloc (G #[J x.at_,J x.id] 76)) base (so g m c) L:=uZ hO ag;clear hO;unfold C;go_in;go_wp2;generalize (w.alloc (G #[J x.at_,J x.id] 76))=w0 at *;go_loopw [5] (λs wr=>∃k:Nat,k<=m/\s=J k/\Hid (∀(j:Nat) y,j<k->L[j]? =some y->Ib y x=true)/\Bw w0 wr) (λs _=>m+1-(intOf s).toNat)
 .exact⟨0,Q,rfl,λj x hj=>Q,ZU _ _⟩
 ·
  have⟨wb,mQ⟩:=wL wr;subst mQ;obtain⟨k,hk,rfl,HS,ck⟩:=hrel;have fW:Zb wb base (so g m c) L:=uZ nZ ck;have d0:=YR ck y0;have d1:=YR ck y1;have k0:(0:Int)<=(k:Int):=Q;clear nZ y0 y1;go_upto_region 2 with fail
  go_cut [40]from 7 to 42 (λMb wx=>∃bb:Bool,Mb=.bool bb/\Hid (Bw wb wx)/\Hid (if bb=true then k<m/\∀(j:Nat) z,j<k+1->L[j]? =some z->Ib z x=true else jg6 L x=k))
  case first=>
   by_cases je:k<m
   .have k1:(k:Int)<(m:Int):=Q
    obtain⟨y,hy⟩:∃y,L[k]? =some y:=⟨_,ZV (by have:=HM.out;omega)⟩;have CM:(L.map ZY.cs)[k]? =some y.cs:=by rw[Z8,hy];rfl
    have cy:wb.cell? (O g (k*2))=some (J y.at_):=fW.cell (ja3 (q:=2) jak (j:=0) CM rfl);have cz:wb.cell? (O g (k*2+1))=some (J y.id):=fW.cell (ja3 (q:=2) jak (j:=1) CM rfl);clear CM;by_cases h1:y.at_<x.at_
    .skip
     have jM:Hid (∀(j:Nat) z,j<k+1->L[j]? =some z->Ib z x=true):=λj z hj hz=>by
      by_cases e1:j=k
      .subst e1;rw[hy]at hz;obtain rfl:=Z9 hz;exact jp3 h1
      .exact HS.out j z Q hz
     clear hy HS fW;have q1:decide (y.at_<x.at_)=true:=rT h1;have q0:decide ((k:Int)<(m:Int))=true:=rT k1;go_wp2_with fail;go_quiet (fail);go_wp2;go_meet;exact⟨true,rfl,blN wb nq,(by simp only[Hid];exact⟨je,jM.out⟩)⟩
    by_cases h2:x.at_<y.at_
    .have h3:(y.at_==x.at_)=false:=RO
     have HA:Hid (jg6 L x=k):=jjt HS.out (λz hz=>by rw[hy]at hz;obtain rfl:=Z9 hz;exact jp2 h2) (by have:=HM.out;omega);clear hy;have q1:decide (y.at_<x.at_)=false:=dfe h1;have q0:decide ((k:Int)<(m:Int))=true:=rT k1;go_wp2_with fail;go_quiet (fail);go_wp2;go_meet;exact⟨false,rfl,blN wb nq,(by simp only[Hid];exact HA.out)⟩
    have h3:y.at_=x.at_:=Q;have h4:(y.at_==x.at_)=true:=by simp[h3]
    by_cases h5:y.id<x.id
    .skip
     have jM:Hid (∀(j:Nat) z,j<k+1->L[j]? =some z->Ib z x=true):=λj z hj hz=>by
      by_cases e1:j=k
      .subst e1;rw[hy]at hz;obtain rfl:=Z9 hz;exact jp1 h3 h5
      .exact HS.out j z Q hz
     clear hy HS fW;clear h3;have q1:decide (y.at_<x.at_)=false:=dfe h1;have q2:decide (y.id<x.id)=true:=rT h5;have q0:decide ((k:Int)<(m:Int))=true:=rT k1;go_wp2_with fail;go_quiet (fail);go_wp2;go_meet;exact⟨true,rfl,blN wb nq,(by simp only[Hid];exact⟨je,jM.out⟩)⟩
    .skip
     have HA:Hid (jg6 L x=k):=jjt HS.out (λz hz=>by rw[hy]at hz;obtain rfl:=Z9 hz;exact jp0 h3 h5) (by have:=HM.out;omega);clear hy;clear h3;have q1:decide (y.at_<x.at_)=false:=dfe h1;have q2:decide (y.id<x.id)=false:=dfe h5;have q0:decide ((k:Int)<(m:Int))=true:=rT k1;go_wp2_with fail;go_quiet (fail);go_wp2;go_meet;exact⟨false,rfl,blN wb nq,(by simp only[Hid];exact HA.out)⟩
   .have k1:¬(k:Int)<(m:Int):=Q
    have HA:Hid (jg6 L x=k):=jjt HS.out (λz hz=>by have:=(pO hz).1;have:=HM.out;omega) (by have:=HM.out;omega);have q0:decide ((k:Int)<(m:Int))=false:=dfe k1;go_wp2_with fail;go_quiet (fail);go_wp2;go_meet;exact⟨false,rfl,blN wb nq,(by simp only[Hid];exact HA.out)⟩
  obtain⟨bb,rfl,hW,HB⟩:=hcut;have⟨wq,qQ⟩:=wL wc;subst qQ;have hW:=hW.out;cases bb
  case true=>
   obtain⟨je,jM⟩:k<m/\Hid (∀(j:Nat) z,j<k+1->L[j]? =some z->Ib z x=true):=by simpa [Hid]using HB
   clear HB HS fW;go_wp2;go_roundw
   .exact⟨k+1,Q,RP,jM,(Zp ck hW)⟩
   .simp[intOf];omega
  case false=>
   have HA:Hid (jg6 L x=k):=by simpa [Hid]using HB
   clear HB;have bI:Zb wq base (so g m c) L:=uZ fW hW;have dt:Bw w wq:=(Zp ag ck).trans (hW.mono (Zp ag ck).size);have e0:=YR hW d0;have e1:=YR hW d1;clear fW ag ck d0 d1 HS hW;have lk:(L.take k).length=k:=by rw[List.length_take,HM.out];omega
   have ld:(L.drop k).length=m-k:=by rw[List.length_drop,HM.out]
   have iN:(L.map ZY.cs).take k=(L.take k).map ZY.cs:=List.map_take.symm;have iM:(L.map ZY.cs).drop k=(L.drop k).map ZY.cs:=List.map_drop.symm;have t1:((L.take k).map ZY.cs).flatten.length=k*2:=by rw[ja6 jak,BX,lk]
   have t2:((L.drop k).map ZY.cs).flatten.length=(m-k)*2:=by rw[ja6 jak,BX,ld]
   have n1:∀j u,((L.take k).map ZY.cs).flatten[j]? =some u->(wq.alloc (G #[] 76)).cell? (((O g 0):Addr).add j)=some u:=λj u hj=>by
    rw[vby,Nat.zero_add];exact YR (ZA wq _) (bI.cell (jfy (k:=k) (by rw[iN];exact hj)))
   have HD:Hid (∀w2,Bw wq w2->∀j u,((L.drop k).map ZY.cs).flatten[j]? =some u->w2.cell? (O g (k*2+j))=some u):=λw2 hb j u hj=>YR hb (bI.cell (jfx jak (by rw[BX,HM.out];omega) (by rw[iM];exact hj)))
   have HE:Hid (vaH L x=(L.take k++[x])++L.drop k):=by simp only[Hid];rw[jqi,HA.out]
   have hE:=ja5 wq 76 2;have k2:(k:Int)<=(c:Int):=Q;have k3:(k:Int)<=(m:Int):=Q;clear bI iN iM;go_wp2_with (first|(at_builtin;refine wpList_append_own _ rfl _ _ 29 rfl wq.heap.size 76 i0 (.agg #[J 0,J 0]) 2 16 Tryz.underlying29 hi aG aH aF rfl RN _ _ _ rfl hE (O g 0) k c ((L.take k).map ZY.cs).flatten rfl t1 n1 jbn ?a3 ?a4 ?a5 ?_)|fail)
   case a3=>unfold maxLen;omega
   case a4=>omega
   case a5=>simp
   intro v1 w1 av aP _;have aj:Bw wq w1:=(ZA wq _).grown aP M (λj hj=>(hE.lt j hj).1);obtain⟨a1,m1,x1,rfl⟩:=Dt av;have bU:=aj.size;have f0:=YR aj e0;have f1:=YR aj e1;clear aP hE n1 t1 e0 e1;go_wp2_with (first|(at_builtin;refine wpList_append_own _ rfl _ _ 29 rfl wq.heap.size 76 i0 (.agg #[J 0,J 0]) 2 16 Tryz.underlying29 hi aG aH aF rfl RN _ _ _ rfl (nO av _) (O w1.heap.size 0) 1 1 [J x.at_,J x.id] rfl rfl ?b1 ?b2 ?b3 ?b4 ?b5 ?_)|fail)
   case b1=>exact Ka _ [J x.at_,J x.id] _
   case b2=>intro u hu;simp at hu;rcases hu with rfl|rfl<;>rfl
   case b3=>unfold maxLen;omega
   case b4=>omega
   case b5=>simp;omega
   intro v2 w2 aw aU _;have an:Bw wq w2:=(aj.alloc aj.size _).grown aU RO (λj hj=>(av.lt j hj).1);obtain⟨a2,m2,x2,rfl⟩:=Dt aw;have dR:=an.size;have n2:=HD.out w2 an;clear aU av aj f0 f1;by_cases iH:c=k
   .have qF:k=m:=Q
    have qv:k=c:=iH.symm;clear iH;subst qv;subst qF;have t2:((L.drop k).map ZY.cs).flatten.length=0*2:=by rw[t2];simp
    have n3:∀j u,((L.drop k).map ZY.cs).flatten[j]? =some u->w2.cell? (((O g 0):Addr).add j)=some u:=λj u hj=>by have h1:=(List.getElem?_eq_some_iff.1 hj).1;rw[t2]at h1;omega
    go_wp2_with (first|(at_builtin;refine wpList_append_own _ rfl _ _ 29 rfl wq.heap.size 76 i0 (.agg #[J 0,J 0]) 2 16 Tryz.underlying29 hi aG aH aF rfl RN _ _ _ rfl aw (O g 0) 0 0 ((L.drop k).map ZY.cs).flatten rfl t2 n3 jbn ?g3 ?g4 ?g5 ?_)|fail)
    case g3=>unfold maxLen;omega
    case g4=>omega
    case g5=>omega
    intro v3 w3 aI aJ _;have ax:Bw wq w3:=an.grown aJ Q (λj hj=>(aw.lt j hj).1);have HO:Hid (Zb w3 w.heap.size v3 (vaH L x)):=by
     simp only[Hid];have h9:w3.ownsRow wq.heap.size 76 2 v3 (vaH L x).length ((vaH L x).map ZY.cs).flatten:=by
      rw[ja9,HM.out,HE.out,MZ,MZ,List.flatten_append,List.flatten_append];have hx:k+1+0=k+1:=Q;rw[hx]at aI
      simpa [ZY.cs]using aI
     exact Ez h9 dt.size
    have⟨g3,x3,eS,eI⟩:=HO.out.shape (by rw[ja9];omega);rw[ja9,HM.out]at eS eI;subst eS;have cR:Bw w w3:=Zp dt ax;clear aJ aI aw an ax n2 n3 t2 HD;go_wp2;go_ret;exact⟨g3,x3,rfl,eI,HO.out,cR⟩
   .skip
    have n3:∀j u,((L.drop k).map ZY.cs).flatten[j]? =some u->w2.cell? (((O g (k*2)):Addr).add j)=some u:=λj u hj=>by rw[vby];exact n2 j u hj
    go_wp2_with (first|(at_builtin;refine wpList_append_own _ rfl _ _ 29 rfl wq.heap.size 76 i0 (.agg #[J 0,J 0]) 2 16 Tryz.underlying29 hi aG aH aF rfl RN _ _ _ rfl aw (O g (k*2)) (m-k) (c-k) ((L.drop k).map ZY.cs).flatten rfl t2 n3 jbn ?g3 ?g4 ?g5 ?_)|fail)
    case g3=>unfold maxLen;omega
    case g4=>omega
    case g5=>omega
    intro v3 w3 aI aJ _;have ax:Bw wq w3:=an.grown aJ Q (λj hj=>(aw.lt j hj).1);have HO:Hid (Zb w3 w.heap.size v3 (vaH L x)):=by
     simp only[Hid];have h9:w3.ownsRow wq.heap.size 76 2 v3 (vaH L x).length ((vaH L x).map ZY.cs).flatten:=by
      rw[ja9,HM.out,HE.out,MZ,MZ,List.flatten_append,List.flatten_append];have hx:k+1+(m-k)=m+1:=Q;rw[hx]at aI
      simpa [ZY.cs]using aI
     exact Ez h9 dt.size
    have⟨g3,x3,eS,eI⟩:=HO.out.shape (by rw[ja9];omega);rw[ja9,HM.out]at eS eI;subst eS;have cR:Bw w w3:=Zp dt ax;clear aJ aI aw an ax n2 n3 t2 HD;go_wp2;go_ret;exact⟨g3,x3,rfl,eI,HO.out,cR⟩
theorem j0j(x y:ZY):decide (orI (Oi x.at_ y.at_) (Oi x.id y.id)<0)=Ib x y:=by
 unfold orI Oi;by_cases h1:x.at_<y.at_
 .rw[jp3 h1,if_pos h1,if_neg RN];rfl
 .by_cases h2:y.at_<x.at_
  .rw[jp2 h2,if_neg h1,if_pos h2,if_neg RN];rfl
  .have e:x.at_=y.at_:=Q
   rw[if_neg h1,if_neg h2,if_pos rfl];by_cases h3:x.id<y.id
   .rw[jp1 e h3,if_pos h3];rfl
   .rw[jp0 e h3,if_neg h3]
    by_cases h4:y.id<x.id
    .rw[if_pos h4];rfl
    .rw[if_neg h4];rfl
theorem vbJ:Ib x y=true↔x.at_<y.at_\/(x.at_=y.at_/\x.id<y.id):=by
 by_cases h1:x.at_<y.at_
 .rw[jp3 h1];exact⟨λ_=>.inl h1,λ_=>rfl⟩
 .by_cases h2:y.at_<x.at_
  .rw[jp2 h2];exact⟨λh=>by(cases h),λh=>by(exfalso;omega)⟩
  .have e:x.at_=y.at_:=Q
   by_cases h3:x.id<y.id
   .rw[jp1 e h3];exact⟨λ_=>.inr ⟨e,h3⟩,λ_=>rfl⟩
   .rw[jp0 e h3];exact⟨λh=>by(cases h),λh=>by(exfalso;omega)⟩
theorem jis(h1:Ib x y=false)(h2:Ib y x=false):x=y:=by
 have a:¬(x.at_<y.at_\/(x.at_=y.at_/\x.id<y.id)):=λh=>by rw[vbJ.mpr h]at h1;cases h1
 have b:¬(y.at_<x.at_\/(y.at_=x.at_/\y.id<x.id)):=λh=>by rw[vbJ.mpr h]at h2;cases h2
 cases x;cases y
 simp only at a b
 congr 1<;>omega
def jhm(L:List ZY):Prop:=L.Pairwise λx y=>Ib x y=true
theorem jfr(h1:Ib x y=true)(h2:Ib y x=true):False:=by
 have a:=vbJ.mp h1;have b:=vbJ.mp h2;omega
theorem jir(h1:Ib x y=true)(h2:Ib y z=true):Ib x z=true:=by
 have a:=vbJ.mp h1;have b:=vbJ.mp h2;exact vbJ.mpr Q
theorem vfx:x∈vaH l e↔x=e\/x∈l:=by
 induction l with
 |nil=>simp[vaH]
 |cons a l ih=>
  rw[vaH];split
  .simp only[List.mem_cons,ih]
   constructor
   .rintro(h|h|h)
    .exact .inr (.inl h)
    .exact .inl h
    .exact .inr (.inr h)
   .rintro(h|h|h)
    .exact .inr (.inl h)
    .exact .inl h
    .exact .inr (.inr h)
  .simp only[List.mem_cons]
theorem j2d(h:jhm l)(hn:e∉l):jhm (vaH l e):=by
 unfold jhm at *
 induction l with
 |nil=>simp[vaH]
 |cons a l ih=>
  have h':=List.pairwise_cons.mp h;rw[vaH];split
  .rename_i ha
   refine List.pairwise_cons.mpr ⟨λx hx=>?_,ih h'.2 λhx=>hn (lmc _ hx)⟩;rcases vfx.mp hx with rfl|hx
   .exact ha
   .exact h'.1 x hx
  .rename_i ha
   have su:Ib e a=true:=by
    cases hb:Ib e a
    .exact absurd (jis (by simpa using ha) hb) (λh=>hn (by rw[h];simp))
    .rfl
   refine List.pairwise_cons.mpr ⟨λx hx=>?_,h⟩;rcases List.mem_cons.mp hx with rfl|hx
   .exact su
   .exact jir su (h'.1 x hx)
theorem jus{vMM:List ZY}(hL:jhm L)(hM:jhm vMM)(h:∀e,e∈L↔e∈vMM):L=vMM:=by
 unfold jhm at *
 induction L generalizing vMM with
 |nil=>
  cases vMM with
  |nil=>rfl
  |cons y vMM=>exact absurd ((h y).mpr M) M
 |cons x L ih=>
  cases vMM with
  |nil=>exact absurd ((h x).mp M) M
  |cons y vMM=>
   have km:=List.pairwise_cons.mp hL;have xI:=List.pairwise_cons.mp hM;have gI:x=y:=by
    rcases List.mem_cons.mp ((h x).mp M)with e|e
    .exact e
    .rcases List.mem_cons.mp ((h y).mpr M)with e2|e2
     .exact e2.symm
     .exact(jfr (xI.1 x e) (km.1 y e2)).elim
   subst gI;rw[ih km.2 xI.2 λe=>?_];constructor
   .intro he
    rcases List.mem_cons.mp ((h e).mp (lmc _ he))with e2|e2
    .subst e2;exact(jfr (km.1 _ he) (km.1 _ he)).elim
    .exact e2
   .intro he
    rcases List.mem_cons.mp ((h e).mpr (lmc _ he))with e2|e2
    .subst e2;exact(jfr (xI.1 _ he) (xI.1 _ he)).elim
    .exact e2
theorem jml{α:Type}{enc:α->List Value}(hk:∀x,(enc x).length=k){P:List α}:∀r∈P.map enc,r.length=k:=λr hr=>by
 obtain⟨x,_,rfl⟩:=List.mem_map.1 hr;exact hk x
theorem jjn:∀{rows:List (List Value)},(∀r∈rows,r.length=k)->rows.flatten.length=rows.length*k
 |[],_=>M
 |r::rows,h=>by
  rw[List.flatten_cons,FB,jjn λx hx=>h x (lmc _ hx),h r (List.mem_cons_self ..),List.length_cons,Nat.add_mul];omega
theorem jo1{α:Type}[Inhabited α]{enc:α->List Value}{k:Nat}(hk:∀x,(enc x).length=k)(h0:0<k)(P:List α){t:Nat}(h:t<P.length*k):(P.map enc).flatten[t]? =some (enc P.toArray[t / k]!)[t%k]! :=by
 have h1:t / k<P.length:=(Nat.div_lt_iff_lt_mul h0).mpr h;have h2:P[t / k]? =some P.toArray[t / k]! :=by rw[ZV h1];simp[getElem!_pos,h1]
 have h4:t%k<(enc P.toArray[t / k]!).length:=by rw[hk];exact Nat.mod_lt _ h0
 have h3:=ja3 (jml hk (P:=P)) (i:=t / k) (j:=t%k) (by rw[Z8,h2];rfl) (c:=(enc P.toArray[t / k]!)[t%k]!) (by rw[ZV h4,getElem!_pos (enc P.toArray[t / k]!) (t%k) h4]);rw[show t / k*k+t%k=t by rw[Nat.mul_comm];exact Nat.div_add_mod t k]at h3;exact h3
theorem j3p{α:Type}[Inhabited α]{enc:α->List Value}{k:Nat}(hk:∀x,(enc x).length=k)(h0:0<k){e:TypeId}{w:World}{base g n cap:Nat}{P:List α}(h:w.ownsRow base e k (so g n cap) P.length (P.map enc).flatten):HoldsK enc k w g 0 P.toArray/\g<w.heap.size/\base<=g/\n=P.length/\n<=cap:=by
 have hl:(P.map enc).flatten.length=P.length*k:=by rw[jjn (jml hk),BX]
 rcases h.2 with⟨e0,_⟩|⟨g',fK,cur,e0,hb,hg,hn,hm,hs,ht⟩
 .cases e0
 injection e0 with e1 e2 e3
 injection e1 with e1
 injection e1 with e1
 subst e1 e2 e3;refine⟨λj hj=>?_,(Array.getElem?_eq_some_iff.1 hg).1,hb,rfl,hn⟩;have Ca:j<P.length*k:=by simpa using hj
 refine⟨?_,by simp[World.frozen?,hg]⟩;rw[get_flatK _ _ _ j (by simpa using Ca),Nat.zero_add];have hq:=jo1 hk h0 P Ca;rw[<- ht,List.getElem?_take,if_pos Ca,Array.getElem?_toList]at hq;simp[World.cell?,hg,hq]
theorem vfR{α:Type}[Inhabited α]{enc:α->List Value}{k:Nat}(hk:∀x,(enc x).length=k)(h0:0<k){e:TypeId}{w:World}{base g n cap q:Nat}{P vQQ:List α}{os:Array Obj}(h:w.ownsRow base e k (so g n cap) P.length (P.map enc).flatten)(hQ:vQQ.length=P.length):(sortWorldK enc k w g 0 q vQQ.toArray os).ownsRow base e k (so g n cap) vQQ.length (vQQ.map enc).flatten/\w.grownBy (sortWorldK enc k w g 0 q vQQ.toArray os) (some g):=by
 have hl:(vQQ.map enc).flatten.length=vQQ.length*k:=by rw[jjn (jml hk),BX]
 rcases h.2 with⟨e0,_⟩|⟨g',fK,cur,e0,hb,hg,hn,hm,hs,ht⟩
 .cases e0
 injection e0 with e1 e2 e3
 injection e1 with e1
 injection e1 with e1
 subst e1 e2 e3;have hlt:g<w.heap.size:=(Array.getElem?_eq_some_iff.1 hg).1;have cr:vQQ.length*k<=cap*k:=Nat.mul_le_mul_right _ Q;constructor
 .refine⟨hl,.inr ⟨g,cap,putCells id 0 (flatK enc k vQQ.toArray) cur,by rw[hQ],hb,?_,Q,hm,by simpa [putCells]using hs,?_⟩⟩
  .unfold sortWorldK putRowK
   rw[heap_grow_old _ _ (by simpa using hlt)];simp[putRow,mapBlock,Sort.ahead,Array.getElem?_modify,hg,onCells]
  .apply List.ext_getElem?
   intro j;rw[List.getElem?_take,Array.getElem?_toList];by_cases hj:j<vQQ.length*k
   .have Ke:j<cur.size:=Q
    rw[if_pos hj,jo1 hk h0 vQQ hj];simp only[putCells,Array.getElem?_mapIdx,Array.getElem?_eq_getElem Ke,Option.map_some];rw[if_pos RO,Nat.sub_zero,get_flatK _ _ _ j (by simpa using hj)];rfl
   .rw[if_neg hj,List.getElem?_eq_none Q]
 .refine⟨rfl,rfl,rfl,by simp[sortWorldK,putRowK],λi hi az=>?_⟩
  unfold sortWorldK putRowK;rw[heap_grow_old _ _ (by simpa using hi)];have:g≠i:=λe=>az (by rw[e])
  simp[putRow,mapBlock,Sort.ahead,Array.getElem?_modify,this]
def jg9(P:List ZY):List ZY:=P.mergeSort λx y=> !Ib y x
theorem jvg:e∈jg9 P↔e∈P:=(List.mergeSort_perm P _).mem_iff
theorem jvh(P:List ZY):(jg9 P).length=P.length:=List.length_mergeSort P
theorem jtk(x:ZY):Ib x x=false:=by
 cases h:Ib x x
 .rfl
 .exact(jfr h h).elim
theorem jns(h1:Ib x y=false)(h2:Ib y z=false):Ib x z=false:=by
 cases h:Ib x z
 .rfl
 .have a:¬(x.at_<y.at_\/(x.at_=y.at_/\x.id<y.id)):=λh=>by rw[vbJ.mpr h]at h1;cases h1
  have b:¬(y.at_<z.at_\/(y.at_=z.at_/\y.id<z.id)):=λh=>by rw[vbJ.mpr h]at h2;cases h2
  have c:=vbJ.mp h
  exfalso
  omega
theorem jyp(h:P.Nodup):jhm (jg9 P):=by
 have hs:=List.pairwise_mergeSort (le:=fun(x y:ZY)=> !Ib y x) (λa b c h1 h2=>by
  simp only[Bool.not_eq_eq_eq_not,Bool.not_true]at *;exact jns h2 h1) (λa b=>by
  cases h1:Ib b a
  .rfl
  .cases h2:Ib a b
   .rfl
   .exact(jfr h1 h2).elim) P
 have hn:(jg9 P).Nodup:=(List.mergeSort_perm P _).nodup_iff.mpr h;unfold jhm;refine(List.pairwise_and_iff.mpr ⟨hs,hn⟩).imp λ{x y} gI=>?_
 have⟨h1,h2⟩:=gI;cases h3:Ib x y
 .exact absurd (jis h3 (by simpa using h1)) h2
 .rfl
