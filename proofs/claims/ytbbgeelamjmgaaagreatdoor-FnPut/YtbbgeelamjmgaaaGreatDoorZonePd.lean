import Derived.Test.YtbbgeelamjmgaaaGreatDoorRightWd
import Derived.Deep.CutBlock
set_option maxRecDepth 20000
set_option maxHeartbeats 0
set_option linter.unusedSimpArgs false
open Go.RowKit Go.Sort
namespace Go.Proofs.YtbbgeelamjmgaaaGreatDoor
variable{B i k q:Nat}{ls:List vH}{nm:ByteArray}{zs:List pE}{es:List ZH}{w:World}{v:Value}{r:ZW}
def jba(ls:List vH)(nm:ByteArray):ByteArray:=match ls.find? (λl=>l.name.toList==nm.toList)with
 |some l=>l.vR
 |none=>nm
def jbg(zs:List pE)(nm:ByteArray):Option Nat:=zs.findIdx? λz=>z.name.toList==nm.toList
def vcr:pE:=⟨⟨#[]⟩,[]⟩
def xP(r:ZW)(nm:ByteArray):pE:=if ZZ r=true then(match jbg r.YU (jba r.YW nm)with
 |some i=>(match r.YU[i]? with|some z=>z|none=>vcr)
 |none=>vcr)else vcr
theorem j0d{α:Type}{l:List α}{p:α->Bool}{x:α}(hx:l[k]? =some x)(hp:p x=true)(hn:∀j,j<k->∀y,l[j]? =some y->p y=false):l.find? p=some x:=by
 induction l generalizing k with
 |nil=>simp at hx
 | cons a l ih=>
  cases k with
  |zero=>simp at hx;subst hx;simp[hp]
  |succ k=>
   have h0:=hn 0 Q a rfl;rw[List.find?_cons,h0];exact ih (by simpa using hx) λj hj y hy=>hn (j+1) Q y (by simpa using hy)
theorem jxf{α:Type}{l:List α}{p:α->Bool}(hn:∀j,j<l.length->∀y,l[j]? =some y->p y=false):l.find? p=none:=by
 rw[List.find?_eq_none];intro x hx;have⟨j,hj⟩:=lgo hx;have:=hn j (pO hj).1 x hj;simp[this]
theorem j3n{α:Type}{l:List α}{p:α->Bool}{x:α}(hx:l[k]? =some x)(hp:p x=true)(hn:∀j,j<k->∀y,l[j]? =some y->p y=false):l.findIdx? p=some k:=by
 induction l generalizing k with
 |nil=>simp at hx
 | cons a l ih=>
  cases k with
  |zero=>simp at hx;subst hx;simp[List.findIdx?_cons,hp]
  |succ k=>
   have h0:=hn 0 Q a rfl;rw[List.findIdx?_cons,h0];have:=ih (k:=k) (by simpa using hx) λj hj y hy=>hn (j+1) Q y (by simpa using hy)
   simp[this]
theorem j2b{α:Type}{l:List α}{p:α->Bool}(hn:∀j,j<l.length->∀y,l[j]? =some y->p y=false):l.findIdx? p=none:=by
 rw[List.findIdx?_eq_none_iff];intro x hx;have⟨j,hj⟩:=lgo hx;exact hn j (pO hj).1 x hj
theorem jrz{x:vH}(hx:ls[k]? =some x)(hp:(x.name.toList==nm.toList)=true)(hn:∀j,j<k->∀y,ls[j]? =some y->(y.name.toList==nm.toList)=false):jba ls nm=x.vR:=by unfold jba;rw[j0d hx hp hn]
theorem jiq(hn:∀j,j<ls.length->∀y,ls[j]? =some y->(y.name.toList==nm.toList)=false):jba ls nm=nm:=by unfold jba;rw[jxf hn]
theorem jfh{x:pE}(hx:zs[k]? =some x)(hp:(x.name.toList==nm.toList)=true)(hn:∀j,j<k->∀y,zs[j]? =some y->(y.name.toList==nm.toList)=false):jbg zs nm=some k:=j3n hx hp hn
theorem jfg(hn:∀j,j<zs.length->∀y,zs[j]? =some y->(y.name.toList==nm.toList)=false):jbg zs nm=none:=j2b hn
theorem jud(h:jbg zs nm=some i):i<zs.length:=(List.findIdx?_eq_some_iff_getElem.mp h).1
def ixI(o:Option Nat):Int:=match o with
 |some i=>i
 |none=> -1
theorem jd2(r:ZW)(v:Value)(nm:ByteArray)(w:World)(hv:Zd w v r)(sm:r.small):
  C 62 #[v,I nm] w λe w'=>e=V (J (ixI (jbg r.YU (jba r.YW nm))))/\Bw w w':=by
 obtain⟨a,b,c,ca,cb,cc,rfl,_,hZ,hA⟩:=hv.form;have⟨m1,m2,m3,m4⟩:=sm;have ag:=ZA w (G #[U a r.Vv.length ca,U b r.YU.length cb,U c r.YW.length cc] 27);have eL:=hA.below ag;have j8:=hZ.below ag;obtain⟨x1,x2⟩:(λz:World=>z.cell? (O w.heap.size 1)=some (U b r.YU.length cb)/\z.cell? (O w.heap.size 2)=some (U c r.YW.length cc)) (w.alloc (G #[U a r.Vv.length ca,U b r.YU.length cb,U c r.YW.length cc] 27)):=RQ;clear hv hA hZ;unfold C;go_in;go_wp2;generalize (w.alloc (G #[U a r.Vv.length ca,U b r.YU.length cb,U c r.YW.length cc] 27))=W at *;go_loop [1,5] (λs i=>∃k:Nat,k<=r.YW.length/\s=I nm/\i=J k/\Hid (∀j,j<k->∀y,r.YW[j]? =some y->(y.name.toList==nm.toList)=false)) (λ_ i=>r.YW.length-(intOf i).toNat)
 .exact⟨0,Q,rfl,rfl,λj hj=>Q⟩
 ·
  obtain⟨k,hk,rfl,rfl,ak⟩:=hrel;by_cases hlt:k<r.YW.length
  .have⟨x,hx⟩:=DV hlt
   obtain⟨b',o,rfl,hc⟩:=eL.at (i:=k) (r:=x.cs) (by rw[Z8,hx];rfl);have c0:W.cell? (O b' (o+k*2))=some (I x.vR):=hc 0 _ rfl;have c1:=hc 1 _ rfl;clear hc;cases hb:(x.name.toList==nm.toList)
   .have HR:Hid (∀j,j<k+1->∀y,r.YW[j]? =some y->(y.name.toList==nm.toList)=false):=λj hj y hy=>by
     by_cases e:j=k
     .subst e;rw[hx]at hy;obtain rfl:=Z9 hy;exact hb
     .exact ak.out j Q y hy
    go_wp2;go_round
    .exact⟨k+1,Q,rfl,RP,HR⟩
    .simp[intOf];omega
   .have HL:Hid (jba r.YW nm=x.vR):=jrz hx hb ak.out
    clear ak;go_wp2;go_loop [6] (λi=>∃k:Nat,k<=r.YU.length/\i=J k/\Hid (∀j,j<k->∀y,r.YU[j]? =some y->(y.name.toList==x.vR.toList)=false)) (λi=>r.YU.length-(intOf i).toNat)
    .exact⟨0,Q,rfl,λj hj=>Q⟩
    ·
     obtain⟨k,hk,rfl,ak⟩:=hrel;by_cases hlt:k<r.YU.length
     .have⟨z,hx⟩:=DV hlt
      obtain⟨b',o,rfl,c0,u,c1,hu⟩:=j8.at hx;cases hb:(z.name.toList==x.vR.toList)
      .have HR:Hid (∀j,j<k+1->∀y,r.YU[j]? =some y->(y.name.toList==x.vR.toList)=false):=λj hj y hy=>by
        by_cases e:j=k
        .subst e;rw[hx]at hy;obtain rfl:=Z9 hy;exact hb
        .exact ak.out j Q y hy
       go_wp2;go_round
       .exact⟨k+1,Q,RP,HR⟩
       .simp[intOf];omega
      .have HR:Hid (ixI (jbg r.YU (jba r.YW nm))=k):=by simp only[Hid];rw[HL.out,jfh hx hb ak.out];rfl
       go_wp2;go_ret;exact⟨Fh HR.out.symm,ag⟩
     .have e:k=r.YU.length:=Q
      subst e;have HR:Hid (ixI (jbg r.YU (jba r.YW nm))= -1):=by simp only[Hid];rw[HL.out,jfg ak.out];rfl
      go_wp2;go_ret;exact⟨Fh HR.out.symm,ag⟩
  .have e:k=r.YW.length:=Q
   subst e;have HL:Hid (jba r.YW nm=nm):=jiq ak.out;clear ak;go_wp2;go_loop [6] (λi=>∃k:Nat,k<=r.YU.length/\i=J k/\Hid (∀j,j<k->∀y,r.YU[j]? =some y->(y.name.toList==nm.toList)=false)) (λi=>r.YU.length-(intOf i).toNat)
   .exact⟨0,Q,rfl,λj hj=>Q⟩
   ·
    obtain⟨k,hk,rfl,ak⟩:=hrel;by_cases hlt:k<r.YU.length
    .have⟨z,hx⟩:=DV hlt
     obtain⟨b',o,rfl,c0,u,c1,hu⟩:=j8.at hx;cases hb:(z.name.toList==nm.toList)
     .have HR:Hid (∀j,j<k+1->∀y,r.YU[j]? =some y->(y.name.toList==nm.toList)=false):=λj hj y hy=>by
       by_cases e:j=k
       .subst e;rw[hx]at hy;obtain rfl:=Z9 hy;exact hb
       .exact ak.out j Q y hy
      go_wp2;go_round
      .exact⟨k+1,Q,RP,HR⟩
      .simp[intOf];omega
     .have HR:Hid (ixI (jbg r.YU (jba r.YW nm))=k):=by simp only[Hid];rw[HL.out,jfh hx hb ak.out];rfl
      go_wp2;go_ret;exact⟨Fh HR.out.symm,ag⟩
    .have e:k=r.YU.length:=Q
     subst e;have HR:Hid (ixI (jbg r.YU (jba r.YW nm))= -1):=by simp only[Hid];rw[HL.out,jfg ak.out];rfl
     go_wp2;go_ret;exact⟨Fh HR.out.symm,ag⟩
theorem jsc:∀{rows:List (List Value)},(∀r∈rows,r.length=q)->∀{i l:Nat},l<q->rows.flatten[i*q+l]? =(rows[i]?).bind (·[l]?):=by
 intro rows
 induction rows with
 |nil=>intro _ i l _;simp
 | cons r rs ih=>
  intro au i l hl;have hr:=au r (List.mem_cons_self ..);rw[List.flatten_cons];cases i with
  |zero=>
   rw[Nat.zero_mul,Nat.zero_add,N9 Q];simp
  |succ i=>
   rw[List.getElem?_append_right (by rw[hr,Nat.add_mul];omega),hr,show(i+1)*q+l-q=i*q+l by rw[Nat.add_mul];omega];rw[ih (λr hr=>au r (lmc _ hr)) hl];simp
theorem jxb:∀{rows:List (List Value)},(∀r∈rows,r.length=q)->rows.flatten.length=rows.length*q:=by
 intro rows
 induction rows with
 |nil=>intro _;simp
 |cons r rs ih=>
  intro au;rw[List.flatten_cons,FB,ih λr hr=>au r (lmc _ hr),au r (List.mem_cons_self ..),List.length_cons,Nat.add_mul];omega
def jjo(es:List ZH):List Value:=(es.map ZH.cs).flatten
theorem jht(es:List ZH):∀r∈es.map ZH.cs,r.length=6:=λr hr=>by
 obtain⟨x,_,rfl⟩:=List.mem_map.mp hr;rfl
theorem jxd(es:List ZH):(jjo es).length=es.length*6:=by
 unfold jjo;rw[jxb (jht es),BX]
theorem j0c{j:Nat}{u:Value}(h:(jjo es)[j]? =some u):∃r,(es.map ZH.cs)[j / 6]? =some r/\r[j%6]? =some u:=by
 have e:j=j / 6*6+j%6:=Q;unfold jjo at h;rw[e,jsc (jht es) Q]at h;have⟨r,h1,h2⟩:=Option.bind_eq_some_iff.mp h;exact⟨r,h1,h2⟩
theorem jqy{b o:Nat}(hA:Za w (some (O b o)) 6 (es.map ZH.cs))(j:Nat)(u:Value)(h:(jjo es)[j]? =some u):w.cell? (O b (o+j))=some u:=by
 have⟨r,h1,h2⟩:=j0c h;have⟨b',o',he,hc⟩:=hA.at h1;injection he with he
 injection he with e1 e2
 subst e1 e2;have:=hc _ _ h2;rw[show o+j / 6*6+j%6=o+j by omega]at this;exact this
theorem jxc:∀u∈jjo es,u.oneCell'=true:=λu hu=>by
 unfold jjo at hu;have⟨r,hr,hu⟩:=List.mem_flatten.mp hu;obtain⟨x,_,rfl⟩:=List.mem_map.mp hr;simp only[ZH.cs,List.mem_cons,List.not_mem_nil,or_false]at hu;rcases hu with rfl|rfl|rfl|rfl|rfl|rfl<;>rfl
def Ji(w:World)(B:Nat)(v:Value)(es:List ZH):Prop:=
 (es=[]/\v=nS)\/∃g cap,v=so g es.length cap/\B<=g/\g<w.heap.size/\Za w (some (O g 0)) 6 (es.map ZH.cs)/\Zg w g (es.length*6)
theorem Ji.mono{B2:Nat}(h:Ji w B v es)(hb:B2<=B):Ji w B2 v es:=by
 rcases h with h|⟨g,cap,hv,hg,rest⟩
 .exact .inl h
 .exact .inr ⟨g,cap,hv,Q,rest⟩
theorem jy7{e:TypeId}(h:w.ownsRow B e 6 v es.length (jjo es))(hn:0<es.length):Ji w B v es:=by
 rcases h.2 with⟨_,h0⟩|⟨g,cap,cur,hv,hg,hh,hc,hm,hs,ht⟩
 .omega
 .have hlt:g<w.heap.size:=by
   rcases Nat.lt_or_ge g w.heap.size with h'|h'
   .exact h'
   .rw[Array.getElem?_eq_none h']at hh;cases hh
  refine .inr ⟨g,cap,hv,hg,hlt,.inr ⟨g,0,rfl,λi j r c hi hj=>?_⟩,λx hx=>?_⟩
  .have Kb:j<6:=by
    have:=jht es r (ui hi);have:=(pO hj).1;omega
   have i7:i<es.length:=by have:=(pO hi).1;simpa using this
   have e1:(cur.toList.take (es.length*6))[i*6+j]? =(jjo es)[i*6+j]? :=by rw[ht]
   unfold jjo at e1;rw[jsc (jht es) Kb,hi]at e1;rw[List.getElem?_take,if_pos Q,Array.getElem?_toList]at e1;simp only[World.cell?,hh,Nat.zero_add];simp only[Option.isSome_none,Bool.false_eq_true,if_false];rw[e1];exact hj
  .have fm:x<cur.size:=by have:es.length*6<=cap*6:=Nat.mul_le_mul_right 6 hc;omega
   exact⟨⟨cur[x],by simp[World.cell?,hh,fm]⟩,by simp[World.frozen?,hh]⟩
theorem js5(w:World)(t:TypeId):(w.alloc (G #[] t)).ownsRow w.heap.size t 6 (U (some (O w.heap.size 0)) 0 0) 0 []:=
 ⟨rfl,.inr ⟨w.heap.size,0,#[],rfl,ZD _,(MapKept.heap_alloc w _).1,ZD _,by unfold maxLen;omega,rfl,rfl⟩⟩
theorem jme(es:List ZH)(b o cap:Nat)(w:World)(hA:Za w (some (O b o)) 6 (es.map ZH.cs))(hn:0<es.length)(hl:es.length<=1048576):
  C 130 #[U (some (O b o)) es.length cap] w λe w'=>∃v',e=V v'/\Ji w' w.heap.size v' es/\Bw w w':=by
 have⟨i0,hi,aG,aH,aF⟩:=jqj;have sR:∀(w:World) (a:Option Addr) (n c n' c':Nat),(binOp .eql 118 (U a n c) (U none n' c')).run Tryz.prog w=.ok (.bool a.isNone) w:=λw a n c n' c'=>Lib.run_eql_slice_nil w _ _ a n c n' c' Tryz.underlying118
 have aT:=jqy hA;have HC:=hid aT;clear aT;unfold C;go_in;go_wp2_with (at_builtin;refine wpList_append_own _ rfl _ _ 118 rfl w.heap.size 154 i0 _ 6 72 Tryz.underlying118 hi aG aH aF rfl RN _ _ _ rfl (js5 w 154) (O b o) es.length cap (jjo es) rfl ?qc1 ?qc2 ?qc3 ?qc4 ?qc5 ?qc6 ?_)
 case qc1=>exact jxd es
 case qc2=>
  intro j u hj;rw[Addr.add_lit];exact Lib.cell?_alloc_some _ (HC.out j u hj)
 case qc3=>exact jxc
 case qc4=>unfold maxLen;omega
 case qc5=>omega
 case qc6=>simp
 intro v' w1 ai af Kq;go_wp2;go_ret;refine⟨v',rfl,jy7 (by simpa using ai) hn,(ZA w _).grown af M (by intro k hk;simp[Value.ownBlock]at hk;omega)⟩
theorem jx8(h:ZZ r=false):xP r nm=vcr:=by unfold xP;rw[if_neg (by rw[h];simp)]
theorem jc5(h:jbg r.YU (jba r.YW nm)=none):xP r nm=vcr:=by
 unfold xP;split
 .rw[h]
 .rfl
theorem jcr{z:pE}(hr:ZZ r=true)(h:jbg r.YU (jba r.YW nm)=some i)(hz:r.YU[i]? =some z):xP r nm=z:=by
 unfold xP;rw[if_pos hr,h];simp only[hz]
theorem jh9(s:ByteArray):s.toList.length=s.size:=by rw[ByteArray.toList_eq,Array.length_toList];rfl
theorem jc9(hr:ZZ r=true){z:pE}(hz:z∈r.YU):0<z.ZC.length/\BH z.name=true:=by
 have t:=j01 hr;have:=List.all_eq_true.mp t.YU z hz;unfold MY at this;simp only[vB,decide_eq_true_eq]at this;exact⟨Q,this.1⟩
theorem Ji.set(h:Ji w B v es){p i:Nat}(hp:p<B)(x:Value):Ji (w.setCell (O p i) x) B v es:=by
 rcases h with h|⟨g,cap,hv,hg,hl,h1,h2⟩
 .exact .inl h
 .refine .inr ⟨g,cap,hv,hg,by simpa using hl,h1.keep λy=>ZT _ _ _ _ (jcv Q),h2.set _ _⟩
theorem jfa(w:World)(B:Nat):Ji w B nS vcr.ZC:=.inl ⟨rfl,rfl⟩
theorem je3(es:List ZH)(b o cap:Nat)(w:World)(hA:Za w (some (O b o)) 6 (es.map ZH.cs))(hn:0<es.length)(hl:es.length<=1048576):
  C 130 #[U (some (O b o)) es.length cap] w λe w'=>∃g bL,e=V (so g es.length bL)/\w.heap.size<=g/\Ji w' w.heap.size (so g es.length bL) es/\Bw w w':=by
 refine(jme es b o cap w hA hn hl).mono ?_;rintro e w' ⟨v',rfl,hO,hb⟩;rcases hO with⟨h0,_⟩|⟨g,bL,rfl,hg,rest⟩
 .rw[h0]at hn;simp at hn
 .exact⟨g,bL,rfl,hg,.inr ⟨g,bL,rfl,hg,rest⟩,hb⟩
theorem jfe(r:ZW)(v:Value)(nm:ByteArray)(w:World)(cg:Zx w)(hv:Zd w v r)(ok:r.ok)(sm:r.small)(di:∀x∈r.Vv,x.on.size<=1048576):
  C 139 #[v,I nm] w λe w'=>∃v',e=V (.agg #[I (xP r nm).name,v'])/\Ji w' w.heap.size v' (xP r nm).ZC/\Bw w w':=by
 have⟨a,b,c,ca,cb,cc,jH,_,iw,kh⟩:=hv.form;have hI:=λw hE (h:Zd w v r)=>jbr r v w hE h ok sm di
 have⟨m1,m2,m3,m4⟩:=sm;subst jH;have ag:=(ZA w (G #[U a r.Vv.length ca,U b r.YU.length cb,U c r.YW.length cc] 27)).alloc M (G #[Rn,nS] 120);have⟨W0,j6⟩:=ZL ((((w.alloc (G #[U a r.Vv.length ca,U b r.YU.length cb,U c r.YW.length cc] 27)).alloc (G #[Rn,nS] 120))));rw[j6]at ag;have x0:W0.cell? (O w.heap.size 0)=some (U a r.Vv.length ca):=by rw[<- j6];simp[go_sem]
 have y0:W0.cell? (O w.heap.size 1)=some (U b r.YU.length cb):=by rw[<- j6];simp[go_sem]
 have z0:W0.cell? (O w.heap.size 2)=some (U c r.YW.length cc):=by rw[<- j6];simp[go_sem]
 have r0:W0.cell? (O (w.heap.size+1) 0)=some (Rn):=by rw[<- j6];simp[go_sem]
 have s0:W0.cell? (O (w.heap.size+1) 1)=some nS:=by rw[<- j6];simp[go_sem]
 have f0:W0.frozen? (O (w.heap.size+1) 0)=false:=by rw[<- j6];simp[go_sem]
 have g0:W0.frozen? (O (w.heap.size+1) 1)=false:=by rw[<- j6];simp[go_sem]
 cases hrb:ZZ r
 .rw[jx8 hrb]
  rw[hrb]at hI;clear hrb;unfold C;go_in;go_wp2_with fail;refine(hI _ (cg.of_below ag) (hv.below ag)).mono ?_;rintro e w1 ⟨rfl,hb1⟩;have aj:=Zp ag hb1;have y1:=Z7 hb1 y0 y0;have z1:=Z7 hb1 z0 z0;have r1:=Z7 hb1 r0 r0;have s1:=Z7 hb1 s0 s0;have f1:=AZ hb1 r0 f0;have g1:=AZ hb1 s0 g0;clear hb1;have⟨t0,t1⟩:=jf5 (v0:=Rn) (v1:=nS) r1 s1;go_wp2;exact ZM (v:=.agg #[Rn,nS]) (by simp[results,Tryz.results139,go_sem,t0,t1]) rfl ⟨nS,rfl,jfa _ _,(aj.setCell (vQs _) _).setCell (vQs _) _⟩
 have hr:=hid hrb;rw[hrb]at hI;clear hrb;unfold C;go_in;go_wp2_with fail;refine(hI _ (cg.of_below ag) (hv.below ag)).mono ?_;rintro e w1 ⟨rfl,hb1⟩;have aj:=Zp ag hb1;have y1:=Z7 hb1 y0 y0;have z1:=Z7 hb1 z0 z0;have r1:=Z7 hb1 r0 r0;have s1:=Z7 hb1 s0 s0;have f1:=AZ hb1 r0 f0;have g1:=AZ hb1 s0 g0;clear hb1 hI x0 y0 z0 r0 s0 f0 g0;go_upto_if 11 with fail
 go_cut [11]from 12 to 12 (λs wx=>s=.bool false/\wx=w1)
 case first=>
  go_wp2;go_meet;exact⟨rfl,rfl⟩
 obtain⟨rfl,uG⟩:=hcut;have uG:=uG.symm;subst uG;go_step;go_step;go_cut [1,6]from 13 to 26 (λs1 _ wx=>s1=I (jba r.YW nm)/\Hid (Bw w1 wx))
 case first=>
  go_wp2;go_loopw [1,16] (λs i wr=>∃k:Nat,k<=r.YW.length/\s=I nm/\i=J k/\Hid (∀j,j<k->∀y,r.YW[j]? =some y->(y.name.toList==nm.toList)=false)/\Bw w1 wr) (λ_ i _=>r.YW.length-(intOf i).toNat)
  .exact⟨0,Q,rfl,rfl,λj hj=>Q,ZU _ _⟩
  ·
   obtain⟨k,hk,rfl,rfl,ak,ac⟩:=hrel;have eM:=Zp aj ac;by_cases hlt:k<r.YW.length
   .have⟨x,hx⟩:=DV hlt
    obtain⟨b',o,rfl,hc⟩:=(kh.below eM).at (i:=k) (r:=x.cs) (by rw[Z8,hx];rfl);have c0:wr.cell? (O b' (o+k*2))=some (I x.vR):=hc 0 _ rfl;have c1:=hc 1 _ rfl;clear hc;have mt:Bw wr (wr.alloc (G #[I x.vR,I x.name] 122)):=ZA wr _;have fh:=Zp ac mt;cases hb:(x.name.toList==nm.toList)
    .have HR:Hid (∀j,j<k+1->∀y,r.YW[j]? =some y->(y.name.toList==nm.toList)=false):=λj hj y hy=>by
      by_cases e:j=k
      .subst e;rw[hx]at hy;obtain rfl:=Z9 hy;exact hb
      .exact ak.out j Q y hy
     go_wp2;go_roundw
     .exact⟨k+1,Q,rfl,RP,HR,fh⟩
     .simp[intOf];omega
    .have HL:Hid (jba r.YW nm=x.vR):=jrz hx hb ak.out
     clear ak y1 z1 r1 s1 f1 g1;go_wp2;go_meet;exact⟨by rw[HL.out],fh⟩
   .have e:k=r.YW.length:=Q
    subst e;have HL:Hid (jba r.YW nm=nm):=jiq ak.out;clear ak y1 z1 r1 s1 f1 g1 eM;go_wp2;go_meet;exact⟨by rw[HL.out],ac⟩
 obtain⟨rfl,ac⟩:=hcut;have⟨vCC,hC⟩:=wL wc;subst hC;have ac:=ac.out;have nQ:=Zp aj ac;have y2:=Z7 ac y1 y1;have z2:=Z7 ac z1 z1;have r2:=Z7 ac r1 r1;have s2:=Z7 ac s1 s1;have f2:=AZ ac r1 f1;have g2:=AZ ac s1 g1;clear y1 z1 r1 s1 f1 g1 ac;generalize i8:jba r.YW nm=lk at *;have HL:=hid i8;clear i8;go_wp2;go_loopw [30] (λi wr=>∃k:Nat,k<=r.YU.length/\i=J k/\Hid (∀j,j<k->∀y,r.YU[j]? =some y->(y.name.toList==lk.toList)=false)/\Bw vCC wr) (λi _=>r.YU.length-(intOf i).toNat)
 .exact⟨0,Q,rfl,λj hj=>Q,ZU _ _⟩
 ·
  obtain⟨k,hk,rfl,ak,ar⟩:=hrel;have ax:=Zp nQ ar;have y3:=Z7 ar y2 y2;have z3:=Z7 ar z2 z2;have r3:=Z7 ar r2 r2;have s3:=Z7 ar s2 s2;have f3:=AZ ar r2 f2;have g3:=AZ ar s2 g2;by_cases hlt2:k<r.YU.length
  .have⟨z,hz⟩:=DV hlt2
   have kR:=jc9 hr.out (ui hz);have uS:=m4 z (ui hz);obtain⟨b',o,rfl,c0,u,c1,hu⟩:=(iw.below ax).at hz;obtain⟨ae,ce,rfl,hE⟩:=hu;obtain⟨e0,uR⟩:∃e,z.ZC[0]? =some e:=⟨_,ZV kR.1⟩;obtain⟨be,oe,rfl,_⟩:=hE.at (i:=0) (r:=e0.cs) (by rw[Z8,uR];rfl);clear uR;have aD:Bw wr (wr.alloc (G #[I z.name,U (some (O be oe)) z.ZC.length ce] 120)):=ZA wr _;cases hb:(z.name.toList==lk.toList)
   .have HR:Hid (∀j,j<k+1->∀y,r.YU[j]? =some y->(y.name.toList==lk.toList)=false):=λj hj y hy=>by
     by_cases e:j=k
     .subst e;rw[hz]at hy;obtain rfl:=Z9 hy;exact hb
     .exact ak.out j Q y hy
    go_wp2;go_roundw
    .exact⟨k+1,Q,RP,HR,(Zp ar aD)⟩
    .simp[intOf];omega
   .have HZ:Hid (xP r nm=z):=jcr hr.out (by rw[HL.out];exact jfh hz hb ak.out) hz
    have aR:=Zp ax aD;have y4:=Z7 aD y3 y3;have z4:=Z7 aD z3 z3;have r4:=Z7 aD r3 r3;have s4:=Z7 aD s3 s3;have f4:=AZ aD r3 f3;have g4:=AZ aD s3 g3;have hD:Below (wr.alloc (G #[I z.name,U (some (O be oe)) z.ZC.length ce] 120)).heap.size (wr.alloc (G #[I z.name,U (some (O be oe)) z.ZC.length ce] 120)) (wr.alloc (G #[I z.name,U (some (O be oe)) z.ZC.length ce] 120)).drew:=⟨rfl,rfl,rfl,ZD _,λ_ _=>rfl⟩;have bY:=Zp aR hD;obtain⟨k0,k1⟩:(λzq:World=>zq.cell? (O wr.heap.size 0)=some (I z.name)/\zq.cell? (O wr.heap.size 1)=some (U (some (O be oe)) z.ZC.length ce)) ((wr.alloc (G #[I z.name,U (some (O be oe)) z.ZC.length ce] 120)).drew):=RQ;have r5:(wr.alloc (G #[I z.name,U (some (O be oe)) z.ZC.length ce] 120)).drew.cell? (O (w.heap.size+1) 0)=some (Rn):=r4;have s5:(wr.alloc (G #[I z.name,U (some (O be oe)) z.ZC.length ce] 120)).drew.cell? (O (w.heap.size+1) 1)=some nS:=s4;have f5:(wr.alloc (G #[I z.name,U (some (O be oe)) z.ZC.length ce] 120)).drew.frozen? (O (w.heap.size+1) 0)=false:=f4;have g5:(wr.alloc (G #[I z.name,U (some (O be oe)) z.ZC.length ce] 120)).drew.frozen? (O (w.heap.size+1) 1)=false:=g4;have hK:=je3 z.ZC be oe ce (wr.alloc (G #[I z.name,U (some (O be oe)) z.ZC.length ce] 120)).drew ((hE.below aD).below hD) kR.1 uS;have hsz:w.heap.size+1<wr.heap.size:=ZI r3;have Cy:(wr.alloc (G #[I z.name,U (some (O be oe)) z.ZC.length ce] 120)).drew.heap.size=wr.heap.size+1:=by show(wr.alloc (G #[I z.name,U (some (O be oe)) z.ZC.length ce] 120)).heap.size=_;simp
    have az:w.heap.size+1≠wr.heap.size:=Q;have mG:wr.heap.size≠w.heap.size+1:=Q;clear hE ak ar ax aR aD;go_wp2_with fail;go_region_held3 (λw'=>w'.cell? (O wr.heap.size 0)=some (I z.name)/\w'.cell? (O wr.heap.size 1)=some (U (some (O be oe)) z.ZC.length ce)) (go_keep) (first|(go_at_call 130;refine hK.mono ?_;rintro e w6 ⟨g,cap,rfl,hg,sj,hb6⟩;have p0:=Z7 hb6 k0 k0;have p1:=Z7 hb6 k1 k1;have r6:=Z7 hb6 r5 r5;have s6:=Z7 hb6 s5 s5;have f6:=AZ hb6 r5 f5;have g6:=AZ hb6 s5 g5;have cp:=Zp bY hb6));have⟨t0,t1⟩:=jf5 (v0:=I z.name) (v1:=so g z.ZC.length cap) r6 s6;have pC:=(sj.set (p:=w.heap.size+1) (i:=0) Q (I z.name)).set (p:=w.heap.size+1) (i:=1) Q (so g z.ZC.length cap);go_wp2;exact ZM (v:=.agg #[I z.name,so g z.ZC.length cap]) (by simp[results,Tryz.results139,go_sem,t0,t1]) rfl ⟨so g z.ZC.length cap,by rw[HZ.out],by rw[HZ.out];exact pC.mono Q,(cp.setCell (vQs _) _).setCell (vQs _) _⟩
  .have e:k=r.YU.length:=Q
   subst e;have HZ:Hid (xP r nm=vcr):=jc5 (by rw[HL.out];exact jfg ak.out);have⟨t0,t1⟩:=jf5 (v0:=Rn) (v1:=nS) r3 s3;go_wp2;exact ZM (v:=.agg #[Rn,nS]) (by simp[results,Tryz.results139,go_sem,t0,t1]) rfl ⟨nS,by rw[HZ.out];rfl,by rw[HZ.out];exact jfa _ _,(ax.setCell (vQs _) _).setCell (vQs _) _⟩
