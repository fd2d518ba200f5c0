import Derived.Test.YtpejeokacilebaaGreatDoorRightWd
import Derived.Deep.CutBlock
set_option maxRecDepth 20000
set_option maxHeartbeats 0
set_option linter.unusedSimpArgs false
open Go.RowKit Go.Sort
namespace Go.Proofs.YtpejeokacilebaaGreatDoor
def jba(ls:List LinkD)(nm:ByteArray):ByteArray:=match ls.find? (fun l=>l.name.toList==nm.toList)with
 |some l=>l.to_
 |none=>nm
def jbg(zs:List ZoneD)(nm:ByteArray):Option Nat:=zs.findIdx? fun z=>z.name.toList==nm.toList
def zeroZ:ZoneD:=⟨⟨#[]⟩,[]⟩
def jao(r:RelD)(nm:ByteArray):ZoneD:=if relB r=true then(match jbg r.zones (jba r.links nm)with
 |some i=>(match r.zones[i]? with|some z=>z|none=>zeroZ)
 |none=>zeroZ)else zeroZ
theorem j0d{α:Type}{l:List α}{p:α->Bool}{k:Nat}{x:α}(hx:l[k]? =some x)(hp:p x=true)(hn:∀j,j<k->∀y,l[j]? =some y->p y=false):l.find? p=some x:=by
 induction l generalizing k with
 |nil=>simp at hx
 | cons a l ih=>
  cases k with
  |zero=>simp at hx;subst hx;simp[hp]
  |succ k=>
   have h0:=hn 0 (by omega) a rfl
   rw[List.find?_cons,h0]
   exact ih (by simpa using hx) fun j hj y hy=>hn (j+1) (by omega) y (by simpa using hy)
theorem jxf{α:Type}{l:List α}{p:α->Bool}(hn:∀j,j<l.length->∀y,l[j]? =some y->p y=false):l.find? p=none:=by
 rw[List.find?_eq_none]
 intro x hx
 obtain⟨j,hj⟩:=lgo hx
 have:=hn j (lgs hj).1 x hj
 simp[this]
theorem j3n{α:Type}{l:List α}{p:α->Bool}{k:Nat}{x:α}(hx:l[k]? =some x)(hp:p x=true)(hn:∀j,j<k->∀y,l[j]? =some y->p y=false):l.findIdx? p=some k:=by
 induction l generalizing k with
 |nil=>simp at hx
 | cons a l ih=>
  cases k with
  |zero=>simp at hx;subst hx;simp[List.findIdx?_cons,hp]
  |succ k=>
   have h0:=hn 0 (by omega) a rfl
   rw[List.findIdx?_cons,h0]
   have:=ih (k:=k) (by simpa using hx) fun j hj y hy=>hn (j+1) (by omega) y (by simpa using hy)
   simp[this]
theorem j2b{α:Type}{l:List α}{p:α->Bool}(hn:∀j,j<l.length->∀y,l[j]? =some y->p y=false):l.findIdx? p=none:=by
 rw[List.findIdx?_eq_none_iff]
 intro x hx
 obtain⟨j,hj⟩:=lgo hx
 exact hn j (lgs hj).1 x hj
theorem jrz{ls:List LinkD}{nm:ByteArray}{k:Nat}{x:LinkD}(hx:ls[k]? =some x)(hp:(x.name.toList==nm.toList)=true)(hn:∀j,j<k->∀y,ls[j]? =some y->(y.name.toList==nm.toList)=false):jba ls nm=x.to_:=by unfold jba;rw[j0d hx hp hn]
theorem jiq{ls:List LinkD}{nm:ByteArray}(hn:∀j,j<ls.length->∀y,ls[j]? =some y->(y.name.toList==nm.toList)=false):jba ls nm=nm:=by unfold jba;rw[jxf hn]
theorem jfh{zs:List ZoneD}{nm:ByteArray}{k:Nat}{x:ZoneD}(hx:zs[k]? =some x)(hp:(x.name.toList==nm.toList)=true)(hn:∀j,j<k->∀y,zs[j]? =some y->(y.name.toList==nm.toList)=false):jbg zs nm=some k:=j3n hx hp hn
theorem jfg{zs:List ZoneD}{nm:ByteArray}(hn:∀j,j<zs.length->∀y,zs[j]? =some y->(y.name.toList==nm.toList)=false):jbg zs nm=none:=j2b hn
theorem jud{zs:List ZoneD}{nm:ByteArray}{i:Nat}(h:jbg zs nm=some i):i<zs.length:=(List.findIdx?_eq_some_iff_getElem.mp h).1
def ixI(o:Option Nat):Int:=match o with
 |some i=>i
 |none=> -1
theorem jd2 (r:RelD) (v:Value) (nm:ByteArray) (w:World) (hv:Zd w v r) (sm:r.small):
  Cl 36 #[v,.string nm] w fun e w'=>e=.returned (iv (ixI (jbg r.zones (jba r.links nm))))/\Bw w w':=by
 obtain⟨a,b,c,ca,cb,cc,rfl,_,hZ,hA⟩:=hv.form
 obtain⟨m1,m2,m3,m4⟩:=sm
 have ag:=qal w (.cells #[.slice a r.rules.length ca,.slice b r.zones.length cb,.slice c r.links.length cc] 37)
 have eL:=hA.below ag
 have j8:=hZ.below ag
 obtain⟨x1,x2⟩:(fun z:World=>z.cell? (ad w.heap.size 1)=some (.slice b r.zones.length cb)/\z.cell? (ad w.heap.size 2)=some (.slice c r.links.length cc)) (w.alloc (.cells #[.slice a r.rules.length ca,.slice b r.zones.length cb,.slice c r.links.length cc] 37)):=by simp[go_sem]
 clear hv hA hZ
 unfold Cl;go_in
 go_wp2
 generalize (w.alloc (.cells #[.slice a r.rules.length ca,.slice b r.zones.length cb,.slice c r.links.length cc] 37))=W at *
 go_loop [1,5] (fun s i=>∃k:Nat,k<=r.links.length/\s=.string nm/\i=iv k/\Hid (∀j,j<k->∀y,r.links[j]? =some y->(y.name.toList==nm.toList)=false)) (fun _ i=>r.links.length-(intOf i).toNat)
 case atStart=>exact⟨0,by omega,rfl,rfl,fun j hj=>by omega⟩
 case round=>
  obtain⟨k,hk,rfl,rfl,ak⟩:=hrel
  by_cases hlt:k<r.links.length
  ·obtain⟨x,hx⟩:=qgg hlt
   obtain⟨b',o,rfl,hc⟩:=eL.at (i:=k) (r:=x.cs) (by rw[lgm,hx];rfl)
   have c0:W.cell? (ad b' (o+k*2))=some (.string x.to_):=hc 0 _ rfl
   have c1:=hc 1 _ rfl
   clear hc
   cases hb:(x.name.toList==nm.toList)
   ·have HR:Hid (∀j,j<k+1->∀y,r.links[j]? =some y->(y.name.toList==nm.toList)=false):=fun j hj y hy=>by
     by_cases e:j=k
     ·subst e;rw[hx]at hy;obtain rfl:=osi hy;exact hb
     ·exact ak.out j (by omega) y hy
    go_wp2
    go_round
    case rel=>exact⟨k+1,by omega,rfl,by go_num,HR⟩
    case measure=>simp[intOf];omega
   ·have HL:Hid (jba r.links nm=x.to_):=jrz hx hb ak.out
    clear ak
    go_wp2
    go_loop [6] (fun i=>∃k:Nat,k<=r.zones.length/\i=iv k/\Hid (∀j,j<k->∀y,r.zones[j]? =some y->(y.name.toList==x.to_.toList)=false)) (fun i=>r.zones.length-(intOf i).toNat)
    case atStart=>exact⟨0,by omega,rfl,fun j hj=>by omega⟩
    case round=>
     obtain⟨k,hk,rfl,ak⟩:=hrel
     by_cases hlt:k<r.zones.length
     ·obtain⟨z,hx⟩:=qgg hlt
      obtain⟨b',o,rfl,c0,u,c1,hu⟩:=j8.at hx
      cases hb:(z.name.toList==x.to_.toList)
      ·have HR:Hid (∀j,j<k+1->∀y,r.zones[j]? =some y->(y.name.toList==x.to_.toList)=false):=fun j hj y hy=>by
        by_cases e:j=k
        ·subst e;rw[hx]at hy;obtain rfl:=osi hy;exact hb
        ·exact ak.out j (by omega) y hy
       go_wp2
       go_round
       case rel=>exact⟨k+1,by omega,by go_num,HR⟩
       case measure=>simp[intOf];omega
      ·have HR:Hid (ixI (jbg r.zones (jba r.links nm))=k):=by simp only[Hid];rw[HL.out,jfh hx hb ak.out];rfl
       go_wp2
       go_ret
       exact⟨ret_int HR.out.symm,ag⟩
     ·have e:k=r.zones.length:=by omega
      subst e
      have HR:Hid (ixI (jbg r.zones (jba r.links nm))= -1):=by simp only[Hid];rw[HL.out,jfg ak.out];rfl
      go_wp2
      go_ret
      exact⟨ret_int HR.out.symm,ag⟩
  ·have e:k=r.links.length:=by omega
   subst e
   have HL:Hid (jba r.links nm=nm):=jiq ak.out
   clear ak
   go_wp2
   go_loop [6] (fun i=>∃k:Nat,k<=r.zones.length/\i=iv k/\Hid (∀j,j<k->∀y,r.zones[j]? =some y->(y.name.toList==nm.toList)=false)) (fun i=>r.zones.length-(intOf i).toNat)
   case atStart=>exact⟨0,by omega,rfl,fun j hj=>by omega⟩
   case round=>
    obtain⟨k,hk,rfl,ak⟩:=hrel
    by_cases hlt:k<r.zones.length
    ·obtain⟨z,hx⟩:=qgg hlt
     obtain⟨b',o,rfl,c0,u,c1,hu⟩:=j8.at hx
     cases hb:(z.name.toList==nm.toList)
     ·have HR:Hid (∀j,j<k+1->∀y,r.zones[j]? =some y->(y.name.toList==nm.toList)=false):=fun j hj y hy=>by
       by_cases e:j=k
       ·subst e;rw[hx]at hy;obtain rfl:=osi hy;exact hb
       ·exact ak.out j (by omega) y hy
      go_wp2
      go_round
      case rel=>exact⟨k+1,by omega,by go_num,HR⟩
      case measure=>simp[intOf];omega
     ·have HR:Hid (ixI (jbg r.zones (jba r.links nm))=k):=by simp only[Hid];rw[HL.out,jfh hx hb ak.out];rfl
      go_wp2
      go_ret
      exact⟨ret_int HR.out.symm,ag⟩
    ·have e:k=r.zones.length:=by omega
     subst e
     have HR:Hid (ixI (jbg r.zones (jba r.links nm))= -1):=by simp only[Hid];rw[HL.out,jfg ak.out];rfl
     go_wp2
     go_ret
     exact⟨ret_int HR.out.symm,ag⟩
theorem jsc{q:Nat}:∀{rows:List (List Value)},(∀r∈rows,r.length=q)->∀{i l:Nat},l<q->rows.flatten[i*q+l]? =(rows[i]?).bind (·[l]?):=by
 intro rows
 induction rows with
 |nil=>intro _ i l _;simp
 | cons r rs ih=>
  intro au i l hl
  have hr:=au r (List.mem_cons_self ..)
  rw[List.flatten_cons]
  cases i with
  |zero=>
   rw[Nat.zero_mul,Nat.zero_add,lgl (by omega)]
   simp
  |succ i=>
   rw[List.getElem?_append_right (by rw[hr,Nat.add_mul];omega),hr,show(i+1)*q+l-q=i*q+l by rw[Nat.add_mul];omega]
   rw[ih (fun r hr=>au r (lmc _ hr)) hl]
   simp
theorem jxb{q:Nat}:∀{rows:List (List Value)},(∀r∈rows,r.length=q)->rows.flatten.length=rows.length*q:=by
 intro rows
 induction rows with
 |nil=>intro _;simp
 |cons r rs ih=>
  intro au
  rw[List.flatten_cons,lla,ih fun r hr=>au r (lmc _ hr),au r (List.mem_cons_self ..),List.length_cons,Nat.add_mul]
  omega
def jjo(es:List EraD):List Value:=(es.map EraD.cs).flatten
theorem jht(es:List EraD):∀r∈es.map EraD.cs,r.length=6:=fun r hr=>by
 obtain⟨x,_,rfl⟩:=List.mem_map.mp hr;rfl
theorem jxd(es:List EraD):(jjo es).length=es.length*6:=by
 unfold jjo;rw[jxb (jht es),llm]
theorem j0c{es:List EraD}{j:Nat}{u:Value}(h:(jjo es)[j]? =some u):∃r,(es.map EraD.cs)[j / 6]? =some r/\r[j%6]? =some u:=by
 have e:j=j / 6*6+j%6:=by omega
 unfold jjo at h
 rw[e,jsc (jht es) (by omega)]at h
 obtain⟨r,h1,h2⟩:=Option.bind_eq_some_iff.mp h
 exact⟨r,h1,h2⟩
theorem jqy{w:World}{b o:Nat}{es:List EraD}(hA:Za w (some (ad b o)) 6 (es.map EraD.cs))(j:Nat)(u:Value)(h:(jjo es)[j]? =some u):w.cell? (ad b (o+j))=some u:=by
 obtain⟨r,h1,h2⟩:=j0c h
 obtain⟨b',o',he,hc⟩:=hA.at h1
 injection he with he
 injection he with e1 e2
 subst e1 e2
 have:=hc _ _ h2
 rw[show o+j / 6*6+j%6=o+j by omega]at this
 exact this
theorem jxc{es:List EraD}:∀u∈jjo es,u.oneCell'=true:=fun u hu=>by
 unfold jjo at hu
 obtain⟨r,hr,hu⟩:=List.mem_flatten.mp hu
 obtain⟨x,_,rfl⟩:=List.mem_map.mp hr
 simp only[EraD.cs,List.mem_cons,List.not_mem_nil,or_false]at hu
 rcases hu with rfl|rfl|rfl|rfl|rfl|rfl<;>rfl
def Ji(w:World)(B:Nat)(v:Value)(es:List EraD):Prop:=
 (es=[]/\v=nS)\/∃g cap,v=so g es.length cap/\B<=g/\g<w.heap.size/\Za w (some (ad g 0)) 6 (es.map EraD.cs)/\Zg w g (es.length*6)
theorem Ji.mono{w:World}{B B2:Nat}{v:Value}{es:List EraD}(h:Ji w B v es)(hb:B2<=B):Ji w B2 v es:=by
 rcases h with h|⟨g,cap,hv,hg,rest⟩
 ·exact .inl h
 ·exact .inr ⟨g,cap,hv,by omega,rest⟩
theorem jy7{w:World}{B:Nat}{e:TypeId}{v:Value}{es:List EraD}(h:w.ownsRow B e 6 v es.length (jjo es))(hn:0<es.length):Ji w B v es:=by
 rcases h.2 with⟨_,h0⟩|⟨g,cap,cur,hv,hg,hh,hc,hm,hs,ht⟩
 ·omega
 ·have hlt:g<w.heap.size:=by
   rcases Nat.lt_or_ge g w.heap.size with h'|h'
   ·exact h'
   ·rw[Array.getElem?_eq_none h']at hh;cases hh
  refine .inr ⟨g,cap,hv,hg,hlt,.inr ⟨g,0,rfl,fun i j r c hi hj=>?_⟩,fun x hx=>?_⟩
  ·have Kb:j<6:=by
    have:=jht es r (lmg hi)
    have:=(lgs hj).1
    omega
   have i7:i<es.length:=by have:=(lgs hi).1;simpa using this
   have e1:(cur.toList.take (es.length*6))[i*6+j]? =(jjo es)[i*6+j]? :=by rw[ht]
   unfold jjo at e1
   rw[jsc (jht es) Kb,hi]at e1
   rw[List.getElem?_take,if_pos (by omega),Array.getElem?_toList]at e1
   simp only[World.cell?,hh,Nat.zero_add]
   simp only[Option.isSome_none,Bool.false_eq_true,if_false]
   rw[e1]
   exact hj
  ·have fm:x<cur.size:=by have:es.length*6<=cap*6:=Nat.mul_le_mul_right 6 hc;omega
   exact⟨⟨cur[x],by simp[World.cell?,hh,fm]⟩,by simp[World.frozen?,hh]⟩
theorem js5(w:World)(t:TypeId):(w.alloc (.cells #[] t)).ownsRow w.heap.size t 6 (.slice (some (ad w.heap.size 0)) 0 0) 0 []:=
 ⟨rfl,.inr ⟨w.heap.size,0,#[],rfl,nlr _,(MapKept.heap_alloc w _).1,nlr _,by unfold maxLen;omega,rfl,rfl⟩⟩
theorem jme(es:List EraD)(b o cap:Nat)(w:World)(hA:Za w (some (ad b o)) 6 (es.map EraD.cs))(hn:0<es.length)(hl:es.length<=1048576):
  Cl 110 #[.slice (some (ad b o)) es.length cap] w fun e w'=>∃v',e=.returned v'/\Ji w' w.heap.size v' es/\Bw w w':=by
 obtain⟨i0,hi,aG,aH,aF⟩:=jqj
 have sR:∀(w:World) (a:Option Addr) (n c n' c':Nat),(binOp .eql 79 (.slice a n c) (.slice none n' c')).run Tryz.prog w=.ok (.bool a.isNone) w:=fun w a n c n' c'=>Lib.run_eql_slice_nil w _ _ a n c n' c' Tryz.underlying79
 have aT:=jqy hA
 have HC:=hid aT
 clear aT
 unfold Cl;go_in
 go_wp2_with (at_builtin;refine wpList_append_own _ rfl _ _ 79 rfl w.heap.size 133 i0 _ 6 72 Tryz.underlying79 hi aG aH aF rfl (by decide) _ _ _ rfl (js5 w 133) (ad b o) es.length cap (jjo es) rfl ?qc1 ?qc2 ?qc3 ?qc4 ?qc5 ?qc6 ?_)
 case qc1=>exact jxd es
 case qc2=>
  intro j u hj
  rw[Addr.add_lit]
  exact Lib.cell?_alloc_some _ (HC.out j u hj)
 case qc3=>exact jxc
 case qc4=>unfold maxLen;omega
 case qc5=>omega
 case qc6=>simp
 intro v' w1 ai af Kq
 go_wp2
 go_ret
 refine⟨v',rfl,jy7 (by simpa using ai) hn,(qal w _).grown af (by simp) (by intro k hk;simp[Value.ownBlock]at hk;omega)⟩
theorem jx8{r:RelD}{nm:ByteArray}(h:relB r=false):jao r nm=zeroZ:=by unfold jao;rw[if_neg (by rw[h];simp)]
theorem jc5{r:RelD}{nm:ByteArray}(h:jbg r.zones (jba r.links nm)=none):jao r nm=zeroZ:=by
 unfold jao
 split
 ·rw[h]
 ·rfl
theorem jcr{r:RelD}{nm:ByteArray}{i:Nat}{z:ZoneD}(hr:relB r=true)(h:jbg r.zones (jba r.links nm)=some i)(hz:r.zones[i]? =some z):jao r nm=z:=by
 unfold jao
 rw[if_pos hr,h]
 simp only[hz]
theorem jh9(s:ByteArray):s.toList.length=s.size:=by rw[ByteArray.toList_eq,Array.length_toList];rfl
theorem jc9{r:RelD}(hr:relB r=true){z:ZoneD}(hz:z∈r.zones):0<z.eras.length/\jaz z.name=true:=by
 have t:=j01 hr
 have:=List.all_eq_true.mp t.zones z hz
 unfold jbh at this
 simp only[bat,decide_eq_true_eq]at this
 exact⟨by omega,this.1⟩
theorem Ji.set{w:World}{B:Nat}{v:Value}{es:List EraD}(h:Ji w B v es){p i:Nat}(hp:p<B)(x:Value):Ji (w.setCell (ad p i) x) B v es:=by
 rcases h with h|⟨g,cap,hv,hg,hl,h1,h2⟩
 ·exact .inl h
 ·refine .inr ⟨g,cap,hv,hg,by simpa using hl,h1.keep fun y=>wco _ _ _ _ (jcv (by omega)),h2.set _ _⟩
theorem jfa(w:World)(B:Nat):Ji w B nS zeroZ.eras:=.inl ⟨rfl,rfl⟩
theorem je3(es:List EraD)(b o cap:Nat)(w:World)(hA:Za w (some (ad b o)) 6 (es.map EraD.cs))(hn:0<es.length)(hl:es.length<=1048576):
  Cl 110 #[.slice (some (ad b o)) es.length cap] w fun e w'=>∃g bL,e=.returned (so g es.length bL)/\w.heap.size<=g/\Ji w' w.heap.size (so g es.length bL) es/\Bw w w':=by
 refine(jme es b o cap w hA hn hl).mono ?_
 rintro e w' ⟨v',rfl,hO,hb⟩
 rcases hO with⟨h0,_⟩|⟨g,bL,rfl,hg,rest⟩
 ·rw[h0]at hn;simp at hn
 ·exact⟨g,bL,rfl,hg,.inr ⟨g,bL,rfl,hg,rest⟩,hb⟩
theorem jfe(r:RelD)(v:Value)(nm:ByteArray)(w:World)(cg:Zx w)(hv:Zd w v r)(ok:r.ok)(sm:r.small)(di:∀x∈r.rules,x.on.size<=1048576):
  Cl 148 #[v,.string nm] w fun e w'=>∃v',e=.returned (.agg #[.string (jao r nm).name,v'])/\Ji w' w.heap.size v' (jao r nm).eras/\Bw w w':=by
 obtain⟨a,b,c,ca,cb,cc,jH,_,iw,kh⟩:=hv.form
 have hI:=fun w hE (h:Zd w v r)=>jbr r v w hE h ok sm di
 obtain⟨m1,m2,m3,m4⟩:=sm
 subst jH
 have ag:=(qal w (.cells #[.slice a r.rules.length ca,.slice b r.zones.length cb,.slice c r.links.length cc] 37)).alloc (by simp) (.cells #[.string ⟨#[]⟩,nS] 81)
 obtain⟨W0,j6⟩:=qeb ((((w.alloc (.cells #[.slice a r.rules.length ca,.slice b r.zones.length cb,.slice c r.links.length cc] 37)).alloc (.cells #[.string ⟨#[]⟩,nS] 81))))
 rw[j6]at ag
 have x0:W0.cell? (ad w.heap.size 0)=some (.slice a r.rules.length ca):=by rw[<- j6];simp[go_sem]
 have y0:W0.cell? (ad w.heap.size 1)=some (.slice b r.zones.length cb):=by rw[<- j6];simp[go_sem]
 have z0:W0.cell? (ad w.heap.size 2)=some (.slice c r.links.length cc):=by rw[<- j6];simp[go_sem]
 have r0:W0.cell? (ad (w.heap.size+1) 0)=some (.string ⟨#[]⟩):=by rw[<- j6];simp[go_sem]
 have s0:W0.cell? (ad (w.heap.size+1) 1)=some nS:=by rw[<- j6];simp[go_sem]
 have f0:W0.frozen? (ad (w.heap.size+1) 0)=false:=by rw[<- j6];simp[go_sem]
 have g0:W0.frozen? (ad (w.heap.size+1) 1)=false:=by rw[<- j6];simp[go_sem]
 cases hrb:relB r
 ·rw[jx8 hrb]
  rw[hrb]at hI
  clear hrb
  unfold Cl;go_in
  go_wp2_with fail
  refine(hI _ (cg.of_below ag) (hv.below ag)).mono ?_
  rintro e w1 ⟨rfl,hb1⟩
  have aj:=qtr ag hb1
  have y1:=qce hb1 y0 y0
  have z1:=qce hb1 z0 z0
  have r1:=qce hb1 r0 r0
  have s1:=qce hb1 s0 s0
  have f1:=qfz hb1 r0 f0
  have g1:=qfz hb1 s0 g0
  clear hb1
  obtain⟨t0,t1⟩:=jf5 (v0:=.string ⟨#[]⟩) (v1:=nS) r1 s1
  go_wp2
  exact bpr (v:=.agg #[.string ⟨#[]⟩,nS]) (by simp[results,Tryz.results148,go_sem,t0,t1]) rfl ⟨nS,rfl,jfa _ _,(aj.setCell (show w.heap.size<=w.heap.size+1 by omega) _).setCell (show w.heap.size<=w.heap.size+1 by omega) _⟩
 have hr:=hid hrb
 rw[hrb]at hI
 clear hrb
 unfold Cl;go_in
 go_wp2_with fail
 refine(hI _ (cg.of_below ag) (hv.below ag)).mono ?_
 rintro e w1 ⟨rfl,hb1⟩
 have aj:=qtr ag hb1
 have y1:=qce hb1 y0 y0
 have z1:=qce hb1 z0 z0
 have r1:=qce hb1 r0 r0
 have s1:=qce hb1 s0 s0
 have f1:=qfz hb1 r0 f0
 have g1:=qfz hb1 s0 g0
 clear hb1 hI x0 y0 z0 r0 s0 f0 g0
 go_upto_if 11 with fail
 go_cut [11]from 12 to 12 (fun s wx=>s=.bool false/\wx=w1)
 case first=>
  go_wp2
  go_meet
  exact⟨rfl,rfl⟩
 obtain⟨rfl,uG⟩:=hcut
 have uG:=uG.symm
 subst uG
 go_step
 go_step
 go_cut [1,6]from 13 to 26 (fun s1 _ wx=>s1=.string (jba r.links nm)/\Hid (Bw w1 wx))
 case first=>
  go_wp2
  go_loopw [1,16] (fun s i wr=>∃k:Nat,k<=r.links.length/\s=.string nm/\i=iv k/\Hid (∀j,j<k->∀y,r.links[j]? =some y->(y.name.toList==nm.toList)=false)/\Bw w1 wr) (fun _ i _=>r.links.length-(intOf i).toNat)
  case atStart=>exact⟨0,by omega,rfl,rfl,fun j hj=>by omega,brf _ _⟩
  case round=>
   obtain⟨k,hk,rfl,rfl,ak,ac⟩:=hrel
   have eM:=qtr aj ac
   by_cases hlt:k<r.links.length
   ·obtain⟨x,hx⟩:=qgg hlt
    obtain⟨b',o,rfl,hc⟩:=(kh.below eM).at (i:=k) (r:=x.cs) (by rw[lgm,hx];rfl)
    have c0:wr.cell? (ad b' (o+k*2))=some (.string x.to_):=hc 0 _ rfl
    have c1:=hc 1 _ rfl
    clear hc
    have mt:Bw wr (wr.alloc (.cells #[.string x.to_,.string x.name] 84)):=qal wr _
    have fh:=qtr ac mt
    cases hb:(x.name.toList==nm.toList)
    ·have HR:Hid (∀j,j<k+1->∀y,r.links[j]? =some y->(y.name.toList==nm.toList)=false):=fun j hj y hy=>by
      by_cases e:j=k
      ·subst e;rw[hx]at hy;obtain rfl:=osi hy;exact hb
      ·exact ak.out j (by omega) y hy
     go_wp2
     go_roundw
     case rel=>exact⟨k+1,by omega,rfl,by go_num,HR,fh⟩
     case measure=>simp[intOf];omega
    ·have HL:Hid (jba r.links nm=x.to_):=jrz hx hb ak.out
     clear ak y1 z1 r1 s1 f1 g1
     go_wp2
     go_meet
     exact⟨by rw[HL.out],fh⟩
   ·have e:k=r.links.length:=by omega
    subst e
    have HL:Hid (jba r.links nm=nm):=jiq ak.out
    clear ak y1 z1 r1 s1 f1 g1 eM
    go_wp2
    go_meet
    exact⟨by rw[HL.out],ac⟩
 obtain⟨rfl,ac⟩:=hcut
 obtain⟨C,hC⟩:=qea wc
 subst hC
 have ac:=ac.out
 have nQ:=qtr aj ac
 have y2:=qce ac y1 y1
 have z2:=qce ac z1 z1
 have r2:=qce ac r1 r1
 have s2:=qce ac s1 s1
 have f2:=qfz ac r1 f1
 have g2:=qfz ac s1 g1
 clear y1 z1 r1 s1 f1 g1 ac
 generalize i8:jba r.links nm=lk at *
 have HL:=hid i8
 clear i8
 go_wp2
 go_loopw [30] (fun i wr=>∃k:Nat,k<=r.zones.length/\i=iv k/\Hid (∀j,j<k->∀y,r.zones[j]? =some y->(y.name.toList==lk.toList)=false)/\Bw C wr) (fun i _=>r.zones.length-(intOf i).toNat)
 case atStart=>exact⟨0,by omega,rfl,fun j hj=>by omega,brf _ _⟩
 case round=>
  obtain⟨k,hk,rfl,ak,ar⟩:=hrel
  have ax:=qtr nQ ar
  have y3:=qce ar y2 y2
  have z3:=qce ar z2 z2
  have r3:=qce ar r2 r2
  have s3:=qce ar s2 s2
  have f3:=qfz ar r2 f2
  have g3:=qfz ar s2 g2
  by_cases hlt2:k<r.zones.length
  ·obtain⟨z,hz⟩:=qgg hlt2
   have kR:=jc9 hr.out (lmg hz)
   have uS:=m4 z (lmg hz)
   obtain⟨b',o,rfl,c0,u,c1,hu⟩:=(iw.below ax).at hz
   obtain⟨ae,ce,rfl,hE⟩:=hu
   obtain⟨e0,uR⟩:∃e,z.eras[0]? =some e:=⟨_,lgg kR.1⟩
   obtain⟨be,oe,rfl,_⟩:=hE.at (i:=0) (r:=e0.cs) (by rw[lgm,uR];rfl)
   clear uR
   have aD:Bw wr (wr.alloc (.cells #[.string z.name,.slice (some (ad be oe)) z.eras.length ce] 81)):=qal wr _
   cases hb:(z.name.toList==lk.toList)
   ·have HR:Hid (∀j,j<k+1->∀y,r.zones[j]? =some y->(y.name.toList==lk.toList)=false):=fun j hj y hy=>by
     by_cases e:j=k
     ·subst e;rw[hz]at hy;obtain rfl:=osi hy;exact hb
     ·exact ak.out j (by omega) y hy
    go_wp2
    go_roundw
    case rel=>exact⟨k+1,by omega,by go_num,HR,(qtr ar aD)⟩
    case measure=>simp[intOf];omega
   ·have HZ:Hid (jao r nm=z):=jcr hr.out (by rw[HL.out];exact jfh hz hb ak.out) hz
    have aR:=qtr ax aD
    have y4:=qce aD y3 y3
    have z4:=qce aD z3 z3
    have r4:=qce aD r3 r3
    have s4:=qce aD s3 s3
    have f4:=qfz aD r3 f3
    have g4:=qfz aD s3 g3
    have hD:Below (wr.alloc (.cells #[.string z.name,.slice (some (ad be oe)) z.eras.length ce] 81)).heap.size (wr.alloc (.cells #[.string z.name,.slice (some (ad be oe)) z.eras.length ce] 81)) (wr.alloc (.cells #[.string z.name,.slice (some (ad be oe)) z.eras.length ce] 81)).drew:=⟨rfl,rfl,rfl,nlr _,fun _ _=>rfl⟩
    have bY:=qtr aR hD
    obtain⟨k0,k1⟩:(fun zq:World=>zq.cell? (ad wr.heap.size 0)=some (.string z.name)/\zq.cell? (ad wr.heap.size 1)=some (.slice (some (ad be oe)) z.eras.length ce)) ((wr.alloc (.cells #[.string z.name,.slice (some (ad be oe)) z.eras.length ce] 81)).drew):=by simp[go_sem]
    have r5:(wr.alloc (.cells #[.string z.name,.slice (some (ad be oe)) z.eras.length ce] 81)).drew.cell? (ad (w.heap.size+1) 0)=some (.string ⟨#[]⟩):=r4
    have s5:(wr.alloc (.cells #[.string z.name,.slice (some (ad be oe)) z.eras.length ce] 81)).drew.cell? (ad (w.heap.size+1) 1)=some nS:=s4
    have f5:(wr.alloc (.cells #[.string z.name,.slice (some (ad be oe)) z.eras.length ce] 81)).drew.frozen? (ad (w.heap.size+1) 0)=false:=f4
    have g5:(wr.alloc (.cells #[.string z.name,.slice (some (ad be oe)) z.eras.length ce] 81)).drew.frozen? (ad (w.heap.size+1) 1)=false:=g4
    have hK:=je3 z.eras be oe ce (wr.alloc (.cells #[.string z.name,.slice (some (ad be oe)) z.eras.length ce] 81)).drew ((hE.below aD).below hD) kR.1 uS
    have hsz:w.heap.size+1<wr.heap.size:=qbl r3
    have Cy:(wr.alloc (.cells #[.string z.name,.slice (some (ad be oe)) z.eras.length ce] 81)).drew.heap.size=wr.heap.size+1:=by show(wr.alloc (.cells #[.string z.name,.slice (some (ad be oe)) z.eras.length ce] 81)).heap.size=_;simp
    have az:w.heap.size+1≠wr.heap.size:=by omega
    have mG:wr.heap.size≠w.heap.size+1:=by omega
    clear hE ak ar ax aR aD
    go_wp2_with fail
    go_region_held3 (fun w'=>w'.cell? (ad wr.heap.size 0)=some (.string z.name)/\w'.cell? (ad wr.heap.size 1)=some (.slice (some (ad be oe)) z.eras.length ce)) (go_keep) (first|(go_at_call 110;refine hK.mono ?_;rintro e w6 ⟨g,cap,rfl,hg,sj,hb6⟩;have p0:=qce hb6 k0 k0;have p1:=qce hb6 k1 k1;have r6:=qce hb6 r5 r5;have s6:=qce hb6 s5 s5;have f6:=qfz hb6 r5 f5;have g6:=qfz hb6 s5 g5;have cp:=qtr bY hb6))
    obtain⟨t0,t1⟩:=jf5 (v0:=.string z.name) (v1:=so g z.eras.length cap) r6 s6
    have pC:=(sj.set (p:=w.heap.size+1) (i:=0) (by omega) (.string z.name)).set (p:=w.heap.size+1) (i:=1) (by omega) (so g z.eras.length cap)
    go_wp2
    exact bpr (v:=.agg #[.string z.name,so g z.eras.length cap]) (by simp[results,Tryz.results148,go_sem,t0,t1]) rfl ⟨so g z.eras.length cap,by rw[HZ.out],by rw[HZ.out];exact pC.mono (by omega),(cp.setCell (show w.heap.size<=w.heap.size+1 by omega) _).setCell (show w.heap.size<=w.heap.size+1 by omega) _⟩
  ·have e:k=r.zones.length:=by omega
   subst e
   have HZ:Hid (jao r nm=zeroZ):=jc5 (by rw[HL.out];exact jfg ak.out)
   obtain⟨t0,t1⟩:=jf5 (v0:=.string ⟨#[]⟩) (v1:=nS) r3 s3
   go_wp2
   exact bpr (v:=.agg #[.string ⟨#[]⟩,nS]) (by simp[results,Tryz.results148,go_sem,t0,t1]) rfl ⟨nS,by rw[HZ.out];rfl,by rw[HZ.out];exact jfa _ _,(ax.setCell (show w.heap.size<=w.heap.size+1 by omega) _).setCell (show w.heap.size<=w.heap.size+1 by omega) _⟩
