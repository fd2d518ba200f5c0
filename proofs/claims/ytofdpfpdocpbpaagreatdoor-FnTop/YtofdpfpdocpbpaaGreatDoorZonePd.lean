/- Packed. -/
import Derived.Test.YtofdpfpdocpbpaaGreatDoorRightWd
import Derived.Lib.SliceRun
import Derived.Deep.RegionHeld3
import Derived.Deep.CutBlock
set_option maxRecDepth 20000
set_option maxHeartbeats 20000000
set_option linter.unusedSimpArgs false
namespace Go.Proofs.YtofdpfpdocpbpaaGreatDoor
section
open Go.RowKit Go.Sort
def jc4(ls:List LinkD)(nm:ByteArray):ByteArray:=match ls.find? (fun l=>l.name.toList==nm.toList)with
 |some l=>l.to_
 |none=>nm
def jeb(zs:List ZoneD)(nm:ByteArray):Option Nat:=zs.findIdx? fun z=>z.name.toList==nm.toList
def zeroZ:ZoneD:=⟨⟨#[]⟩,[]⟩
def jat(r:RelD)(nm:ByteArray):ZoneD:=if relB r=true then(match jeb r.zones (jc4 r.links nm)with
 |some i=>(match r.zones[i]? with|some z=>z|none=>zeroZ)
 |none=>zeroZ)else zeroZ
theorem j2f{α:Type}{l:List α}{p:α->Bool}{k:Nat}{x:α}(hx:l[k]? =some x)(hp:p x=true)(hn:∀j,j<k->∀y,l[j]? =some y->p y=false):l.find? p=some x:=by
 induction l generalizing k with
 |nil=>simp at hx
 | cons a l ih=>
  cases k with
  |zero=>simp at hx;subst hx;simp[hp]
  |succ k=>
   have h0:=hn 0 (by omega) a rfl
   rw[List.find?_cons,h0]
   exact ih (by simpa using hx) fun j hj y hy=>hn (j+1) (by omega) y (by simpa using hy)
theorem jyr{α:Type}{l:List α}{p:α->Bool}(hn:∀j,j<l.length->∀y,l[j]? =some y->p y=false):l.find? p=none:=by
 rw[List.find?_eq_none]
 intro x hx
 obtain⟨j,hj⟩:=List.getElem?_of_mem hx
 have:=hn j (List.getElem?_eq_some_iff.mp hj).1 x hj
 simp[this]
theorem j8u{α:Type}{l:List α}{p:α->Bool}{k:Nat}{x:α}(hx:l[k]? =some x)(hp:p x=true)(hn:∀j,j<k->∀y,l[j]? =some y->p y=false):l.findIdx? p=some k:=by
 induction l generalizing k with
 |nil=>simp at hx
 | cons a l ih=>
  cases k with
  |zero=>simp at hx;subst hx;simp[List.findIdx?_cons,hp]
  |succ k=>
   have h0:=hn 0 (by omega) a rfl
   rw[List.findIdx?_cons,h0]
   have:=ih (k:=k) (by simpa using hx) fun j hj y hy=>hn (j+1) (by omega) y (by simpa using hy)
   simp[this]
theorem j55{α:Type}{l:List α}{p:α->Bool}(hn:∀j,j<l.length->∀y,l[j]? =some y->p y=false):l.findIdx? p=none:=by
 rw[List.findIdx?_eq_none_iff]
 intro x hx
 obtain⟨j,hj⟩:=List.getElem?_of_mem hx
 exact hn j (List.getElem?_eq_some_iff.mp hj).1 x hj
theorem j1f{ls:List LinkD}{nm:ByteArray}{k:Nat}{x:LinkD}(hx:ls[k]? =some x)(hp:(x.name.toList==nm.toList)=true)(hn:∀j,j<k->∀y,ls[j]? =some y->(y.name.toList==nm.toList)=false):jc4 ls nm=x.to_:=by unfold jc4;rw[j2f hx hp hn]
theorem jxk{ls:List LinkD}{nm:ByteArray}(hn:∀j,j<ls.length->∀y,ls[j]? =some y->(y.name.toList==nm.toList)=false):jc4 ls nm=nm:=by unfold jc4;rw[jyr hn]
theorem jzv{zs:List ZoneD}{nm:ByteArray}{k:Nat}{x:ZoneD}(hx:zs[k]? =some x)(hp:(x.name.toList==nm.toList)=true)(hn:∀j,j<k->∀y,zs[j]? =some y->(y.name.toList==nm.toList)=false):jeb zs nm=some k:=j8u hx hp hn
theorem ju2{zs:List ZoneD}{nm:ByteArray}(hn:∀j,j<zs.length->∀y,zs[j]? =some y->(y.name.toList==nm.toList)=false):jeb zs nm=none:=j55 hn
end
section
open Go.RowKit Go.Sort
theorem jsl{q:Nat}:∀{rows:List (List Value)},(∀r∈rows,r.length=q)->∀{i l:Nat},l<q->rows.flatten[i*q+l]? =(rows[i]?).bind (·[l]?):=by
 intro rows
 induction rows with
 |nil=>intro _ i l _;simp
 | cons r rs ih=>
  intro hlen i l hl
  have hr:=hlen r (List.mem_cons_self ..)
  rw[List.flatten_cons]
  cases i with
  |zero=>
   rw[Nat.zero_mul,Nat.zero_add,List.getElem?_append_left (by omega)]
   simp
  |succ i=>
   rw[List.getElem?_append_right (by rw[hr,Nat.add_mul];omega),hr,show(i+1)*q+l-q=i*q+l by rw[Nat.add_mul];omega]
   rw[ih (fun r hr=>hlen r (List.mem_cons_of_mem _ hr)) hl]
   simp
theorem jyn{q:Nat}:∀{rows:List (List Value)},(∀r∈rows,r.length=q)->rows.flatten.length=rows.length*q:=by
 intro rows
 induction rows with
 |nil=>intro _;simp
 |cons r rs ih=>
  intro hlen
  rw[List.flatten_cons,List.length_append,ih fun r hr=>hlen r (List.mem_cons_of_mem _ hr),hlen r (List.mem_cons_self ..),List.length_cons,Nat.add_mul]
  omega
def jjx(es:List EraD):List Value:=(es.map EraD.cs).flatten
theorem jia(es:List EraD):∀r∈es.map EraD.cs,r.length=6:=fun r hr=>by
 obtain⟨x,_,rfl⟩:=List.mem_map.mp hr;rfl
theorem jyp(es:List EraD):(jjx es).length=es.length*6:=by
 unfold jjx;rw[jyn (jia es),List.length_map]
theorem j2e{es:List EraD}{j:Nat}{u:Value}(h:(jjx es)[j]? =some u):∃r,(es.map EraD.cs)[j / 6]? =some r/\r[j%6]? =some u:=by
 have e:j=j / 6*6+j%6:=by omega
 unfold jjx at h
 rw[e,jsl (jia es) (by omega)]at h
 obtain⟨r,h1,h2⟩:=Option.bind_eq_some_iff.mp h
 exact⟨r,h1,h2⟩
theorem jqq{w:World}{b o:Nat}{es:List EraD}(hA:Zd w (some ⟨b,o,none⟩) 6 (es.map EraD.cs))(j:Nat)(u:Value)(h:(jjx es)[j]? =some u):w.cell? ⟨b,o+j,none⟩=some u:=by
 obtain⟨r,h1,h2⟩:=j2e h
 obtain⟨b',o',he,hc⟩:=hA.at h1
 injection he with he
 injection he with e1 e2
 subst e1 e2
 have:=hc _ _ h2
 rw[show o+j / 6*6+j%6=o+j by omega]at this
 exact this
theorem jyo{es:List EraD}:∀u∈jjx es,u.oneCell'=true:=fun u hu=>by
 unfold jjx at hu
 obtain⟨r,hr,hu⟩:=List.mem_flatten.mp hu
 obtain⟨x,_,rfl⟩:=List.mem_map.mp hr
 simp only[EraD.cs,List.mem_cons,List.not_mem_nil,or_false]at hu
 rcases hu with rfl|rfl|rfl|rfl|rfl|rfl<;>rfl
def Jd(w:World)(B:Nat)(v:Value)(es:List EraD):Prop:=
 (es=[]/\v=.slice none 0 0)\/∃g cap,v=.slice (some ⟨g,0,none⟩) es.length cap/\B<=g/\g<w.heap.size/\Zd w (some ⟨g,0,none⟩) 6 (es.map EraD.cs)/\Room w g (es.length*6)
theorem Jd.mono{w:World}{B B2:Nat}{v:Value}{es:List EraD}(h:Jd w B v es)(hb:B2<=B):Jd w B2 v es:=by
 rcases h with h|⟨g,cap,hv,hg,rest⟩
 ·exact .inl h
 ·exact .inr ⟨g,cap,hv,by omega,rest⟩
theorem j0z{w:World}{B:Nat}{e:TypeId}{v:Value}{es:List EraD}(h:w.ownsRow B e 6 v es.length (jjx es))(hn:0<es.length):Jd w B v es:=by
 rcases h.2 with⟨_,h0⟩|⟨g,cap,cur,hv,hg,hh,hc,hm,hs,ht⟩
 ·omega
 ·have hlt:g<w.heap.size:=by
   rcases Nat.lt_or_ge g w.heap.size with h'|h'
   ·exact h'
   ·rw[Array.getElem?_eq_none h']at hh;cases hh
  refine .inr ⟨g,cap,hv,hg,hlt,.inr ⟨g,0,rfl,fun i j r c hi hj=>?_⟩,fun x hx=>?_⟩
  ·have hj6:j<6:=by
    have:=jia es r (List.mem_of_getElem? hi)
    have:=(List.getElem?_eq_some_iff.mp hj).1
    omega
   have hil:i<es.length:=by have:=(List.getElem?_eq_some_iff.mp hi).1;simpa using this
   have e1:(cur.toList.take (es.length*6))[i*6+j]? =(jjx es)[i*6+j]? :=by rw[ht]
   unfold jjx at e1
   rw[jsl (jia es) hj6,hi]at e1
   rw[List.getElem?_take,if_pos (by omega),Array.getElem?_toList]at e1
   simp only[World.cell?,hh,Nat.zero_add]
   simp only[Option.isSome_none,Bool.false_eq_true,if_false]
   rw[e1]
   exact hj
  ·have hx':x<cur.size:=by have:es.length*6<=cap*6:=Nat.mul_le_mul_right 6 hc;omega
   exact⟨⟨cur[x],by simp[World.cell?,hh,hx']⟩,by simp[World.frozen?,hh]⟩
theorem jtn(w:World)(t:TypeId):(w.alloc (.cells #[] t)).ownsRow w.heap.size t 6 (.slice (some ⟨w.heap.size,0,none⟩) 0 0) 0 []:=
 ⟨rfl,.inr ⟨w.heap.size,0,#[],rfl,Nat.le_refl _,(MapKept.heap_alloc w _).1,Nat.le_refl _,by unfold maxLen;omega,rfl,rfl⟩⟩
theorem jmd(es:List EraD)(b o cap:Nat)(w:World)(hA:Zd w (some ⟨b,o,none⟩) 6 (es.map EraD.cs))(hn:0<es.length)(hl:es.length<=1048576):
  Calls Tryz.prog 85 #[.slice (some ⟨b,o,none⟩) es.length cap] w fun e w'=>∃v',e=.returned v'/\Jd w' w.heap.size v' es/\Below w.heap.size w w':=by
 obtain⟨i0,hi,hz0,hz1,hz2⟩:=jp4
 have q22:∀(w:World) (a:Option Addr) (n c n' c':Nat),(binOp .eql 134 (.slice a n c) (.slice none n' c')).run Tryz.prog w=.ok (.bool a.isNone) w:=fun w a n c n' c'=>Lib.run_eql_slice_nil w _ _ a n c n' c' Tryz.underlying134
 have hcells:=jqq hA
 have HC:=hid hcells
 clear hcells
 go_enter Tryz.func85,Tryz.ntmps85
 go_wp2_with (at_builtin;refine wpList_append_own _ rfl _ _ 134 rfl w.heap.size 148 i0 _ 6 72 Tryz.underlying134 hi hz0 hz1 hz2 rfl (by decide) _ _ _ rfl (jtn w 148) ⟨b,o,none⟩ es.length cap (jjx es) rfl ?qc1 ?qc2 ?qc3 ?qc4 ?qc5 ?qc6 ?_)
 case qc1=>exact jyp es
 case qc2=>
  intro j u hj
  rw[Addr.add_lit]
  exact Lib.cell?_alloc_some _ (HC.out j u hj)
 case qc3=>exact jyo
 case qc4=>unfold maxLen;omega
 case qc5=>omega
 case qc6=>simp
 intro v' w1 hown hgrow hnil
 go_wp2
 go_ret
 refine⟨v',rfl,j0z (by simpa using hown) hn,(qal w _).grown hgrow (by simp) (by intro k hk;simp[Value.ownBlock]at hk;omega)⟩
end
section
open Go.RowKit Go.Sort
theorem jzw{r:RelD}{nm:ByteArray}(h:relB r=false):jat r nm=zeroZ:=by unfold jat;rw[if_neg (by rw[h];simp)]
theorem jgk{r:RelD}{nm:ByteArray}(h:jeb r.zones (jc4 r.links nm)=none):jat r nm=zeroZ:=by
 unfold jat
 split
 ·rw[h]
 ·rfl
theorem jgj{r:RelD}{nm:ByteArray}{i:Nat}{z:ZoneD}(hr:relB r=true)(h:jeb r.zones (jc4 r.links nm)=some i)(hz:r.zones[i]? =some z):jat r nm=z:=by
 unfold jat
 rw[if_pos hr,h]
 simp only[hz]
theorem jim(s:ByteArray):s.toList.length=s.size:=by rw[ByteArray.toList_eq,Array.length_toList];rfl
theorem jgn{r:RelD}(hr:relB r=true){z:ZoneD}(hz:z∈r.zones):0<z.eras.length/\jbs z.name=true:=by
 have t:=j77 hr
 have:=List.all_eq_true.mp t.zones z hz
 unfold jb5 at this
 simp only[Bool.and_eq_true,decide_eq_true_eq]at this
 exact⟨by omega,this.1⟩
theorem Jd.set{w:World}{B:Nat}{v:Value}{es:List EraD}(h:Jd w B v es){p i:Nat}(hp:p<B)(x:Value):Jd (w.setCell ⟨p,i,none⟩ x) B v es:=by
 rcases h with h|⟨g,cap,hv,hg,hl,h1,h2⟩
 ·exact .inl h
 ·refine .inr ⟨g,cap,hv,hg,by simpa using hl,h1.keep fun y=>World.cell?_setCell_other _ _ _ _ (jpt (by omega)),h2.set _ _⟩
theorem jir(w:World)(B:Nat):Jd w B (.slice none 0 0) zeroZ.eras:=.inl ⟨rfl,rfl⟩
end
section
open Go.RowKit Go.Sort
theorem jkq(es:List EraD)(b o cap:Nat)(w:World)(hA:Zd w (some ⟨b,o,none⟩) 6 (es.map EraD.cs))(hn:0<es.length)(hl:es.length<=1048576):
  Calls Tryz.prog 85 #[.slice (some ⟨b,o,none⟩) es.length cap] w fun e w'=>∃g cap2,e=.returned (.slice (some ⟨g,0,none⟩) es.length cap2)/\w.heap.size<=g/\Jd w' w.heap.size (.slice (some ⟨g,0,none⟩) es.length cap2) es/\Below w.heap.size w w':=by
 refine(jmd es b o cap w hA hn hl).mono ?_
 rintro e w' ⟨v',rfl,hO,hb⟩
 rcases hO with⟨h0,_⟩|⟨g,cap2,rfl,hg,rest⟩
 ·rw[h0]at hn;simp at hn
 ·exact⟨g,cap2,rfl,hg,.inr ⟨g,cap2,rfl,hg,rest⟩,hb⟩
theorem jfg(r:RelD)(v:Value)(nm:ByteArray)(w:World)(hEnv:Zm w)(hv:Zi w v r)(ok:r.ok)(sm:r.small)(hon:∀x∈r.rules,x.on.size<=1048576):
  Calls Tryz.prog 126 #[v,.string nm] w fun e w'=>∃v',e=.returned (.agg #[.string (jat r nm).name,v'])/\Jd w' w.heap.size v' (jat r nm).eras/\Below w.heap.size w w':=by
 obtain⟨a,b,c,ca,cb,cc,hvv,_,hAz,hAl⟩:=hv.form
 have hI:=fun w hE (h:Zi w v r)=>ja8 r v w hE h ok sm hon
 obtain⟨m1,m2,m3,m4⟩:=sm
 subst hvv
 have hB0:=(qal w (.cells #[.slice a r.rules.length ca,.slice b r.zones.length cb,.slice c r.links.length cc] 56)).alloc (by simp) (.cells #[.string ⟨#[]⟩,.slice none 0 0] 136)
 obtain⟨W0,hW0⟩:∃q_,(((w.alloc (.cells #[.slice a r.rules.length ca,.slice b r.zones.length cb,.slice c r.links.length cc] 56)).alloc (.cells #[.string ⟨#[]⟩,.slice none 0 0] 136)))=q_:=⟨_,rfl⟩
 rw[hW0]at hB0
 have x0:W0.cell? ⟨w.heap.size,0,none⟩=some (.slice a r.rules.length ca):=by rw[<- hW0];simp[go_sem]
 have y0:W0.cell? ⟨w.heap.size,1,none⟩=some (.slice b r.zones.length cb):=by rw[<- hW0];simp[go_sem]
 have z0:W0.cell? ⟨w.heap.size,2,none⟩=some (.slice c r.links.length cc):=by rw[<- hW0];simp[go_sem]
 have r0:W0.cell? ⟨w.heap.size+1,0,none⟩=some (.string ⟨#[]⟩):=by rw[<- hW0];simp[go_sem]
 have s0:W0.cell? ⟨w.heap.size+1,1,none⟩=some (.slice none 0 0):=by rw[<- hW0];simp[go_sem]
 have f0:W0.frozen? ⟨w.heap.size+1,0,none⟩=false:=by rw[<- hW0];simp[go_sem]
 have g0:W0.frozen? ⟨w.heap.size+1,1,none⟩=false:=by rw[<- hW0];simp[go_sem]
 cases hrb:relB r
 ·rw[jzw hrb]
  rw[hrb]at hI
  clear hrb
  go_enter Tryz.func126,Tryz.ntmps126
  go_wp2_with fail
  refine(hI _ (hEnv.of_below hB0) (hv.below hB0)).mono ?_
  rintro e w1 ⟨rfl,hb1⟩
  have hB1:=qtr hB0 hb1
  have y1:=qce hb1 y0 y0
  have z1:=qce hb1 z0 z0
  have r1:=qce hb1 r0 r0
  have s1:=qce hb1 s0 s0
  have f1:=qfz hb1 r0 f0
  have g1:=qfz hb1 s0 g0
  clear hb1
  obtain⟨t0,t1⟩:=jpo (v0:=.string ⟨#[]⟩) (v1:=.slice none 0 0) r1 s1
  go_wp2
  exact bodyPost_ret (v:=.agg #[.string ⟨#[]⟩,.slice none 0 0]) (by simp[results,Tryz.results126,go_sem,t0,t1]) rfl ⟨.slice none 0 0,rfl,jir _ _,(hB1.setCell (show w.heap.size<=w.heap.size+1 by omega) _).setCell (show w.heap.size<=w.heap.size+1 by omega) _⟩
 have hr:=hid hrb
 rw[hrb]at hI
 clear hrb
 go_enter Tryz.func126,Tryz.ntmps126
 go_wp2_with fail
 refine(hI _ (hEnv.of_below hB0) (hv.below hB0)).mono ?_
 rintro e w1 ⟨rfl,hb1⟩
 have hB1:=qtr hB0 hb1
 have y1:=qce hb1 y0 y0
 have z1:=qce hb1 z0 z0
 have r1:=qce hb1 r0 r0
 have s1:=qce hb1 s0 s0
 have f1:=qfz hb1 r0 f0
 have g1:=qfz hb1 s0 g0
 clear hb1 hI x0 y0 z0 r0 s0 f0 g0
 go_upto_if 11 with fail
 go_cut [11]from 12 to 12 (fun s wx=>s=.bool false/\wx=w1)
 case first=>
  go_wp2
  go_meet
  exact⟨rfl,rfl⟩
 obtain⟨rfl,hwc⟩:=hcut
 have hwc:=hwc.symm
 subst hwc
 go_step
 go_step
 go_cut [1,6]from 13 to 26 (fun s1 _ wx=>s1=.string (jc4 r.links nm)/\Hid (Below w1.heap.size w1 wx))
 case first=>
  go_wp2
  go_loopw [1,16] (fun s i wr=>∃k:Nat,k<=r.links.length/\s=.string nm/\i=.int .i64 k/\Hid (∀j,j<k->∀y,r.links[j]? =some y->(y.name.toList==nm.toList)=false)/\Below w1.heap.size w1 wr) (fun _ i _=>r.links.length-(intOf i).toNat)
  case atStart=>exact⟨0,by omega,rfl,rfl,fun j hj=>by omega,Below.refl _ _⟩
  case round=>
   obtain⟨k,hk,rfl,rfl,hall,hb2⟩:=hrel
   have hBw:=qtr hB1 hb2
   by_cases hlt:k<r.links.length
   ·obtain⟨x,hx⟩:=qgg hlt
    obtain⟨b',o,rfl,hc⟩:=(hAl.below hBw).at (i:=k) (r:=x.cs) (by rw[List.getElem?_map,hx];rfl)
    have c0:wr.cell? ⟨b',o+k*2,none⟩=some (.string x.to_):=hc 0 _ rfl
    have c1:=hc 1 _ rfl
    clear hc
    have hbl:Below wr.heap.size wr (wr.alloc (.cells #[.string x.to_,.string x.name] 140)):=qal wr _
    have hb2':=qtr hb2 hbl
    cases hb:(x.name.toList==nm.toList)
    ·have HR:Hid (∀j,j<k+1->∀y,r.links[j]? =some y->(y.name.toList==nm.toList)=false):=fun j hj y hy=>by
      by_cases e:j=k
      ·subst e;rw[hx]at hy;obtain rfl:=Option.some.inj hy;exact hb
      ·exact hall.out j (by omega) y hy
     go_wp2
     go_roundw
     case rel=>exact⟨k+1,by omega,rfl,by go_num,HR,hb2'⟩
     case measure=>simp[intOf];omega
    ·have HL:Hid (jc4 r.links nm=x.to_):=j1f hx hb hall.out
     clear hall y1 z1 r1 s1 f1 g1
     go_wp2
     go_meet
     exact⟨by rw[HL.out],hb2'⟩
   ·have e:k=r.links.length:=by omega
    subst e
    have HL:Hid (jc4 r.links nm=nm):=jxk hall.out
    clear hall y1 z1 r1 s1 f1 g1 hBw
    go_wp2
    go_meet
    exact⟨by rw[HL.out],hb2⟩
 obtain⟨rfl,hb2⟩:=hcut
 obtain⟨C,hC⟩:∃x:World,x=wc:=⟨_,rfl⟩
 subst hC
 have hb2:=hb2.out
 have hBC:=qtr hB1 hb2
 have y2:=qce hb2 y1 y1
 have z2:=qce hb2 z1 z1
 have r2:=qce hb2 r1 r1
 have s2:=qce hb2 s1 s1
 have f2:=qfz hb2 r1 f1
 have g2:=qfz hb2 s1 g1
 clear y1 z1 r1 s1 f1 g1 hb2
 generalize hlk:jc4 r.links nm=lk at *
 have HL:=hid hlk
 clear hlk
 go_wp2
 go_loopw [30] (fun i wr=>∃k:Nat,k<=r.zones.length/\i=.int .i64 k/\Hid (∀j,j<k->∀y,r.zones[j]? =some y->(y.name.toList==lk.toList)=false)/\Below C.heap.size C wr) (fun i _=>r.zones.length-(intOf i).toNat)
 case atStart=>exact⟨0,by omega,rfl,fun j hj=>by omega,Below.refl _ _⟩
 case round=>
  obtain⟨k,hk,rfl,hall,hb3⟩:=hrel
  have hB3:=qtr hBC hb3
  have y3:=qce hb3 y2 y2
  have z3:=qce hb3 z2 z2
  have r3:=qce hb3 r2 r2
  have s3:=qce hb3 s2 s2
  have f3:=qfz hb3 r2 f2
  have g3:=qfz hb3 s2 g2
  by_cases hlt2:k<r.zones.length
  ·obtain⟨z,hz⟩:=qgg hlt2
   have hzok:=jgn hr.out (List.mem_of_getElem? hz)
   have hel:=m4 z (List.mem_of_getElem? hz)
   obtain⟨b',o,rfl,c0,u,c1,hu⟩:=(hAz.below hB3).at hz
   obtain⟨ae,ce,rfl,hE⟩:=hu
   obtain⟨e0,he0⟩:∃e,z.eras[0]? =some e:=⟨_,List.getElem?_eq_getElem hzok.1⟩
   obtain⟨be,oe,rfl,_⟩:=hE.at (i:=0) (r:=e0.cs) (by rw[List.getElem?_map,he0];rfl)
   clear he0
   have hb4:Below wr.heap.size wr (wr.alloc (.cells #[.string z.name,.slice (some ⟨be,oe,none⟩) z.eras.length ce] 136)):=qal wr _
   cases hb:(z.name.toList==lk.toList)
   ·have HR:Hid (∀j,j<k+1->∀y,r.zones[j]? =some y->(y.name.toList==lk.toList)=false):=fun j hj y hy=>by
     by_cases e:j=k
     ·subst e;rw[hz]at hy;obtain rfl:=Option.some.inj hy;exact hb
     ·exact hall.out j (by omega) y hy
    go_wp2
    go_roundw
    case rel=>exact⟨k+1,by omega,by go_num,HR,(qtr hb3 hb4)⟩
    case measure=>simp[intOf];omega
   ·have HZ:Hid (jat r nm=z):=jgj hr.out (by rw[HL.out];exact jzv hz hb hall.out) hz
    have hB4:=qtr hB3 hb4
    have y4:=qce hb4 y3 y3
    have z4:=qce hb4 z3 z3
    have r4:=qce hb4 r3 r3
    have s4:=qce hb4 s3 s3
    have f4:=qfz hb4 r3 f3
    have g4:=qfz hb4 s3 g3
    have hD:Below (wr.alloc (.cells #[.string z.name,.slice (some ⟨be,oe,none⟩) z.eras.length ce] 136)).heap.size (wr.alloc (.cells #[.string z.name,.slice (some ⟨be,oe,none⟩) z.eras.length ce] 136)) (wr.alloc (.cells #[.string z.name,.slice (some ⟨be,oe,none⟩) z.eras.length ce] 136)).drew:=⟨rfl,rfl,rfl,Nat.le_refl _,fun _ _=>rfl⟩
    have hBD:=qtr hB4 hD
    obtain⟨k0,k1⟩:(fun zq:World=>zq.cell? ⟨wr.heap.size,0,none⟩=some (.string z.name)/\zq.cell? ⟨wr.heap.size,1,none⟩=some (.slice (some ⟨be,oe,none⟩) z.eras.length ce)) ((wr.alloc (.cells #[.string z.name,.slice (some ⟨be,oe,none⟩) z.eras.length ce] 136)).drew):=by simp[go_sem]
    have r5:(wr.alloc (.cells #[.string z.name,.slice (some ⟨be,oe,none⟩) z.eras.length ce] 136)).drew.cell? ⟨w.heap.size+1,0,none⟩=some (.string ⟨#[]⟩):=r4
    have s5:(wr.alloc (.cells #[.string z.name,.slice (some ⟨be,oe,none⟩) z.eras.length ce] 136)).drew.cell? ⟨w.heap.size+1,1,none⟩=some (.slice none 0 0):=s4
    have f5:(wr.alloc (.cells #[.string z.name,.slice (some ⟨be,oe,none⟩) z.eras.length ce] 136)).drew.frozen? ⟨w.heap.size+1,0,none⟩=false:=f4
    have g5:(wr.alloc (.cells #[.string z.name,.slice (some ⟨be,oe,none⟩) z.eras.length ce] 136)).drew.frozen? ⟨w.heap.size+1,1,none⟩=false:=g4
    have hK:=jkq z.eras be oe ce (wr.alloc (.cells #[.string z.name,.slice (some ⟨be,oe,none⟩) z.eras.length ce] 136)).drew ((hE.below hb4).below hD) hzok.1 hel
    have hsz:w.heap.size+1<wr.heap.size:=qbl r3
    have hszD:(wr.alloc (.cells #[.string z.name,.slice (some ⟨be,oe,none⟩) z.eras.length ce] 136)).drew.heap.size=wr.heap.size+1:=by show(wr.alloc (.cells #[.string z.name,.slice (some ⟨be,oe,none⟩) z.eras.length ce] 136)).heap.size=_;simp
    have hne:w.heap.size+1≠wr.heap.size:=by omega
    have hne2:wr.heap.size≠w.heap.size+1:=by omega
    clear hE hall hb3 hB3 hB4 hb4
    go_wp2_with fail
    go_region_held3 (fun w'=>w'.cell? ⟨wr.heap.size,0,none⟩=some (.string z.name)/\w'.cell? ⟨wr.heap.size,1,none⟩=some (.slice (some ⟨be,oe,none⟩) z.eras.length ce)) (go_keep) (first|(go_at_call 85;refine hK.mono ?_;rintro e w6 ⟨g,cap,rfl,hg,hOE,hb6⟩;have p0:=qce hb6 k0 k0;have p1:=qce hb6 k1 k1;have r6:=qce hb6 r5 r5;have s6:=qce hb6 s5 s5;have f6:=qfz hb6 r5 f5;have g6:=qfz hb6 s5 g5;have hB6:=qtr hBD hb6))
    obtain⟨t0,t1⟩:=jpo (v0:=.string z.name) (v1:=.slice (some ⟨g,0,none⟩) z.eras.length cap) r6 s6
    have hEnd:=(hOE.set (p:=w.heap.size+1) (i:=0) (by omega) (.string z.name)).set (p:=w.heap.size+1) (i:=1) (by omega) (.slice (some ⟨g,0,none⟩) z.eras.length cap)
    go_wp2
    exact bodyPost_ret (v:=.agg #[.string z.name,.slice (some ⟨g,0,none⟩) z.eras.length cap]) (by simp[results,Tryz.results126,go_sem,t0,t1]) rfl ⟨.slice (some ⟨g,0,none⟩) z.eras.length cap,by rw[HZ.out],by rw[HZ.out];exact hEnd.mono (by omega),(hB6.setCell (show w.heap.size<=w.heap.size+1 by omega) _).setCell (show w.heap.size<=w.heap.size+1 by omega) _⟩
  ·have e:k=r.zones.length:=by omega
   subst e
   have HZ:Hid (jat r nm=zeroZ):=jgk (by rw[HL.out];exact ju2 hall.out)
   obtain⟨t0,t1⟩:=jpo (v0:=.string ⟨#[]⟩) (v1:=.slice none 0 0) r3 s3
   go_wp2
   exact bodyPost_ret (v:=.agg #[.string ⟨#[]⟩,.slice none 0 0]) (by simp[results,Tryz.results126,go_sem,t0,t1]) rfl ⟨.slice none 0 0,by rw[HZ.out];rfl,by rw[HZ.out];exact jir _ _,(hB3.setCell (show w.heap.size<=w.heap.size+1 by omega) _).setCell (show w.heap.size<=w.heap.size+1 by omega) _⟩
end
end Go.Proofs.YtofdpfpdocpbpaaGreatDoor
