import Derived.Test.YtpejeokacilebaaGreatDoorSAd
import Derived.Test.YtpejeokacilebaaGreatDoorZonePd
set_option maxRecDepth 100000
set_option maxHeartbeats 0
set_option linter.unusedSimpArgs false
open Go.RowKit
namespace Go.Proofs.YtpejeokacilebaaGreatDoor
structure StoreD where
 tx:Int
 now:RelD
 was:RelD
 cur:Int
 vs:List VersionD
 ix:List EntryD
structure Jk(r:RelD):Prop where
 ok:r.ok
 sm:r.small
 on:∀x∈r.rules,x.on.size<=1048576
structure Jd(w:World)(v:Value)(s:StoreD):Prop where
 form:∃a b c d e f va ia ca cb cc cd ce cf cv ci,v=.agg #[iv s.tx,.slice a s.now.rules.length ca,.slice b s.now.zones.length cb,.slice c s.now.links.length cc,.slice d s.was.rules.length cd,.slice e s.was.zones.length ce,.slice f s.was.links.length cf,iv s.cur,.slice va s.vs.length cv,.slice ia s.ix.length ci]/\Zd w (.agg #[.slice a s.now.rules.length ca,.slice b s.now.zones.length cb,.slice c s.now.links.length cc]) s.now/\Zd w (.agg #[.slice d s.was.rules.length cd,.slice e s.was.zones.length ce,.slice f s.was.links.length cf]) s.was/\Za w va 8 (s.vs.map VersionD.cs)/\Za w ia 2 (s.ix.map EntryD.cs)/\s.vs.length<=cv/\s.ix.length<=ci
theorem Jd.below{w w':World}{v:Value}{s:StoreD}(h:Jd w v s)(hb:Bw w w'):Jd w' v s:=by
 obtain⟨a,b,c,d,e,f,va,ia,ca,cb,cc,cd,ce,cf,cv,ci,hv,h1,h2,h3,h4,h5,h6⟩:=h.form
 exact⟨a,b,c,d,e,f,va,ia,ca,cb,cc,cd,ce,cf,cv,ci,hv,h1.below hb,h2.below hb,h3.below hb,h4.below hb,h5,h6⟩
structure Zr(s:StoreD):Prop where
 now:Jk s.now
 was:Jk s.was
 vs:∀v∈s.vs,v.ok
 vl:s.vs.length<=1048576
 xl:s.ix.length<=1048576
def inR(r:RelD)(nm:ByteArray):Bool:=(jbg r.zones (jba r.links nm)).isSome
theorem jwq(r:RelD)(nm:ByteArray):decide ((0:Int)<=ixI (jbg r.zones (jba r.links nm)))=inR r nm:=by
 unfold inR
 cases jbg r.zones (jba r.links nm)with
 |none=>rfl
 |some i=>simp[ixI]
theorem jzu{r:RelD}{nm:ByteArray}(h:relB r=true):inR r nm=decide (1<=(jao r nm).name.size):=by
 unfold inR
 cases hx:jbg r.zones (jba r.links nm)with
 |none=>rw[jc5 hx];rfl
 |some i=>
  have hi:i<r.zones.length:=by unfold jbg at hx;exact(List.findIdx?_eq_some_iff_getElem.mp hx).1
  have hz:r.zones[i]? =some r.zones[i]:=lgg hi
  rw[jcr h hx hz]
  have:=(jf8 (jc9 h (List.getElem_mem hi)).2).1
  simp;omega
def jl1(r:RelD):Bool:=decide (r.rules.length=0)&&(decide (r.zones.length=0)&&decide (r.links.length=0))
def jdv(s:StoreD)(nm:ByteArray):Bool:=inR s.now nm&&(decide (s.cur=0) || inR s.was nm)
theorem jh4(r:RelD)(v:Value)(w:World)(hv:Zd w v r)(sm:r.small):
  Cl 15 #[v] w fun e w'=>e=.returned (.bool (jl1 r))/\Bw w w':=by
 obtain⟨a,b,c,ca,cb,cc,rfl,_,_,_⟩:=hv.form
 obtain⟨m1,m2,m3,_⟩:=sm
 have ag:=qal w (.cells #[.slice a r.rules.length ca,.slice b r.zones.length cb,.slice c r.links.length cc] 37)
 unfold jl1
 generalize r.rules.length=x at *
 generalize r.zones.length=y at *
 generalize r.links.length=z at *
 clear hv
 by_cases h1:x=0
 ·subst h1
  by_cases h2:y=0
  ·subst h2
   by_cases h3:z=0
   ·subst h3
    unfold Cl;go_in
    go_wp2
    go_ret
    exact⟨rfl,ag⟩
   ·rw[dfe h3]
    have h4:((z:Int)==0)=false:=by simp;omega
    unfold Cl;go_in
    go_wp2
    go_ret
    exact⟨rfl,ag⟩
  ·rw[dfe h2]
   have h4:¬(y:Int)=0:=by omega
   unfold Cl;go_in
   go_wp2
   go_ret
   exact⟨rfl,ag⟩
 ·rw[dfe h1]
  have h4:¬(x:Int)=0:=by omega
  unfold Cl;go_in
  go_wp2
  go_ret
  exact⟨rfl,ag⟩
theorem jm4(s:StoreD)(v:Value)(nm:ByteArray)(w:World)(hv:Jd w v s)(ok:Zr s):
  Cl 17 #[v,.string nm] w fun e w'=>e=.returned (.bool (jdv s nm))/\Bw w w':=by
 obtain⟨a,b,c,d,e,f,va,ia,ca,cb,cc,cd,ce,cf,cv,ci,rfl,hN,hW,_,_,_,_⟩:=hv.form
 have ag:=qal w (.cells #[iv s.tx,.slice a s.now.rules.length ca,.slice b s.now.zones.length cb,.slice c s.now.links.length cc,.slice d s.was.rules.length cd,.slice e s.was.zones.length ce,.slice f s.was.links.length cf,iv s.cur,.slice va s.vs.length cv,.slice ia s.ix.length ci] 41)
 have hF:=fun w h=>jd2 s.now (.agg #[.slice a s.now.rules.length ca,.slice b s.now.zones.length cb,.slice c s.now.links.length cc]) nm w h ok.now.sm
 have hG:=fun w h=>jd2 s.was (.agg #[.slice d s.was.rules.length cd,.slice e s.was.zones.length ce,.slice f s.was.links.length cf]) nm w h ok.was.sm
 have h1:=jwq s.now nm
 have h2:=jwq s.was nm
 unfold jdv
 have fU:=hN.below ag
 have j6:=hW.below ag
 clear hv ok hN hW
 generalize ixI (jbg s.now.zones (jba s.now.links nm))=x at *
 generalize ixI (jbg s.was.zones (jba s.was.links nm))=y at *
 generalize inR s.now nm=p at *
 generalize inR s.was nm=q at *
 obtain⟨tx,now,was,cur,vs,ix⟩:=s
 dsimp only at *
 by_cases e1:(0:Int)<=x
 ·rw[dte e1]at h1
  subst h1
  by_cases e2:cur=0
  ·subst e2
   unfold Cl;go_in
   go_wp2_with fail
   refine(hF _ fU).mono ?_
   rintro e w1 ⟨rfl,hb1⟩
   have x7:w1.cell? (ad w.heap.size 7)=some (iv 0):=jaa hb1 (by simp[go_sem])
   go_wp2
   go_ret
   exact⟨rfl,ag.trans (hb1.mono (by simp))⟩
  ·rw[dfe e2]
   unfold Cl;go_in
   go_wp2_with fail
   refine(hF _ fU).mono ?_
   rintro Ot w1 ⟨rfl,hb1⟩
   have x7:w1.cell? (ad w.heap.size 7)=some (iv cur):=jaa hb1 (by simp[go_sem])
   have x4:w1.cell? (ad w.heap.size 4)=some (.slice d was.rules.length cd):=jaa hb1 (by simp[go_sem])
   have x5:w1.cell? (ad w.heap.size 5)=some (.slice e was.zones.length ce):=jaa hb1 (by simp[go_sem])
   have x6:w1.cell? (ad w.heap.size 6)=some (.slice f was.links.length cf):=jaa hb1 (by simp[go_sem])
   have j7:=j6.below hb1
   have aj:=ag.trans (hb1.mono (by simp))
   clear ag hb1 j6 fU
   go_wp2_with fail
   refine(hG _ j7).mono ?_
   rintro e w2 ⟨rfl,ac⟩
   have an:=qtr aj ac
   by_cases e3:(0:Int)<=y
   ·rw[dte e3]at h2
    subst h2
    go_wp2
    go_ret
    exact⟨ret_bool (by simp[e2,e3]),an⟩
   ·rw[dfe e3]at h2
    subst h2
    go_wp2
    go_ret
    exact⟨ret_bool (by simp[e2,e3]),an⟩
 ·rw[dfe e1]at h1
  subst h1
  unfold Cl;go_in
  go_wp2_with fail
  refine(hF _ fU).mono ?_
  rintro e w1 ⟨rfl,hb1⟩
  go_wp2
  go_ret
  exact⟨rfl,ag.trans (hb1.mono (by simp))⟩
theorem jqk(r:RelD)(v:Value)(nm:ByteArray)(w:World)(cg:Zx w)(hv:Zd w v r)(ok:Jk r)(hr:relB r=true):
  Cl 108 #[v,.string nm] w fun e w'=>e=.returned (.bool (inR r nm))/\Bw w w':=by
 obtain⟨a,b,c,ca,cb,cc,jH,_,_,_⟩:=hv.form
 have ag:=qal w (.cells #[.slice a r.rules.length ca,.slice b r.zones.length cb,.slice c r.links.length cc] 37)
 have hZ:=fun w hE h=>jfe r v nm w hE h ok.ok ok.sm ok.on
 rw[jzu hr]
 have dQ:=hv.below ag
 have eu:=cg.of_below ag
 generalize (jao r nm).name=zn at *
 subst jH
 clear hv ok
 by_cases h1:1<=zn.size
 ·rw[dte h1]
  have h2:¬zn.toList=[]:=fun h=>by rw[<- List.length_eq_zero_iff,jh9]at h;omega
  have h3:zn.toList.isEmpty=false:=by simp[h2]
  unfold Cl;go_in
  go_wp2_with fail
  refine(hZ _ eu dQ).mono ?_
  rintro e w1 ⟨v',rfl,_,hb1⟩
  have qA:∀w:World,(Instr.field 81 (.agg #[.string zn,v']) 0).run Tryz.prog w=.ok (.string zn) w:=fun _=>by kernel_rfl
  go_wp2
  go_ret
  exact⟨rfl,ag.trans (hb1.mono (by simp))⟩
 ·rw[dfe h1]
  have h2:zn.toList=[]:=by rw[<- List.length_eq_zero_iff,jh9];omega
  unfold Cl;go_in
  go_wp2_with fail
  refine(hZ _ eu dQ).mono ?_
  rintro e w1 ⟨v',rfl,_,hb1⟩
  have qA:∀w:World,(Instr.field 81 (.agg #[.string zn,v']) 0).run Tryz.prog w=.ok (.string zn) w:=fun _=>by kernel_rfl
  go_wp2
  go_ret
  exact⟨rfl,ag.trans (hb1.mono (by simp))⟩
def frmB(s:StoreD):Bool:=decide (0<=s.tx)&&(decide (s.tx<=900000)&&(decide (0<=s.cur)&&(decide (s.cur<=1000001)&&(!decide (s.cur=0) || jl1 s.was))))
def jk5(s:StoreD):Bool:=frmB s&&(relB s.now&&relB s.was)
theorem frm_1{s:StoreD}(h:s.tx<0):frmB s=false:=by unfold frmB;rw[dfe (by omega)];rfl
theorem frm_2{s:StoreD}(h:900000<s.tx):frmB s=false:=by unfold frmB;rw[dfe (p:=s.tx<=900000) (by omega)];simp
theorem frm_3{s:StoreD}(h:s.cur<0):frmB s=false:=by unfold frmB;rw[dfe (p:=0<=s.cur) (by omega)];simp
theorem frm_4{s:StoreD}(h:1000001<s.cur):frmB s=false:=by unfold frmB;rw[dfe (p:=s.cur<=1000001) (by omega)];simp
theorem frm_5{s:StoreD}(h:s.cur=0)(hn:jl1 s.was=false):frmB s=false:=by unfold frmB;rw[dte h,hn];simp
theorem frm_6{s:StoreD}(h1:0<=s.tx)(h2:s.tx<=900000)(h3:0<=s.cur)(h4:s.cur<=1000001)(h5:s.cur=0->jl1 s.was=true):frmB s=true:=by
 unfold frmB
 rw[dte h1,dte h2,dte h3,dte h4]
 by_cases h:s.cur=0
 ·rw[h5 h];simp
 ·rw[dfe h];rfl
theorem jrj(r:RelD):jl1 r=decide (¬0<((r.rules.length:Int)+r.zones.length)+r.links.length):=by
 unfold jl1
 by_cases h:0<((r.rules.length:Int)+r.zones.length)+r.links.length
 ·rw[dfe (p:=¬_) (by simp[h])]
  by_cases h1:r.rules.length=0
  ·by_cases h2:r.zones.length=0
   ·rw[dfe (p:=r.links.length=0) (by omega)];simp
   ·rw[dfe h2];simp
  ·rw[dfe h1];rfl
 ·rw[dte (p:=¬_) h,dte (p:=r.rules.length=0) (by omega),dte (p:=r.zones.length=0) (by omega),dte (p:=r.links.length=0) (by omega)];rfl
theorem jjc(s:StoreD)(v:Value)(w:World)(hE:Zx w)(hv:Jd w v s)(ok:Zr s):
  Cl 44 #[v] w fun e w'=>e=.returned (.bool (jk5 s))/\Bw w w':=by
 obtain⟨a,b,c,d,e,f,va,ia,ca,cb,cc,cd,ce,cf,cv,ci,rfl,hN,hW,_,_,_,_⟩:=hv.form
 have ag:=qal w (.cells #[iv s.tx,.slice a s.now.rules.length ca,.slice b s.now.zones.length cb,.slice c s.now.links.length cc,.slice d s.was.rules.length cd,.slice e s.was.zones.length ce,.slice f s.was.links.length cf,iv s.cur,.slice va s.vs.length cv,.slice ia s.ix.length ci] 41)
 have hF:=fun w hE h=>jbr s.now (.agg #[.slice a s.now.rules.length ca,.slice b s.now.zones.length cb,.slice c s.now.links.length cc]) w hE h ok.now.ok ok.now.sm ok.now.on
 have hG:=fun w hE h=>jbr s.was (.agg #[.slice d s.was.rules.length cd,.slice e s.was.zones.length ce,.slice f s.was.links.length cf]) w hE h ok.was.ok ok.was.sm ok.was.on
 obtain⟨m1,m2,m3,_⟩:=ok.was.sm
 have fU:=hN.below ag
 have j6:=hW.below ag
 have eu:=hE.of_below ag
 have H1:Hid (s.tx<0->frmB s=false):=frm_1
 have H2:Hid (900000<s.tx->frmB s=false):=frm_2
 have H3:Hid (s.cur<0->frmB s=false):=frm_3
 have H4:Hid (1000001<s.cur->frmB s=false):=frm_4
 have H5:Hid (s.cur=0->0<((s.was.rules.length:Int)+s.was.zones.length)+s.was.links.length->frmB s=false):=fun h h2=>frm_5 h (by rw[jrj];exact dfe (by omega))
 have H6:Hid (0<=s.tx->s.tx<=900000->0<=s.cur->s.cur<=1000001->(s.cur=0->¬0<((s.was.rules.length:Int)+s.was.zones.length)+s.was.links.length)->frmB s=true):=fun h1 h2 h3 h4 h5=>frm_6 h1 h2 h3 h4 fun h=>by rw[jrj];exact dte (h5 h)
 unfold jk5
 clear hv ok hN hW hE
 generalize frmB s=fb at *
 generalize relB s.now=nb at *
 generalize relB s.was=wb at *
 obtain⟨tx,now,was,cur,vs,ix⟩:=s
 dsimp only at *
 generalize was.rules.length=x at *
 generalize was.zones.length=y at *
 generalize was.links.length=z at *
 by_cases e1:tx<0
 ·obtain rfl:fb=false:=H1.out e1
  clear H1 H2 H3 H4 H5 H6
  unfold Cl;go_in
  go_wp2
  go_ret
  exact⟨rfl,ag⟩
 by_cases e2:900000<tx
 ·obtain rfl:fb=false:=H2.out e2
  clear H1 H2 H3 H4 H5 H6
  unfold Cl;go_in
  go_wp2
  go_ret
  exact⟨rfl,ag⟩
 by_cases e3:cur<0
 ·obtain rfl:fb=false:=H3.out e3
  clear H1 H2 H3 H4 H5 H6
  unfold Cl;go_in
  go_wp2
  go_ret
  exact⟨rfl,ag⟩
 by_cases e4:1000001<cur
 ·obtain rfl:fb=false:=H4.out e4
  clear H1 H2 H3 H4 H5 H6
  unfold Cl;go_in
  go_wp2
  go_ret
  exact⟨rfl,ag⟩
 by_cases e5:cur=0
 ·subst e5
  by_cases e6:0<((x:Int)+y)+z
  ·obtain rfl:fb=false:=H5.out rfl e6
   clear H1 H2 H3 H4 H5 H6
   unfold Cl;go_in
   go_wp2
   go_ret
   exact⟨rfl,ag⟩
  obtain rfl:fb=true:=H6.out (by omega) (by omega) (by omega) (by omega) fun _=>e6
  clear H1 H2 H3 H4 H5 H6
  unfold Cl;go_in
  go_wp2_with fail
  refine(hF _ eu fU).mono ?_
  rintro e' w1 ⟨rfl,hb1⟩
  have x4:w1.cell? (ad w.heap.size 4)=some (.slice d x cd):=jaa hb1 (by simp[go_sem])
  have x5:w1.cell? (ad w.heap.size 5)=some (.slice e y ce):=jaa hb1 (by simp[go_sem])
  have x6:w1.cell? (ad w.heap.size 6)=some (.slice f z cf):=jaa hb1 (by simp[go_sem])
  have j7:=j6.below hb1
  have jx:=eu.of_below hb1
  have aj:=ag.trans (hb1.mono (by simp))
  clear ag hb1 j6 fU eu
  cases nb
  ·go_wp2
   go_ret
   exact⟨rfl,aj⟩
  go_wp2_with fail
  refine(hG _ jx j7).mono ?_
  rintro e' w2 ⟨rfl,ac⟩
  have an:=qtr aj ac
  go_wp2
  go_ret
  exact⟨ret_bool (by simp),an⟩
 ·have e7:(cur==0)=false:=by simp[e5]
  obtain rfl:fb=true:=H6.out (by omega) (by omega) (by omega) (by omega) fun h=>absurd h e5
  clear H1 H2 H3 H4 H5 H6
  unfold Cl;go_in
  go_wp2_with fail
  refine(hF _ eu fU).mono ?_
  rintro e' w1 ⟨rfl,hb1⟩
  have x4:w1.cell? (ad w.heap.size 4)=some (.slice d x cd):=jaa hb1 (by simp[go_sem])
  have x5:w1.cell? (ad w.heap.size 5)=some (.slice e y ce):=jaa hb1 (by simp[go_sem])
  have x6:w1.cell? (ad w.heap.size 6)=some (.slice f z cf):=jaa hb1 (by simp[go_sem])
  have j7:=j6.below hb1
  have jx:=eu.of_below hb1
  have aj:=ag.trans (hb1.mono (by simp))
  clear ag hb1 j6 fU eu
  cases nb
  ·go_wp2
   go_ret
   exact⟨rfl,aj⟩
  go_wp2_with fail
  refine(hG _ jx j7).mono ?_
  rintro e' w2 ⟨rfl,ac⟩
  have an:=qtr aj ac
  go_wp2
  go_ret
  exact⟨ret_bool (by simp),an⟩
def cmpI(x y:Int):Int:=if x<y then -1 else if y<x then 1 else 0
theorem jo8(x:Int)(w:World):Cl 151 #[iv x] w fun e w'=>e=.returned (.bool false)/\w'=w:=by
 unfold Cl;go_in
 go_wp2
 go_ret
 exact⟨by simp,rfl⟩
theorem jq5(x y:Int)(w:World):Cl 116 #[iv x,iv y] w fun e w'=>e=.returned (iv (cmpI x y))/\w'=w:=by
 have h1:=jo8 x w
 have h2:=jo8 y w
 by_cases e1:x<y
 ·have HR:Hid (cmpI x y= -1):=by simp only[Hid,cmpI];rw[if_pos e1]
  unfold Cl;go_in
  go_wp2_with fail
  refine h1.mono ?_
  rintro e w1 ⟨rfl,rfl⟩
  go_wp2_with fail
  refine h2.mono ?_
  rintro e w1 ⟨rfl,rfl⟩
  go_wp2
  go_ret
  exact⟨by rw[HR.out];rfl,rfl⟩
 ·by_cases e2:y<x
  ·have HR:Hid (cmpI x y=1):=by simp only[Hid,cmpI];rw[if_neg e1,if_pos e2]
   unfold Cl;go_in
   go_wp2_with fail
   refine h1.mono ?_
   rintro e w1 ⟨rfl,rfl⟩
   go_wp2_with fail
   refine h2.mono ?_
   rintro e w1 ⟨rfl,rfl⟩
   go_wp2
   go_ret
   exact⟨by rw[HR.out];rfl,rfl⟩
  ·have HR:Hid (cmpI x y=0):=by simp only[Hid,cmpI];rw[if_neg e1,if_neg e2]
   unfold Cl;go_in
   go_wp2_with fail
   refine h1.mono ?_
   rintro e w1 ⟨rfl,rfl⟩
   go_wp2_with fail
   refine h2.mono ?_
   rintro e w1 ⟨rfl,rfl⟩
   go_wp2
   go_ret
   exact⟨by rw[HR.out];rfl,rfl⟩
def orI(x y:Int):Int:=if x=0 then y else x
theorem j2s(g:Nat)(x y:Int)(w:World)(c0:w.cell? (ad g 0)=some (iv x))(c1:w.cell? (ad g 1)=some (iv y)):Cl 115 #[so g 2 2] w fun e w'=>e=.returned (iv (orI x y))/\w'=w:=by
 unfold Cl;go_in
 go_wp2
 refine wp_loop_rounds 3 ?_
 rw[rounds_succ]
 by_cases e1:x=0
 ·subst e1
  by_cases e2:y=0
  ·subst e2
   go_wp2
   rw[rounds_succ]
   go_wp2
   rw[rounds_succ]
   go_wp2
   go_ret
   exact⟨rfl,rfl⟩
  ·have e3:(y==0)=false:=by simp[e2]
   go_wp2
   rw[rounds_succ]
   go_wp2
   go_ret
   exact⟨rfl,rfl⟩
 ·have e3:(x==0)=false:=by simp[e1]
  have HR:Hid (orI x y=x):=by simp only[Hid,orI];rw[if_neg e1]
  go_wp2
  go_ret
  exact⟨by rw[HR.out];rfl,rfl⟩
theorem jqv(w:World)(a b o:Obj):((w.alloc a).alloc b).drew.alloc o=Go.Sort.grow (w.drewN 1) #[a,b,o]:=by
 rw[Go.Sort.alloc_eq_grow,Go.Sort.alloc_eq_grow,Go.Sort.alloc_eq_grow,Go.Sort.drew_grow,Go.Sort.drew_grow,Go.Sort.grow_grow,Go.Sort.grow_grow]
 rfl
theorem jq4(x y:EntryD)(w:World):Cl 114 #[x.v,y.v] w fun e w'=>e=.returned (iv (orI (cmpI x.at_ y.at_) (cmpI x.id y.id)))/\∃n os,w'=Go.Sort.grow (w.drewN n) os:=by
 obtain⟨xa,xi⟩:=x
 obtain⟨ya,yi⟩:=y
 simp only[EntryD.v]
 have h1:=fun x y w=>jq5 x y w
 obtain⟨x0,x1,y0,y1⟩:(fun z:World=>z.cell? (ad w.heap.size 0)=some (iv xa)/\z.cell? (ad w.heap.size 1)=some (iv xi)/\z.cell? (ad (w.heap.size+1) 0)=some (iv ya)/\z.cell? (ad (w.heap.size+1) 1)=some (iv yi)) ((w.alloc (.cells #[iv xa,iv xi] 57)).alloc (.cells #[iv ya,iv yi] 57)):=by simp[go_sem]
 have HW:Hid (∀o,∃os,((w.alloc (.cells #[iv xa,iv xi] 57)).alloc (.cells #[iv ya,iv yi] 57)).drew.alloc o=Go.Sort.grow (w.drewN 1) os):=fun o=>⟨#[.cells #[iv xa,iv xi] 57,.cells #[iv ya,iv yi] 57,o],jqv w _ _ o⟩
 unfold Cl;go_in
 go_wp2_with fail
 generalize ((w.alloc (.cells #[iv xa,iv xi] 57)).alloc (.cells #[iv ya,iv yi] 57))=wA at *
 have Qd:wA.drew.cell? (ad w.heap.size 0)=some (iv xa):=x0
 have Qe:wA.drew.cell? (ad w.heap.size 1)=some (iv xi):=x1
 have Qh:wA.drew.cell? (ad (w.heap.size+1) 0)=some (iv ya):=y0
 have Qi:wA.drew.cell? (ad (w.heap.size+1) 1)=some (iv yi):=y1
 have bA:=qal wA (.cells #[iv (cmpI xa ya),iv (cmpI xi yi)] 3)
 have Qf:(wA.alloc (.cells #[iv (cmpI xa ya),iv (cmpI xi yi)] 3)).drew.cell? (ad w.heap.size 0)=some (iv xa):=jaa bA x0
 have Qg:(wA.alloc (.cells #[iv (cmpI xa ya),iv (cmpI xi yi)] 3)).drew.cell? (ad w.heap.size 1)=some (iv xi):=jaa bA x1
 have Qj:(wA.alloc (.cells #[iv (cmpI xa ya),iv (cmpI xi yi)] 3)).drew.cell? (ad (w.heap.size+1) 0)=some (iv ya):=jaa bA y0
 have Qk:(wA.alloc (.cells #[iv (cmpI xa ya),iv (cmpI xi yi)] 3)).drew.cell? (ad (w.heap.size+1) 1)=some (iv yi):=jaa bA y1
 have h2:=j2s wA.heap.size (cmpI xa ya) (cmpI xi yi) (wA.alloc (.cells #[iv (cmpI xa ya),iv (cmpI xi yi)] 3)).drew (by simp[go_sem]) (by simp[go_sem])
 clear bA
 clear x0 x1 y0 y1
 go_region_held3 (fun w'=>w'.cell? (ad w.heap.size 0)=some (iv xa)/\w'.cell? (ad w.heap.size 1)=some (iv xi)/\w'.cell? (ad (w.heap.size+1) 0)=some (iv ya)/\w'.cell? (ad (w.heap.size+1) 1)=some (iv yi)) (go_keep) (first|(go_at_call 116;refine(h1 _ _ _).mono ?_;rintro e w3 ⟨rfl,rfl⟩)|(go_at_call 115;refine h2.mono ?_;rintro e w4 ⟨rfl,rfl⟩)|go_in)
 go_wp2
 go_ret
 obtain⟨os,ho⟩:=HW.out (.cells #[iv (cmpI xa ya),iv (cmpI xi yi)] 3)
 exact⟨rfl,1,os,ho⟩
def eqX(a b:List EntryD):Bool:=(a.map fun x=>(x.at_,x.id))==(b.map fun x=>(x.at_,x.id))
theorem eqX_iff{a b:List EntryD}:eqX a b=true↔a=b:=by
 unfold eqX
 rw[beq_iff_eq]
 constructor
 ·intro h
  refine List.map_inj_right (f:=fun x:EntryD=>(x.at_,x.id)) (fun x y h=>?_) |>.mp h
  cases x;cases y;simp only[Prod.mk.injEq]at h;obtain⟨rfl,rfl⟩:=h;rfl
 ·intro h;rw[h]
theorem jla{a b:List EntryD}(h:a≠b):eqX a b=false:=by
 cases hb:eqX a b
 ·rfl
 ·exact absurd (eqX_iff.mp hb) h
theorem jhc(l m:List EntryD)(a b:Option Addr)(n k ca cb:Nat)(w:World)(hA:Za w a 2 (l.map EntryD.cs))(hB:Za w b 2 (m.map EntryD.cs))(hn:l.length=n)(hk:m.length=k)(hl:n<=1048576)(eY:k<=1048576):
  Cl 50 #[.slice a n ca,.slice b k cb] w fun e w'=>e=.returned (.bool (eqX l m))/\Bw w w':=by
 by_cases Gb:n=k
 ·subst Gb
  have HE:Hid (l.length=n/\m.length=n):=⟨hn,hk⟩
  obtain⟨z,hz⟩:=qeb (eqX l m)
  have HZ:=hid hz
  rw[hz]
  clear hz hn hk
  unfold Cl;go_in
  go_wp2
  go_loopw [13] (fun s wr=>∃i:Nat,i<=n/\s=iv i/\Hid (∀j,j<i->l[j]? =m[j]?)/\Bw w wr) (fun s _=>n-(intOf s).toNat)
  case atStart=>exact⟨0,by omega,rfl,fun j hj=>by omega,brf _ _⟩
  case round=>
   obtain⟨wa,dS⟩:=qea wr
   subst dS
   obtain⟨i,hin,rfl,HK,aK⟩:=hrel
   by_cases hlt:i<n
   ·have a1:(i:Int)<(n:Int):=by omega
    obtain⟨x,hx⟩:∃v,l[i]? =some v:=⟨_,lgg (by have:=HE.out.1;omega)⟩
    obtain⟨y,hy⟩:∃v,m[i]? =some v:=⟨_,lgg (by have:=HE.out.2;omega)⟩
    obtain⟨p,o,rfl,hc⟩:=(hA.below aK).at (i:=i) (r:=x.cs) (by rw[lgm,hx];rfl)
    obtain⟨p2,o2,rfl,hd⟩:=(hB.below aK).at (i:=i) (r:=y.cs) (by rw[lgm,hy];rfl)
    have c0:wa.cell? (ad p (o+i*2))=some (iv x.at_):=hc 0 _ rfl
    have c1:wa.cell? (ad p (o+i*2+1))=some (iv x.id):=hc 1 _ rfl
    have d0:wa.cell? (ad p2 (o2+i*2))=some (iv y.at_):=hd 0 _ rfl
    have d1:wa.cell? (ad p2 (o2+i*2+1))=some (iv y.id):=hd 1 _ rfl
    have HX:Hid (l[i]? =some x/\m[i]? =some y):=⟨hx,hy⟩
    clear hc hd hx hy
    obtain⟨xa,xi⟩:=x
    obtain⟨ya,yi⟩:=y
    dsimp only at *
    by_cases e1:xa=ya
    ·subst e1
     by_cases e2:xi=yi
     ·subst e2
      have HR:Hid (∀j,j<i+1->l[j]? =m[j]?):=fun j hj=>by
       by_cases e:j=i
       ·subst e;rw[HX.out.1,HX.out.2]
       ·exact HK.out j (by omega)
      clear HX HK
      go_wp2_with fail
      go_quiet (fail)
      go_wp2
      go_roundw
      case rel=>exact⟨i+1,by omega,by go_num,HR,below_drewN aK _⟩
      case measure=>simp[intOf];omega
     ·obtain rfl:z=false:=by
       rw[<- HZ.out]
       refine jla fun h=>?_
       have h1:=HX.out.1;rw[h,HX.out.2]at h1
       injection h1 with h1;injection h1 with _ h1;exact e2 h1.symm
      clear HX HK
      go_wp2_with fail
      go_quiet (fail)
      go_wp2
      go_ret
      exact⟨rfl,below_drewN aK _⟩
    ·obtain rfl:z=false:=by
      rw[<- HZ.out]
      refine jla fun h=>?_
      have h1:=HX.out.1;rw[h,HX.out.2]at h1
      injection h1 with h1;injection h1 with h1 _;exact e1 h1.symm
     clear HX HK
     go_wp2_with fail
     go_quiet (fail)
     go_wp2
     go_ret
     exact⟨rfl,below_drewN aK _⟩
   ·obtain rfl:i=n:=by omega
    obtain rfl:z=true:=by
     rw[<- HZ.out,eqX_iff]
     refine List.ext_getElem? fun j=>?_
     by_cases hj:j<i
     ·exact HK.out j hj
     ·rw[List.getElem?_eq_none (by rw[HE.out.1];omega),List.getElem?_eq_none (by rw[HE.out.2];omega)]
    go_wp2
    go_ret
    exact⟨rfl,aK⟩
 ·have h1:¬(n:Int)=(k:Int):=by omega
  rw[jla (fun h=>Gb (by rw[<- hn, <- hk,h]))]
  unfold Cl;go_in
  go_wp2
  go_ret
  exact⟨rfl,brf _ _⟩
section
open Go.RowKit Go.Lib
abbrev CloneP(w:World)(t:TypeId)(q n:Nat)(l:List Value)(e:Ending)(w':World):Prop:=∃v',e=.returned v'/\w'.ownsRow w.heap.size t q v' n l/\Bw w w'
theorem clone_any {F:FuncId} {t:TypeId} {q n c:Nat} {rows:List (List Value)} {a:Option Addr} {w:World} (hq:∀r∈rows,r.length=q) (h1:∀u∈rows.flatten,u.oneCell'=true) (hA:Za w a q rows) (hn:rows.length=n)
  (hm:∀(s:Addr) (l:List Value),Hid (∀j u,l[j]? =some u->w.cell? (s.add j)=some u)->Hid (l.length=n*q)->Hid (∀u∈l,u.oneCell'=true)->Cl F #[.slice (some s) n c] w (CloneP w t q n l)) (h0:Cl F #[.slice none 0 c] w (CloneP w t q 0 [])):Cl F #[.slice a n c] w (CloneP w t q n rows.flatten):=by
 have hL:rows.flatten.length=n*q:=by rw[jbx hq,hn]
 rcases hA with e|⟨b,ob,rfl,hc⟩
 ·subst e
  obtain rfl:n=0:=by rw[<- hn];rfl
  cases a with
  |none=>exact h0
  |some b0=>exact hm b0 _ (fun j u hj=>by simp at hj) hL h1
 ·exact hm _ _ (Za.flat (.inr ⟨b,ob,rfl,hc⟩) hq) hL h1
theorem clone_end{w w1:World}{t:TypeId}{q n:Nat}{l:List Value}{v:Value}(ho:w1.ownsRow w.heap.size t q v n l)(hg:(w.alloc (.cells #[] t)).grownBy w1 (Value.slice (some (ad w.heap.size 0)) 0 0).ownBlock):w1.ownsRow w.heap.size t q v n l/\Bw w w1:=⟨ho,(qal w _).grown hg (by simp) (by intro k hk;simp[Value.ownBlock]at hk;omega)⟩
theorem jmp(rows:List (List Value))(hq:∀r∈rows,r.length=8)(h1:∀u∈rows.flatten,u.oneCell'=true)(a:Option Addr)(n c:Nat)(w:World)(hA:Za w a 8 rows)(hn:rows.length=n)(hl:n<=1048576):Cl 81 #[.slice a n c] w (CloneP w 87 8 n rows.flatten):=by
 obtain⟨i0,hi,aG,aH,aF⟩:=ji0
 have sR:=fun(w:World) (a:Option Addr) (n c n' c':Nat)=>Lib.run_eql_slice_nil w 38 _ a n c n' c' Tryz.underlying38
 refine clone_any hq h1 hA hn (fun s l HC HL H1=>?_) ?_
 ·clear h1 hq hn hA
  unfold Cl;go_in
  go_wp2_with (at_builtin;refine wpList_append_own _ rfl _ _ 38 rfl w.heap.size 87 i0 (.agg #[iv 0,.bool false,iv 0,.string ⟨#[]⟩,.string ⟨#[]⟩,iv 0,iv 0,iv 0]) 8 80 Tryz.underlying38 hi aG aH aF rfl (by decide) _ _ _ rfl (World.ownsRow_made w #[] 0 (nlr _) (Nat.zero_le _) (by simp)) s n c l rfl HL.out ?qc2 H1.out ?qc4 ?qc5 ?qc6 ?_)
  case qc2=>intro j u hj;exact Lib.cell?_alloc_some _ (HC.out j u hj)
  case qc4=>unfold maxLen;omega
  case qc5=>omega
  case qc6=>simp
  intro v' w1 ai af _
  go_wp2
  go_ret
  exact⟨v',rfl,clone_end ai af⟩
 ·unfold Cl;go_in
  go_wp2
  go_ret
  exact⟨_,rfl,World.ownsRow_nil _ _ _ _,brf _ _⟩
theorem jq7(rows:List (List Value))(hq:∀r∈rows,r.length=2)(h1:∀u∈rows.flatten,u.oneCell'=true)(a:Option Addr)(n c:Nat)(w:World)(hA:Za w a 2 rows)(hn:rows.length=n)(hl:n<=1048576):Cl 82 #[.slice a n c] w (CloneP w 57 2 n rows.flatten):=by
 obtain⟨i0,hi,aG,aH,aF⟩:=jft
 have sR:=fun(w:World) (a:Option Addr) (n c n' c':Nat)=>Lib.run_eql_slice_nil w 39 _ a n c n' c' Tryz.underlying39
 refine clone_any hq h1 hA hn (fun s l HC HL H1=>?_) ?_
 ·clear h1 hq hn hA
  unfold Cl;go_in
  go_wp2_with (at_builtin;refine wpList_append_own _ rfl _ _ 39 rfl w.heap.size 57 i0 (.agg #[iv 0,iv 0]) 2 16 Tryz.underlying39 hi aG aH aF rfl (by decide) _ _ _ rfl (World.ownsRow_made w #[] 0 (nlr _) (Nat.zero_le _) (by simp)) s n c l rfl HL.out ?qc2 H1.out ?qc4 ?qc5 ?qc6 ?_)
  case qc2=>intro j u hj;exact Lib.cell?_alloc_some _ (HC.out j u hj)
  case qc4=>unfold maxLen;omega
  case qc5=>omega
  case qc6=>simp
  intro v' w1 ai af _
  go_wp2
  go_ret
  exact⟨v',rfl,clone_end ai af⟩
 ·unfold Cl;go_in
  go_wp2
  go_ret
  exact⟨_,rfl,World.ownsRow_nil _ _ _ _,brf _ _⟩
theorem jt6(rows:List (List Value))(hq:∀r∈rows,r.length=9)(h1:∀u∈rows.flatten,u.oneCell'=true)(a:Option Addr)(n c:Nat)(w:World)(hA:Za w a 9 rows)(hn:rows.length=n)(hl:n<=1048576):Cl 111 #[.slice a n c] w (CloneP w 77 9 n rows.flatten):=by
 obtain⟨i0,hi,aG,aH,aF⟩:=jr3
 have sR:=fun(w:World) (a:Option Addr) (n c n' c':Nat)=>Lib.run_eql_slice_nil w 33 _ a n c n' c' Tryz.underlying33
 refine clone_any hq h1 hA hn (fun s l HC HL H1=>?_) ?_
 ·clear h1 hq hn hA
  unfold Cl;go_in
  go_wp2_with (at_builtin;refine wpList_append_own _ rfl _ _ 33 rfl w.heap.size 77 i0 (.agg #[.string ⟨#[]⟩,iv 0,iv 0,iv 0,.string ⟨#[]⟩,iv 0,.string ⟨#[]⟩,iv 0,.string ⟨#[]⟩]) 9 104 Tryz.underlying33 hi aG aH aF rfl (by decide) _ _ _ rfl (World.ownsRow_made w #[] 0 (nlr _) (Nat.zero_le _) (by simp)) s n c l rfl HL.out ?qc2 H1.out ?qc4 ?qc5 ?qc6 ?_)
  case qc2=>intro j u hj;exact Lib.cell?_alloc_some _ (HC.out j u hj)
  case qc4=>unfold maxLen;omega
  case qc5=>omega
  case qc6=>simp
  intro v' w1 ai af _
  go_wp2
  go_ret
  exact⟨v',rfl,clone_end ai af⟩
 ·unfold Cl;go_in
  go_wp2
  go_ret
  exact⟨_,rfl,World.ownsRow_nil _ _ _ _,brf _ _⟩
theorem jt7(rows:List (List Value))(hq:∀r∈rows,r.length=2)(h1:∀u∈rows.flatten,u.oneCell'=true)(a:Option Addr)(n c:Nat)(w:World)(hA:Za w a 2 rows)(hn:rows.length=n)(hl:n<=1048576):Cl 112 #[.slice a n c] w (CloneP w 84 2 n rows.flatten):=by
 obtain⟨i0,hi,aG,aH,aF⟩:=jr4
 have sR:=fun(w:World) (a:Option Addr) (n c n' c':Nat)=>Lib.run_eql_slice_nil w 35 _ a n c n' c' Tryz.underlying35
 refine clone_any hq h1 hA hn (fun s l HC HL H1=>?_) ?_
 ·clear h1 hq hn hA
  unfold Cl;go_in
  go_wp2_with (at_builtin;refine wpList_append_own _ rfl _ _ 35 rfl w.heap.size 84 i0 (.agg #[.string ⟨#[]⟩,.string ⟨#[]⟩]) 2 32 Tryz.underlying35 hi aG aH aF rfl (by decide) _ _ _ rfl (World.ownsRow_made w #[] 0 (nlr _) (Nat.zero_le _) (by simp)) s n c l rfl HL.out ?qc2 H1.out ?qc4 ?qc5 ?qc6 ?_)
  case qc2=>intro j u hj;exact Lib.cell?_alloc_some _ (HC.out j u hj)
  case qc4=>unfold maxLen;omega
  case qc5=>omega
  case qc6=>simp
  intro v' w1 ai af _
  go_wp2
  go_ret
  exact⟨v',rfl,clone_end ai af⟩
 ·unfold Cl;go_in
  go_wp2
  go_ret
  exact⟨_,rfl,World.ownsRow_nil _ _ _ _,brf _ _⟩
theorem jt5(rows:List (List Value))(hq:∀r∈rows,r.length=2)(h1:∀u∈rows.flatten,u.oneCell'=true)(a:Option Addr)(n c:Nat)(w:World)(hA:Za w a 2 rows)(hn:rows.length=n)(hl:n<=1048576):Cl 109 #[.slice a n c] w (CloneP w 81 2 n rows.flatten):=by
 obtain⟨i0,hi,aG,aH,aF⟩:=jr1
 have sR:=fun(w:World) (a:Option Addr) (n c n' c':Nat)=>Lib.run_eql_slice_nil w 34 _ a n c n' c' Tryz.underlying34
 refine clone_any hq h1 hA hn (fun s l HC HL H1=>?_) ?_
 ·clear h1 hq hn hA
  unfold Cl;go_in
  go_wp2_with (at_builtin;refine wpList_append_own _ rfl _ _ 34 rfl w.heap.size 81 i0 (.agg #[.string ⟨#[]⟩,nS]) 2 40 Tryz.underlying34 hi aG aH aF rfl (by decide) _ _ _ rfl (World.ownsRow_made w #[] 0 (nlr _) (Nat.zero_le _) (by simp)) s n c l rfl HL.out ?qc2 H1.out ?qc4 ?qc5 ?qc6 ?_)
  case qc2=>intro j u hj;exact Lib.cell?_alloc_some _ (HC.out j u hj)
  case qc4=>unfold maxLen;omega
  case qc5=>omega
  case qc6=>simp
  intro v' w1 ai af _
  go_wp2
  go_ret
  exact⟨v',rfl,clone_end ai af⟩
 ·unfold Cl;go_in
  go_wp2
  go_ret
  exact⟨_,rfl,World.ownsRow_nil _ _ _ _,brf _ _⟩
theorem jxr(rows:List (List Value))(hq:∀r∈rows,r.length=6)(h1:∀u∈rows.flatten,u.oneCell'=true)(a:Option Addr)(n c:Nat)(w:World)(hA:Za w a 6 rows)(hn:rows.length=n)(hl:n<=1048576):Cl 110 #[.slice a n c] w (CloneP w 133 6 n rows.flatten):=by
 obtain⟨i0,hi,aG,aH,aF⟩:=jqj
 have sR:=fun(w:World) (a:Option Addr) (n c n' c':Nat)=>Lib.run_eql_slice_nil w 79 _ a n c n' c' Tryz.underlying79
 refine clone_any hq h1 hA hn (fun s l HC HL H1=>?_) ?_
 ·clear h1 hq hn hA
  unfold Cl;go_in
  go_wp2_with (at_builtin;refine wpList_append_own _ rfl _ _ 79 rfl w.heap.size 133 i0 (.agg #[iv 0,.string ⟨#[]⟩,iv 0,.string ⟨#[]⟩,iv 0,.string ⟨#[]⟩]) 6 72 Tryz.underlying79 hi aG aH aF rfl (by decide) _ _ _ rfl (World.ownsRow_made w #[] 0 (nlr _) (Nat.zero_le _) (by simp)) s n c l rfl HL.out ?qc2 H1.out ?qc4 ?qc5 ?qc6 ?_)
  case qc2=>intro j u hj;exact Lib.cell?_alloc_some _ (HC.out j u hj)
  case qc4=>unfold maxLen;omega
  case qc5=>omega
  case qc6=>simp
  intro v' w1 ai af _
  go_wp2
  go_ret
  exact⟨v',rfl,clone_end ai af⟩
 ·unfold Cl;go_in
  go_wp2
  go_ret
  exact⟨_,rfl,World.ownsRow_nil _ _ _ _,brf _ _⟩
